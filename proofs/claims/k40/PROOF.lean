import PyProof.Rows.All
import Wide.All
import OpenK.AllK
import Wide.FinOn
import Lean
import PyProof.EqAt
import PyProof.EqKinds
import PyProof.TupleCall
import PySem.Challenge.RW_quoteweave_k40_tellers
noncomputable section
set_option Elab.async false
set_option linter.all false
set_option compiler.extract_closed false
set_option bootstrap.genMatcherCode false
set_option genInjectivity false
set_option genSizeOf false
set_option maxRecDepth 100000
set_option maxHeartbeats 4000000
open PySem.PyData renaming str->j0,int->j1
open PySem.Value renaming none->j2,ref->kx
open PySem renaming wpAny_bind->QA,wpAny_pure->QK,wpAny_newObj_type->Q3,sizeLine_eq->qC,wpAny_loadPart'->qJ,wpAny_call_entry->qO,mem_of_lookup->qS,wpAny_callSpecial?_slot->qV,wpAny_holding->qk,Spec->qu,wpAny_typeNameOfWhole_itemiter->wC,wpAny_mono->wE,wpAny_Call_Name_kw->wG,wpAny_typeNameOfWhole_keyiter->wH,wpAny_dictEntries->wM,wpAny_setField_rec->wV,wpAny_field->wY,wpAny_truthy_bool->wc,wpAny_passesOwn->we,wpAny_dictEpoch->WC,wpAny_isOneOf_itemiter->Wl,wpAny_notOrdered_dict->Wv,wpAny_isInstance->W4,wpAny_attempt->QAD,wpAny_execs_nil->QAG,codeAny_builtin->QAI,wpAny_seqItems->QAZ,wpAny_setField->QAd,wpAny_fieldsOf->QAe,wpAny_pyIter_list->QAl,wpAny_standAt->QAw,seqIndex_of->QAx,wpAny_Call_method0_late->QAy,plainId_quiet->QAz,wpAny_newList->QA0,wpAny_eqBool_int->QA6,wpAny_specialOf->QBG,wpAny_typeOf->QBJ,wpAny_isOneOf_keyiter->QBN,builtinLookup_eq_fast->QBO,wpAny_Name->QBT,wpAny_rule->QBU,wpAny_loadName_local->QBW,wpAny_newFunctionEnv->QBX,wpAny_pyIter_revIter->QBa,wpAny_newTuple->QBh,wpAny_bindName->QBj,wpAny_loadName_free->QBl,wpAny_Tuple_spliced->QBm,evalArgs_none->QBn,wpAny_setItem_pairs->QBo,wpAny_Constant_int->QBy,wpAny_handled->QB3,wpAny_pyIter_tuple->QB4,call_reversed_list->QB5,wpAny_assign_Name->QCB,slot_list_getitem->QCF,call_meets->QCG,wpAny_pyIter_slot->QCI,wpAny_pyIter_enum->QCL,codeAny_mono->QCS,seqIndex_neg->QCT,wpAny_pyHash_str->QCX,wpAny_execs_cons->QCY,wpAny_of_eq->QCj,wpAny_throw->QCk,wpAny_letGo->QCl,storedH_new->QCm,typeIs_str->QCu,Str->QCv
open PySem.W renaming Frag->QC,kia_one->qN,fnOf->ql,nsIn->wA,keepIn->wW,mg_of->WG,codeIn->Wr,WData->QAE,codeHd_of_K->QAN,mg_none_of->QAW,methodObj->QAi,kitx_list->QAj,codeHdIn->QA4,cellsFrom_some->QA8,instObj->QBH,lookIn->QBe,kitOne->QBf,tabObj->QBk,kitx_tuple->QB0,kitx_dict->QCD,plainGet->QCZ
open List renaming length_map->QD,mem_cons_self->QE,mem_cons_of_mem->QF,length_append->QI,mem_singleton->QJ,mem_cons->QL,length_cons->QM,map_append->QN,size_toArray->QO,map_cons->QT,mem_append_right->QU,mem_map->QX,getElem?_map->Qa,mem_filter->Qb,map_map->Qc,mem_append->Qd,getElem?_eq_some_iff->Qg,nodup_cons->Qh,getElem?_eq_getElem->Qi,nil_append->Qj,range->Qm,mem_append_left->Qn,contains_iff_mem->Qo,isEmpty_iff->Qt,length_range->Qv,all_eq_true->Qw,length_filter_le->Qx,getElem?_append_right->Qy,append_assoc->Qz,getElem?_eq_none->Q2,nodup_nil->Q4,append_nil->Q5,filter_sublist->qA,length_set->qF,toArray->qG,length_take->qI,mem_range->qK,length_singleton->qL,getElem?_append_left->qP,length->qR,all_cons->qW,getElem?_set_ne->qZ,mem_of_getElem?->qa,lookup_cons->qe,nodup_append->qh,getElem?_set_self->qr,ext_getElem?->qw,length_replicate->wB,filter_cons->wI,any_cons->wK,getElem?_set->wN,length_nil->wO,find?_cons->wP,map_congr_left->wQ,map_nil->wT,length_dropLast->wb,reverse_cons->wj,getElem?_cons_succ->wt,filterMap_cons->wu,getElem?_replicate->wv,getElem?_range->ww,length_reverse->wx,any_eq_true->w4,lookup->WA,nodup_iff_pairwise_ne->WH,getElem?_modify->WK,map_snd_zip->WQ,getElem_mem->WR,not_mem_nil->WS,mem_flatMap->WT,set->Wg,map_inj_right->Wh,length_zipIdx->Wi,drop_eq_nil_of_le->Wm,map_inj_left->Wq,mem_iff_getElem?->Wz,length_drop->W5,map_fst_zip->W7,map_reverse->W9,forIn_cons->QAF,foldl_cons->QAL,zip_cons_cons->QAV,replicate->QAa,drop_eq_getElem_cons->QAf,getLast?_eq_getElem?->QAh,length_erase_of_mem->QAm,flatMap_cons->QAn,foldl_append->QAo,getElem?_cons_zero->QAs,cons_append->QA3,length_pos_of_mem->QBC,length_eq_one_iff->QBD,modify_succ_cons->QBE,modify_zero_cons->QBF,of_mem_zip->QBI,any_map->QBP,mem_zipIdx->QBR,filter_nil->QBS,getElem?_zipIdx->QBb,mem_erase_of_ne->QBc,forIn_nil->QBg,mem_map_of_mem->QBq,mergeSort_perm->QBs,set_cons_zero->QBt,set_cons_succ->QBu,mem_filterMap->QBz,set_comm->QB7,filter_append->QCA,any_eq_false->QCC,mapM_toArray->QCJ,pairwise_map->QCN,nodup_range->QCf,mem_reverse->QCg,map_id->QCp,getD->QCw,Perm->QCx
open Bool renaming false_ne_true->QG,and_eq_true->QW,false_eq_true->Qu,not_eq_true'->Q7,eq_iff_iff->Q8,and_eq_true_iff->qH,or_eq_true->wm,not_false->WL,true_and->WW,not_true->QAB,false_and->QAX,and_true->QAt,or_false->QAu,false_or->QAv,and_false->QBd,or_true->QCQ,true_or->QCR
open PySem.Heap renaming get?_push_of_some->QH,get?_push_size->QR,lt_size->QV,SameBut->qg,get?_update_self->wU,size_push->WN,get?_update_other->Wj,ExtBut->QAH,get?_push_cases->QBZ,size_update->QCe,IsList->QCi
open Nat renaming le_trans->QS,le_refl->QZ,ne_of_lt->Qk,lt_of_lt_of_le->Qr,zero_le->Qs,lt_irrefl->qU,le_succ->qz,le_of_eq->wq,lt_of_succ_lt_succ->w6,zero_add->w8,ne_of_gt->w9,lt_succ_of_lt->WF,min_le_right->WO,lt_of_le_of_lt->WX,le_of_lt->Ws,succ_le_succ->W6,lt_trans->QAU,le_add_right->QA7,lt_or_ge->QBK,sub_self->QBQ,lt_succ_self->QCW,le_of_not_lt->QCb,le_antisymm->QCs,blt->QCt
open PySem.Str renaming ofString->QY
open False renaming elim->Qf
open Option.some renaming inj->Ql,injEq->Qq
open PySem.PyData renaming eqv->Qp,strOk->qi,canLayAll0->q0,depthAll->wk,canLay0->QAc,depth->QBL,noConfusion->QB2
open Array renaming length_toList->Q0,perm_iff_toList_perm->qY,toList_inj->WP,getElem?_toList->Wt,getElem?_eq_some_iff->QAS,getElem?_eq_none->QBA,forIn_toList->QBv
open Ne renaming symm->Q1
open PySem.Obj renaming mapSeq->Q6,data_mapFields->Wa,isFreed_of_fields->QBM,data_mapDictKeys->QBY,cls_mapFields->QCH
open PySem.Heap.SameBut renaming update->Q9
open PySem.Challenge renaming pw_quoteweave_k40_tellers->qB,rw_quoteweave_k40_tellers->qQ
open Option renaming map_some->qD,map_none->wn,isNone_iff_eq_none->QAg,isSome_map->QAk,getD_none->QCa,getD_some->QCc
open PySem.Builtin.Str renaming occurrences->qE
open PySem.Paired renaming length->qM
open PyProof.Rows renaming callWith_type1->qT,subscriptTail_builtinR->qt,slot_tuple_getitem->wf,listUpdate_at->Wb,assignInOrder_cons->Wc,get?_update_seq->QAJ,boot_reversed->QAR,slot_tuple_getitem->QAT,seqEpoch_at->QBp,getItem_tuple->QB1,sortedAll_old->QB6,Subscript_->QCE,assignInOrder_nil->QCM,listItems_at->QCU,sortedAll_at->QCV
open Int renaming toNat_natCast->qX,lt_irrefl->wz,le_trans->W0,emod_eq_of_lt->QAr,natCast_nonneg->QB8,lt_of_le_of_lt->QB9,le_refl->QCq,toNat->QCr
open LawfulBEq renaming eq_of_beq->qb
open PySem.Builtin.SmallTypes renaming nextOf->qd
open PySem.F renaming slot_dict_itemiterator_next->qf,slot_dict_keyiterator_next->qj,slot_tuple_iterator_next->qm,args_tuple_iterator_next_1->WV,entry_tuple_iterator_next->WZ,plainAttrs_list->We,args_dict_itemiterator_next_1->Wn,entry_dict_itemiterator_next->Wu,args_dict_keyiterator_next_1->Wx,entry_dict_keyiterator_next->W8,slot_dict_getitem->QAb,plainAttrs_dict->QA2,slot_dict_items_iter->QA9,plain_list_iadd->QCO,slot_dict_iter->QCd
open Prod renaming fst->qp,snd->QBV,ext->QCh
open PySem.SeqAt renaming EqAt->qy
open Lean.Parser.Tactic renaming tacticSeq->wJ
open PySem.Calls renaming spliced_cons->wR,spliced_nil->WE,callWith_builtin->Wk,Name_function_global->QAP
open PySem.Builtin.Slice renaming slicePlaces->wX,sliceAdjust->WM,sliceApplied->QAQ
open PySem.Builtin.Dict_items renaming addrOf->wZ,ownsTuple->QAC
open Classical renaming byContradiction->wa
open PySem.Builtin.Tuple renaming tupleExact->wg,tupleItemsOf->QAO,tupleHashOf->QAY
open List.Pairwise renaming imp_of_mem->wo,map->Wo
open PySem.W.WData renaming weightAll->wy,weight->QAA
open PySem.Txt renaming slice->WB
open PySem.Builtin.List renaming listExtendWith->WD,listTooLong->WU,listUpdate->QA1,listItems->QBB
open PySem.Around renaming under_plainId->WI,in1_units->QA5
open Iff renaming rfl->WJ
open PySem.Builtin.Range renaming rangeSize->WY,small->QBr
open List.cons renaming injEq->Wf
open PySem.Builtin.Dict renaming showsAll->Ww
open PySem.Builtin.Int renaming intBits->QAK
open Prod.mk renaming inj->QAM
open List.Perm renaming eq_of_pairwise->QAp,refl->QBi
open PySem.StrLaws renaming sliceText->QAq
open PySem.SeqAt.EqAt renaming int_str->QBw,str_int->QBx
open PyProof.Rows.SortSt renaming mk'->QCK
open List.Sublist renaming refl->QCP
open Array.Perm renaming refl->QCn
open StateT renaming run_pure->QCo
theorem dF{p:Prop}[Decidable p](h:¬p):decide p=false:=_root_.decide_eq_false h
theorem dT{p:Prop}[Decidable p](h:p):decide p=true:=_root_.decide_eq_true h
abbrev SB:=List (PySem.Addr×PySem.Obj)
abbrev fC:=PySem.Value -> PySem.Shared -> Prop
abbrev lB:=PySem.Addr -> Prop
abbrev EC:=List (QCv×QCv)
open Option renaming some->jr,none->kd
open Bool renaming true->kb,false->kn
open PySem renaming Value->kt,sizeLine->ku,Shared->ko,wpAny->k0,Addr->k4,model->k5,mainGlobals->vx,Program->vb,compareOp->vu,Heap->xk,World->xb,starEach->x0,Paired->y1,Around->zq,PyData->gV,sysModules->gl,bootBuiltins->gp,FuncData->g6,Stmt->g7,cLine->hZ,eval->hB,Operator->hE,Scope->hQ,foldedSetIterable->fy,assignEach->fk,rawInt->fv,firstArgMember->fb,binaryOp->fm,entryOfKey->DC,sliceBounds->dy,backTo->dt,NameKind->d3,CmpOp->bb,codeAmong->b8,attributeBase->ca,letOwnedTupleGo->c0,typeNameOfWhole->Er,swapsWith->ej,recursionLimit->eH,assignInOrder->ef,swappedStores->ew,call->lj,bindArgs->lv,DictEntry->lb,builtinsNs->ln,IsItemIter->lp,atKey->lr,assign->la,ReadsAll->li,constantsAlone->l0,bindName->l4,spliced->l5,Keyword->l8,relabel->mx,valueAt->me,behindInMarks->mm,foldedForSure->mu,pyIter->mA,IsPart->mi,closureFor->nj,IntMulOk->nc,BindsTo->nL,getItem->nP,callerA->nt,eqIsQuiet->ni,TriplesOk->n7,pyNext->P0,typeLookup_type->px,codeAny->pz,bindL->pd,bindC->pc,typeLookup->pL,PlainAttrs->pR,wpAny_notIn_of->pu,newExc->p0,newTuple->p5,dictSetDefault->p6,revObj->p7,swapsWithSole->p8,rangeSize_one->RD,intBits_le_64->RB,evalPart_none->Rt,comprehension->rk,IsItemIterOut->rn,Comprehension->ri,Arguments->ro,PassesOwn->sh,cellsFrom->sn,Const->tj,holding->tv,UnaryOp->th,storedH->ti,IsRange->t3,HeapKind->u0,field->u3,raiseNew->Ar
open Pure renaming pure->aj
open PyProof.Rows renaming seqObj->ax,oneType'->ak,StrsAre->ah,AllBare->ab,envOfC->ac,pairsOf->ai,subscriptTail->a8,IntsAre->a9,sortedS->Ia,entry_list_sort->ir,slicePart_none->ii,slot_list_sort->i0,IsTup->i2,failedOf->i3
theorem ot.{u}{c:Prop}{d:Decidable c}(h:¬c){α:Sort u}{t e:α}:ite c t e=e:=_root_.if_neg h
theorem oa.{u}{c:Prop}{d:Decidable c}(h:c){α:Sort u}{t e:α}:ite c t e=t:=_root_.if_pos h
theorem o2{a b:Prop}(h:a)(k:¬a):b:=_root_.absurd h k
theorem o9{a b:Prop}(h:a<->b):a=b:=_root_.propext h
theorem QB{p:Prop}[Decidable p](h:decide p=true):p:=_root_.of_decide_eq_true h
theorem Qe{p:Prop}[Decidable p]:decide p=true<->p:=_root_.decide_eq_true_iff
theorem QP.{u,v}{α:Sort u}{β:Sort v}{a b:α}(f:α->β)(h:a=b):f a=f b:=_root_.congrArg f h
local macro_rules | `($x.$i:fieldIdx)=>if i.raw.isFieldIdx?==some 9 then `(($x).length) else Lean.Macro.throwUnsupported
set_option hygiene false in
local macro_rules
 | `(#[$xs,*])=>if xs.getElems.isEmpty then Lean.Macro.throwUnsupported else `(⟨$xs,*⟩)
 | `(())=>`(by omega)
open Lean Parser.Tactic in
def zzp:Nat->Syntax->MacroM (TSyntax `rcasesPat)
 | 0,_=>Macro.throwUnsupported
 | n+1,s=>match s with
  | `(#[$xs,*])=>do
   let a<-xs.getElems.mapM λx=>do let p<-zzp n x;`(rcasesPatLo| $p:rcasesPat)
   `(rcasesPat| ⟨$a,*⟩)
  | `(_)=>`(rcasesPat| _)
  | `($x:ident)=>`(rcasesPat| $x:ident)
  | _=>Macro.throwUnsupported
local macro_rules | `(tactic| let $p:term:=$e:term)=>do `(tactic| obtain $(<-zzp 9 p):rcasesPat:=$e)
set_option hygiene false in
local macro_rules | `(tactic| omega)=>do
 let f:=λ(s:String)=>(s.splitOn " ").toArray.map λx=>Lean.mkIdent x.toName
 let a<-(f "L2.szA L2.szB L2.szC L2.unA Nat.le_trans Nat.lt_of_le_of_lt").mapM λx=>`(wJ| exact $x (by assumption) (by decide))
 let b<-(f "Nat.lt_of_lt_of_le Nat.lt_of_le_of_lt Nat.le_trans").mapM λx=>`(wJ| exact $x (by assumption) (by assumption))
 let c<-(f "Nat.le_of_lt Nat.ne_of_lt Nat.ne_of_gt Nat.lt_succ_of_lt Nat.le_of_lt_succ L2.prA").mapM λx=>`(wJ| exact $x (by assumption))
 let d<-(f "Nat.le_refl Nat.le_succ Nat.zero_le Nat.succ_pos").mapM λx=>`(wJ| exact $x _)
 `(tactic| first|decide|assumption|exact L2.szL (by decide) $[| $a]* $[| $b]* $[| $c]* $[| $d]*|lia|omega (config:={})|(have:=PySem.sizeLine_eq;first|lia|omega (config:={})))
set_option hygiene false in
local macro_rules
 | `(%[ $xs,*|1 ])=>do
  let mut r<-`(PX.anil)
  for x in xs.getElems.reverse do r<-`(PX.acons $x $r)
  return r
 | `(%[ $xs,*|2 ])=>do
  let mut r<-`(PT.nil)
  for x in xs.getElems.reverse do r<-`(PT.seq $x $r)
  return r
def zza:="vA Lh Oh ua Nh Ph Rh Hh ya Mh ja Gh vi fu Xh Ki ui gu Ji Ca Ch Ui Ci Dh si Uh E9 lu fi iV eV Ua Xi Vi aV Yi xi Ba mh A9 Kt Zt nh Di Fa VV XV Sh Dt Eh da ga ji Ht Ih Ah Th ba jAK jAO jAL jAN jAM xu zu jAH jAJ jAI Jz az iz jAA Ez Iz Az Su Cz jAQ jAP AY Ir js Rz Pz Oz Nz Mz Lz Hz Gz Fz Dz At Tt ma Vz Kz Xz rf zi Tz Fy oO tu z4 Kh Zh rh eh Yh Jh Bl nr uh xh yh jh Ts jt mz zt F9 kh D9 G9 PN zh Ey oz Kg Sq Rq Ry Aa P4 Lo uv yz zz Ip Ay Sy jp Ao To vp Bf Vh Eg OA reduceIte"
def zzb:="RF HE NF eS T.isD lockA lG lock kill xJ Tg.ix gC bY vP HS isMut zX frzAt gX He iC.eq_1 iC.eq_2 cN.eq_1 cN.eq_2 cN.eq_3 cN.eq_4 T7 S7 R7 yJ.eq_1 List.modify_succ_cons List.modify_zero_cons Option.map_some List.length_cons List.length_nil List.getElem?_cons_zero List.getElem?_cons_succ List.cons_append List.nil_append List.set_cons_zero List.set_cons_succ Nat.reduceAdd Nat.reduceSub Nat.zero_add Bool.and_true Bool.true_and Bool.not_true Bool.not_false Bool.or_true Bool.true_or Bool.or_false Bool.false_or Bool.and_false Bool.false_and if_true if_false Bool.false_eq_true true_and and_true false_implies ne_eq reduceCtorEq not_false_eq_true not_true_eq_false implies_true forall_const Int.reduceLT Int.reduceLE Int.reducePow Int.reduceNeg Nat.reducePow and_self eq_self Option.some.injEq Sl.own.injEq Sl.bor.injEq and_assoc decide_true decide_false"
set_option hygiene false in
local macro_rules | `(tactic| simp! [$ls,*])=>do
 let a<-(zza.splitOn " ").toArray.mapM λx=>`(Lean.Parser.Tactic.simpLemma| ↓ $(Lean.mkIdent x.toName):ident)
 let b<-(zzb.splitOn " ").toArray.mapM λx=>`(Lean.Parser.Tactic.simpLemma| $(Lean.mkIdent x.toName):ident)
 `(tactic| simp only [$ls,*,$a,*,$b,*])
set_option hygiene false in
local macro_rules | `(tactic| simp_arith! [$ls,*])=>do
 let a<-(zza.splitOn " ").toArray.mapM λx=>`(Lean.Parser.Tactic.simpLemma| ↓ $(Lean.mkIdent x.toName):ident)
 let b<-(zzb.splitOn " ").toArray.mapM λx=>`(Lean.Parser.Tactic.simpLemma| $(Lean.mkIdent x.toName):ident)
 `(tactic| simp -implicitDefEqProofs only [$ls,*,$a,*,$b,*])
abbrev LS:=List QCv
abbrev LN:=List Nat
abbrev LJ:=List Int
abbrev LW:=List PySem.Value
namespace L2.L3.Q
open PySem PySem.W PySem.Spec PyProof.Rows
noncomputable def Hu(x:List k4)(h:xk):QC:=x.filterMap λa=>(h.get? a).map λo=>(a,o)
noncomputable abbrev Tu:=(Str×Str×ro×FuncBody×hQ)×(k4×List (Str×k4)×kt×k4)×Bool
noncomputable def Ko(h:g6)(b:Bool):Tu:=((h.name,h.qualname,h.params,h.body,h.scope),(h.globals,h.closure,h.defaults,h.builtins),b)
def lX(K:QC)(x:Str):Option Tu:=match wA K vx x with
 |some (jr (.ref f))=>(match K.lookup f with
  |some #[_,_,.func fd,_]=>jr (Ko fd (Wr K fd.code x&&wW K (.ref f)))|_=>kd)
 |_=>kd
def ZU(x:Str)(st:g7):Option Tu:=match st with
 | .FunctionDef _ a b _ _ _ sc _ _ _=>jr (Ko (ql x x a b sc .none .none .none .none kd .none .none) kb)|_=>kd
def Lp:kt->Option Str
 | .str z _=>jr z|_=>kd
noncomputable def Ei(K:QC)(x:Str):Option (List (Option Str)):=match wA K vx x with
 |some (jr (.ref f))=>(match K.lookup f with
  |some #[.type t,_,.seq its _,_]=>if t="tuple" then jr (its.toList.map Lp) else kd|_=>kd)
 |_=>kd
def jx:kt->Option Int
 | .int i _=>jr i|_=>kd
noncomputable def Si(K:QC)(x:Str):Option Int:=match wA K vx x with
 |some (jr u)=>jx u|_=>kd
noncomputable def XW(K:QC)(x:Str):Bool:=match wA K vx x with
 |some kd=>kb|_=>kn
noncomputable def rG(K:QC)(T:k4):Bool:=(match wA K vx "going_order" with
 |some (jr (.ref f))=>(match K.lookup f with
  |some #[_,_,.func fd,_]=>(match fd.code with
   | .ref c=>QA4 K c T|_=>kn)
  |_=>kn)
 |_=>kn)&&((match wA K vx "__builtins__" with
 |some (jr (.ref b))=>(match K.lookup b with
  |some #[.type t,jr d,.plain,_]=>t == "module" && (d==ln&&(b != ln&&(b != vx&&b != T)))|_=>kn)
 |_=>kn)&&((K.lookup T).isNone&&vx != T))
def top(i:Nat):Stmt:=qB.main.body.getD i (.Pass #[0,0,0,0])
noncomputable def fT:List (Str×Nat):=([("_law_mixed",38),("_law_cell_at",37),("_law_letters",39),("_law_spelt",40),("_law_words",41),("_law_person",42),("_law_folded",46),("_law_quote",44),("_law_event",45),("_law_against",43),("_law_world",47),("going_order",16),("has_against",21),("rank_of",19),("floor_of",20),("is_taken",18),("seen_among",23),("wrong_among",22),("live_among",24),("edges_of",27),("seers_of",26),("add_way",6),("add_name",5),("rooms_of",4),("points_reached",7),("lay_chain",8),("name_behind",10),("chain_from",9),("full_names",11),("apart_chains",3),("told_through",14),("ground_alone",13),("needs_of",29),("holders_in",28),("held_among",25),("gone",17),("_law_last",49),("_law_pairs",51),("live_in",32),("tellers_in",35),("last_moment",31),("tellers_of",34),("_law_alike",48),("_law_longer",50),("law",52)]:List (String×Nat)).map λp=>(QY p.1,p.2)
def tT:List (Str×LS):=[("BEGIN",["","begin"])]
def sT:List (Str×Int):=[("WIDE",2)]
noncomputable def nT:LS:=(["any","bool","enumerate","int","isinstance","len","list","min","range","reversed","sorted","str","tuple"]:List String).map QY
noncomputable def qv:Program:={ qB with main:={ qB.main with body:=[1,2,3,4,5,6,7,8,9,10,11,13,14,16,17,18,19,20,21,22,23,24,25,26,27,28,29,31,32,34,35,37,38,39,40,41,42,43,44,45,46,47,48,49,50,51,52].map top } }
def tA:Addr:=84
noncomputable abbrev FZ:=List (Option Tu)×List (Option (List (Option Str)))×List (Option Int)×List Bool×Bool
def seen(K:Frag):FZ:=(fT.map λp=>lX K p.1,tT.map λp=>Ei K p.1,sT.map λp=>Si K p.1,nT.map (XW K),rG K tA)
def due:FZ:=(fT.map λp=>ZU p.1 (top p.2),tT.map λp=>jr (p.2.map jr),sT.map λp=>jr p.2,nT.map λ_=>kb,kb)
def fr(s:ko):Frag:=Hu ((Qm 320).filter λa=>a != tA) s.1
def xt(s:ko):Bool:=xlAt qv [] s&&recOk (RowW.records qQ.row.toRowW) s
def ob(s:ko):FZ×Option Obj:=(seen (fr s),s.1.get? tA)
theorem lf:LeftO qB qv [] xt ob (λ_=>(due,jr (tabObj #[]))) 2976:=by intro w;kernel_rfl
theorem ws:qQ.wellSaid=true:=by kernel_rfl
end L2.L3.Q
namespace L2
open PySem PySem.Spec PyProof.Rows
section
variable{n m:Nat}
theorem szL(h:n<=16777216):n<=sizeLine:=by rw[qC];exact h
theorem jAY(h:n<16777216):n<sizeLine:=by rw[qC];exact h
theorem jAZ(h:n<=m)(k:m<=16777216):n<=sizeLine:=szL (QS h k)
theorem jAo(h:n<=m)(k:m<16777216):n<sizeLine:=jAY (WX h k)
theorem jAn(h:n<=m)(k:m<=16777216):0+n<=sizeLine:=by rw[w8];exact jAZ h k
theorem jAm{k c:Nat}(h:n+k<c)(l:m<=k):n+m<c:=WX (Nat.add_le_add_left l n) h
theorem jAp(h:m<n):n - 1<n:=by cases n with|zero=>exact(nomatch h)|succ n=>exact QCW n
end
open PySem.SeqAt
inductive NK where
 |s (x:Str)|t (xs:List NK)
noncomputable instance:DecidableEq NK:=λ_ _=>Classical.propDecidable _
mutual
def C4(h:xk):NK->kt->Prop
 | .s x,v=>∃t,v=.str x t|.t ks,v=>∃a y,v=.ref a/\h.IsTuple a y/\NKvs h ks y.toList
def NKvs(h:xk):List NK->LW->Prop
 |[],vs=>vs=[]|k::ks,vs=>∃v r,vs=v::r/\C4 h k v/\NKvs h ks r
end
mutual
def G7:NK->Nat
 | .s _=>0|.t h=>nkds h+1
def nkds:List NK->Nat
 |[]=>0|k::ks=>max (G7 k) (nkds ks)
end
mutual
def Dw(w:xb):NK->Int
 | .s x=>hashStr w x|.t h=>reduceHash (QAY (nkhs w h))
def nkhs(w:xb):List NK->LJ
 |[]=>[]|k::ks=>Dw w k::nkhs w ks
end
mutual
def uo:NK->Nat
 | .s _=>1|.t h=>nkts h+1
def nkts:List NK->Nat
 |[]=>0|k::ks=>uo k+nkts ks
end
theorem gY{h:xk}{a:k4}{xs x:Array kt}(p:h.IsTuple a xs)(q:h.IsTuple a x):xs=x:=by let#[o,e,_,n,d]:=p;let#[u,y,_,v,z]:=q;cases e.symm.trans y;cases d.symm.trans z;rfl
mutual
theorem L7{h:xk}:∀{k l:NK}{v:kt},C4 h k v->C4 h l v->k=l
 | .s x,.s y,v,#[t,e],#[u,e']=>by subst e;cases e';rfl|.s x,.t ls,v,#[t,e],#[_,_,e',_]=>by subst e;cases e'|.t ks,.s y,v,#[_,_,e,_],#[_,e']=>by subst e;cases e'|.t ks,.t ls,v,#[a,its,e,p,q],#[b,jts,e',p',q']=>by subst e;cases e';cases gY p p';rw[nks_inj q q']
theorem nks_inj{h:xk}:∀{ks ls:List NK}{vs:LW},NKvs h ks vs->NKvs h ls vs->ks=ls
 |[],[],_,_,_=>rfl|[],_::_,_,e,#[_,_,e',_]=>by cases(show _=[] from e).symm.trans e'|_::_,[],_,#[_,_,e',_],e=>by cases(show _=[] from e).symm.trans e'|k::ks,l::ls,_,#[v,r,e,p,q],#[v',r',e',p',q']=>by cases e.symm.trans e';rw[L7 p p',nks_inj q q']
end
mutual
theorem DT{h h':xk}(k:∀a its,h.IsTuple a its->h'.IsTuple a its):∀{x:NK}{v:kt},C4 h x v->C4 h' x v
 | .s x,v,e=>e|.t ks,v,#[a,its,e,p,q]=>#[a,its,e,k a its p,nks_keeps k q]
theorem nks_keeps{h h':xk}(k:∀a its,h.IsTuple a its->h'.IsTuple a its):∀{xs:List NK}{vs:LW},NKvs h xs vs->NKvs h' xs vs
 |[],_,e=>e|x::xs,_,#[v,r,e,p,q]=>#[v,r,e,DT k p,nks_keeps k q]
end
section
variable{prog:vb}{w:xb}{E:fC}
mutual
theorem TY:∀(k:NK) (v:kt) (A:zq) (s:ko) (Q:Int->ko->Prop),C4 s.1 k v->A.units+G7 k<hZ->Q (Dw w k) { s with toks:=s.toks+uo k }->k0 (k5 prog w) A (pyHash v) Q E s
 | .s x,v,A,s,Q,#[t,e],_,q=>by subst e;exact QCX q|.t ks,v,A,s,Q,#[a,its,e,#[o,ho,hc,n,hd],hi],h,q=>by subst e;have h:A.units+(nkds ks+1)<cLine:=h;refine PySem.W.pyHash_slot (T:="tuple") #[o,ho,hc] F.slot_tuple_hash F.entry_tuple_hash (F.args_tuple_hash_1 _) (beq_builtin_none _) (.inr ()) ?_;show k0 _ _ (QAO (.ref a) >>= _) _ _ s;refine QA (wpAny_tupleItemsOf ho hd ?_);refine QA ?_;rw[<- QBv];refine nk_loop ks its.toList A.in1 s #[] _ hi (by rw[QA5];omega) λb hb=>?_;show k0 _ _ (retInt (QAY b.toList)) _ _ _;rw[hb];exact QA (wpAny_mkInt (QK #[_,_,rfl,by rw[Nat.add_assoc];exact q]))
theorem nk_loop:∀(ks:List NK) (vs:LW) (A:zq) (s:ko) (b:Array Int) (Q:Array Int->ko->Prop),NKvs s.1 ks vs->A.units+nkds ks<hZ ->
  (∀y,y.toList=b.toList++nkhs w ks->Q y { s with toks:=s.toks+nkts ks }) ->
  k0 (k5 prog w) A (forIn vs b λx r=>do let h <- pyHash x;aj PUnit.unit;aj (ForInStep.yield (r.push h))) Q E s
 |[],vs,A,s,b,Q,e,_,q=>by subst e;exact QK (q b (Q5 _).symm)|k::ks,vs,A,s,b,Q,#[v,r,e,p,p'],z,q=>by subst e;have z:A.units+max (G7 k) (nkds ks)<cLine:=z;rw[QAF];refine QA (QA (TY k v A s _ p () ?_));refine QA (QK (QK ?_));refine nk_loop ks r A _ _ Q p' () λy hb=>?_;have e:s.toks+uo k+nkts ks=s.toks+(uo k+nkts ks):=Nat.add_assoc _ _ _;have:=q y (by rw[hb,Array.toList_push,Qz];rfl);show Q y { s with toks:=s.toks+uo k+nkts ks };rw[e];exact this
end
end
theorem Hn{ks ls:List NK}{n m:Nat}(x:n=ks.9)(hm:m=ls.9):((Qm (min n m)).all (λj=>decide (ks[j]?=ls[j]?))&&n==m)=decide (NK.t ks=NK.t ls):=by subst x hm;rw[Q8,Qe,QW,Qw,beq_iff_eq];constructor;rintro⟨y,u⟩;congr 1;refine qw λj=>?_;by_cases z:j<ks.9;exact QB (y j (qK.mpr ()));rw[Q2 (),Q2 ()];intro h;injection h with h;subst h;exact#[λ_ _=>dT rfl,rfl]
theorem mR{h:xk}:∀{ks:List NK}{vs:LW},NKvs h ks vs->vs.9=ks.9
 |[],_,e=>by cases(show _=[] from e);rfl|_::_,_,#[v,r,e,_,q]=>by rw[e,QM,QM,mR q]
mutual
theorem ig:∀(k l:NK) (v u:kt) (A:zq) (s:ko),C4 s.1 k v->C4 s.1 l u->A.units+G7 k<hZ->EqAt A s v u (decide (k=l))
 | .s x,.s y,v,u,A,s,#[t,e],#[t',e'],_=>by
  subst e e';have:=EqAt.str_str (A:=A) (s:=s) x t y t';have z:(x==y)=decide (NK.s x=NK.s y):=by rw[Q8,Qe,beq_iff_eq];exact#[λh=>h▸rfl,λh=>by injection h]
  rw[<- z];exact this
 | .s x,.t ls,v,u,A,s,#[t,e],#[b,jts,e',p,_],f=>by subst e e';rw[dF λh=>by cases h];exact EqAt.str_tuple x t p ()|.t ks,.s y,v,u,A,s,#[a,its,e,p,_],#[t,e'],f=>by subst e e';rw[dF λh=>by cases h];exact EqAt.tuple_str y t p ()|.t ks,.t ls,v,u,A,s,#[a,its,e,p,q],#[b,jts,e',p',q'],f=>by subst e e';by_cases w:a=b;subst w;cases gY p p';rw[nks_inj q q',dT rfl];exact EqAt.same _;have f:A.units+(nkds ks+1)<cLine:=f;refine EqAt.of_refs w ?_;have i:=mR q;have g:=mR q';rw[Q0]at i g;rw[<- Hn i g];refine RcAt.tuples p p' () λj n m=>?_;have:=nks_eq ks ls its.toList jts.toList A.in1 s q q' (by rw[QA5];omega) j (by rw[Q0];exact n) (by rw[Q0];exact m);simpa using this
theorem nks_eq:∀(ks ls:List NK) (vs us:LW) (A:zq) (s:ko),NKvs s.1 ks vs->NKvs s.1 ls us->A.units+nkds ks<hZ->∀j (y:j<vs.9) (x:j<us.9),EqAt A s vs[j] us[j] (decide (ks[j]?=ls[j]?))
 |[],_,vs,us,A,s,e,_,_,j,y,_=>by cases(show vs=[] from e);cases y|_::_,[],vs,us,A,s,_,e,_,j,_,x=>by cases(show us=[] from e);cases x|k::ks,l::ls,_,_,A,s,#[v,r,e,p,q],#[v',r',e',p',q'],u,j,y,x=>by
  subst e e';have u:A.units+max (G7 k) (nkds ks)<cLine:=u;cases j with|zero=>have:=ig k l v v' A s p p' ();have z:decide (k=l)=decide ((k::ks)[0]?=(l::ls)[0]?):=decide_eq_decide.mpr #[λh=>by rw[h];rfl,λh=>Ql h];rw[<- z];exact this|succ j=>exact nks_eq ks ls r r' A s q q' () j (w6 y) (w6 x)
end
section
variable{prog:vb}{w:xb}{A:zq}{E:fC}{s:ko}
mutual
theorem CT:∀(k:NK) (v:kt) (n:Nat) (Q:Bool->ko->Prop),C4 s.1 k v->G7 k<=n->Q kb s->k0 (k5 prog w) A (ni n v) Q E s
 | .s x,v,n,Q,#[t,e],_,q=>by subst e;rw[eqIsQuiet_byValue _ rfl];exact QK q|.t ks,v,n,Q,#[a,its,e,#[o,ho,hc,m,hd],hi],g,q=>by
  subst e;have g:nkds ks+1<=n:=g;obtain⟨n,rfl⟩:∃m,n=m+1:=#[n - 1,()]
  have i:s.TypeIs (.ref a) "tuple":=#[o,ho,hc]
  unfold ni;refine QA (QBG i F.slot_tuple_eq.lookup ?_);show k0 _ _ (isInstance (.ref a) (.type "tuple") >>= _) _ _ s;refine QA (W4 i isSubtype_tuple_tuple ?_);simp only[QAB,Qu,if_false];refine QA (QAZ ho hd ?_);refine QA ?_;show k0 _ _ (forIn its _ _) _ _ s;rw[<- QBv];refine wpAny_forIn_list _ (λh r z=>r.1=kd/\z=s/\∀v∈h,∀Q:Bool->ko->Prop,Q kb s->k0 (k5 prog w) A (ni n v) Q E s) _ ?_ ?_ _ _ #[rfl,rfl,nks_quiet ks its.toList n hi ()];rintro v h r z ⟨f,rfl,y⟩;refine QA (y v QE _ ?_);simp only[QAB,Qu,if_false];exact QK #[rfl,rfl,λu b=>y u (QF _ b)];rintro⟨j,l⟩ z ⟨f,rfl,_⟩;cases(show j=kd from f);exact QK q
theorem nks_quiet:∀(ks:List NK) (vs:LW) (n:Nat),NKvs s.1 ks vs->nkds ks<=n->∀v∈vs,∀Q:Bool->ko->Prop,Q kb s->k0 (k5 prog w) A (ni n v) Q E s
 |[],vs,n,e,_,v,hv,Q,q=>by cases(show vs=[] from e);cases hv|k::ks,vs,n,#[x,r,e,p,p'],h,v,hv,Q,q=>by subst e;have h:max (G7 k) (nkds ks)<=n:=h;rcases QL.mp hv with rfl|hv;exact CT k v n Q p () q;exact nks_quiet ks r n p' () v hv Q q
end
end
section
variable{H:Hp}{a b:k4}{o:HO}
def xF(prog:vb)(w:xb):u0 prog w NK where
 is:=λh k a=>C4 h k (.ref a)/\G7 k<=6
 hash:=Dw w
 draws:=uo
 room:=λA=>A.units+8<hZ
 inj:=λy u=>L7 y.1 u.1
 keeps:=λ{h l k a d o m p} x i j hs=>#[DT (λb f #[ob,e,c,n,v]=>#[ob,(hs.2 b λz=>by subst z;cases e.symm.trans i;cases j.symm.trans v).trans e,c,n,v]) x.1,x.2]
 pyHash:=λg hk h=>TY _ _ _ _ _ hk.1 (by have:=hk.2;omega) h
 eqBool:=λg y u h=>ig _ _ _ _ _ _ y.1 u.1 (by have:=y.2;omega) _ _ _ _ h
 quiet:=λhk h=>CT _ _ _ _ hk.1 (by have:=hk.2;omega) h
noncomputable abbrev Key:=Sum Int Str
noncomputable def UP:Key->kt->Bool
 | .inl k,v=>Value.isInt k v|.inr x,v=>Value.isStrOf x v
noncomputable def Iw(w:xb):Key->Int
 | .inl k=>hashInt k|.inr x=>hashStr w x
theorem IA:∀{k:Key}{v:kt},UP k v=kb->(∃i t,k=Sum.inl i/\v=Value.int i t)∨(∃x t,k=Sum.inr x/\v=Value.str x t)
 | .inl i,v,h=>by let#[t,e]:=Value.isInt_shape (k:=i) (v:=v) h;exact .inl #[i,t,rfl,e]|.inr x,v,h=>by let#[t,e]:=Value.isStrOf_shape (x:=x) (v:=v) h;exact .inr #[x,t,rfl,e]
theorem j3(i:Int)(t:Tok):UP (.inl i) (.int i t)=true:=by simp[UP,Value.isInt]
theorem E2(x:Str)(t:Tok):UP (.inr x) (.str x t)=true:=by simp[UP,Value.isStrOf]
theorem vm(a b:Int):decide ((Sum.inl a:Key)=Sum.inl b)=(a==b):=by by_cases e:a=b;subst e;simp;have h:¬ (Sum.inl a:Key)=Sum.inl b:=λq=>e (Sum.inl.inj q);rw[dF h];exact(beq_eq_false_iff_ne.mpr e).symm
theorem ym(a b:Str):decide ((Sum.inr a:Key)=Sum.inr b)=decide (a=b):=by by_cases e:a=b;subst e;simp;have h:¬ (Sum.inr a:Key)=Sum.inr b:=λq=>e (Sum.inr.inj q);rw[dF h,dF e]
theorem km(a:Int)(b:Str):decide ((Sum.inl a:Key)=Sum.inr b)=false:=dF (λq=>nomatch q)
theorem zm(a:Str)(b:Int):decide ((Sum.inr a:Key)=Sum.inl b)=false:=dF (λq=>nomatch q)
def zE(prog:vb)(w:xb):PySem.KeyKind prog w Key where
 is:=UP
 hash:=Iw w
 inj:=λv a b f hb=>by
  rcases IA f with⟨i,t,rfl,rfl⟩| ⟨x,t,rfl,rfl⟩
  rcases IA hb with⟨j,u,rfl,e⟩| ⟨y,u,rfl,e⟩
  ·injection e with e1 _;rw[e1]
  exact nomatch e;rcases IA hb with⟨j,u,rfl,e⟩| ⟨y,u,rfl,e⟩
  ·exact nomatch e
  injection e with e1 _;rw[e1]
 byValue:=λk v h=>by rcases IA h with⟨i,t,rfl,rfl⟩| ⟨x,t,rfl,rfl⟩<;>rfl
 pyHash:=λhv h=>by
  rcases IA hv with⟨i,t,rfl,rfl⟩| ⟨x,t,rfl,rfl⟩
  exact wpAny_pyHash_int h;exact QCX h
 eqBool:=λz hv h=>by
  rcases IA z with⟨i,t,rfl,rfl⟩| ⟨x,t,rfl,rfl⟩
  rcases IA hv with⟨j,u,rfl,rfl⟩| ⟨y,u,rfl,rfl⟩
  ·rw[vm]at h;exact QA6 h
  rw[km]at h;exact QBw i t y u _ _ _ _ h;rcases IA hv with⟨j,u,rfl,rfl⟩| ⟨y,u,rfl,rfl⟩
  ·rw[zm]at h;exact QBx x t j u _ _ _ _ h
  rw[ym]at h;exact wpAny_eqBool_str h
 «strs»:=λk x t v h=>by
  rcases IA h with⟨i,u,rfl,e⟩| ⟨y,u,rfl,e⟩
  exact nomatch e;injection e with e1 _;subst e1;cases v<;>rfl
theorem RT(prog:vb)(w:xb)(i:Int)(t:Tok):(zE prog w).is (.inl i) (.int i t)=true:=j3 i t
theorem OT(prog:vb)(w:xb)(x:Str)(t:Tok):(zE prog w).is (.inr x) (.str x t)=true:=E2 x t
set_option genInjectivity true in
inductive V where
 |non|bl (b:Bool)|int (i:Int)|str (x:Str)|byt (b:Array UInt8)|flt (b:UInt64)|ref (a:k4)|ty (n:String)
 deriving DecidableEq
abbrev LV:=List V
def aA:V->kt->Prop
 | .non,u=>u=j2|.bl b,u=>u=Value.bool b|.int i,u=>∃t,u=Value.int i t|.str x,u=>∃t,u=Value.str x t|.byt b,u=>∃t,u=Value.bytes b t|.flt b,u=>∃t,u=Value.float b t|.ref a,u=>u=kx a|.ty n,u=>u=Value.type n
noncomputable abbrev nA:LV->LW->Prop:=y1 aA
theorem nA.length{xs:LV}{us:LW}(r:nA xs us):xs.9=us.length:=qM r
theorem nA.get:∀{xs:LV}{us:LW}{i:Nat}{x:V},nA xs us->xs[i]?=jr x->∃u,us[i]?=jr u/\aA x u
 |_,_,_,_,.nil,e=>by simp at e|_,_,0,_,.cons r _,e=>by simp at e;subst e;exact#[_,rfl,r]|_,_,i+1,x,.cons _ t,e=>by let#[u,y,h]:=nA.get (i:=i) (x:=x) t (by simpa using e);exact#[u,by simpa using y,h]
theorem nA.set{x:V}{u:kt}(r:aA x u):∀{xs:LV}{us:LW}(i:Nat),nA xs us->nA (xs.set i x) (us.set i u)
 |_,_,_,.nil=>.nil|_,_,0,.cons _ t=>.cons r t|_,_,i+1,.cons q t=>.cons q (nA.set r i t)
theorem nA.append:∀{xs h:LV}{us ws:LW},nA xs us->nA h ws->nA (xs++h) (us++ws)
 |_,_,_,_,.nil,s=>s|_,_,_,_,.cons r t,s=>.cons r (nA.append t s)
theorem nA.take:∀{xs:LV}{us:LW}(n:Nat),nA xs us->nA (xs.take n) (us.take n)
 |_,_,0,_=>.nil|_,_,_+1,.nil=>.nil|_,_,n+1,.cons r t=>.cons r (nA.take n t)
theorem nA.drop:∀{xs:LV}{us:LW}(n:Nat),nA xs us->nA (xs.drop n) (us.drop n)
 |_,_,0,r=>r|_,_,_+1,.nil=>.nil|_,_,n+1,.cons _ t=>nA.drop n t
def rV:Option V->Option kt->Prop
 |some v,jr u=>aA v u|none,kd=>True|_,_=>False
def KV{h:Type}:List (h×V)->List (h×kt)->Prop:=y1 λ(p:h×V) (q:h×kt)=>p.1=q.1/\aA p.2 q.2
def kV:Key->V
 | .inl i=>.int i|.inr x=>.str x
inductive HO where
 |lst (xs:LV)
 |tup (xs:LV)
 |dK (kvs:List (Key×V))|dT (ep:Nat) (kvs:List (NK×k4×V))
 |set (S:Int->Bool) (n:Nat)
 |ins (C dx:k4) (fs:List (Str×V))
 |own (x:k4)
 |xd (fs:List (Str×V))
 |met (f x:k4)
 |rng (lo hi:Int)
 |frz (o:Obj) (u:HO)
 |tbl (q:Str)
 |ext (φ:xk->Prop)
noncomputable abbrev Hp:=k4->Option HO
noncomputable def CA(H:Hp)(a:k4)(o:HO):Hp:=λb=>if b=a then jr o else H b
theorem pA:CA H a o a=jr o:=by unfold CA;rw[oa rfl]
theorem xA(h:b≠a):CA H a o b=H b:=by unfold CA;rw[ot h]
theorem Yb{u:HO}:CA (CA H a o) a u=CA H a u:=by funext b;unfold CA;split<;>rfl
theorem JA(h:H a=jr o)(h':H b=kd):a≠b:=by intro e;subst e;rw[h]at h';cases h'
end
section
variable(P:vb)(w:xb)
def HA(H:Hp)(h:xk)(a:k4):HO->Prop
 | .lst k=>k.9<=ku/\∃(z:LW) (n:Nat),nA k z/\h.get? a=jr { cls:=.type "list",data:=.seq z.toArray n }|.tup k=>k.9<=ku/\∃z:LW,nA k z/\i2 h a z.toArray|.dK y=>y.9<=ku/\(a==gl)=kn/\∃m,KV y m/\h.DictOf (zE P w) a m|.dT W y=>y.9<=ku/\(a==gl)=kn/\∃k:List (NK×k4×kt),
   y1 (λ(p:NK×k4×V) (q:NK×k4×kt)=>p.1=q.1/\p.2.1=q.2.1/\aA p.2.2 q.2.2) y k /\
   ∃o X,h.get? a=jr o/\o.ExactDict/\o.data=.dict X W/\X.toList=k.map (DC (xF P w))/\(k.map (·.1)).Nodup
 | .set S n=>h.SetOf (intKind P w) a S n|.ins C e fs=>H e=jr (.own a)/\fs.9<=1000/\e≠a/\h.get? a=jr (QBH C e) /\
   ∃b,h.Ns1 e b/\(∀f,rV (fs.lookup f) (b f))/\PySem.Within b (fs.map (·.1))
 | .own _=>∃o,h.get? a=jr o|.xd fs=>∃b,h.Ns1 a b/\∀f,rV (fs.lookup f) (b f)|.rng Y Z=>∃t u v,h.get? a=jr { cls:=.type "range",data:=.fields (qG [.int Y t,.int Z u,.int 1 v]) }|.frz o u=>h.get? a=jr o/\HA H h a u|.tbl q=>∃i,h.get? a=jr { cls:=.none,data:=.fields i }/\n7 i.toList/\∀j l,b8 j i.toList=jr l->∃c,l=.ref c/\H c=jr (.own a)/\h.CodeRec l q|.met f x=>h.get? a=jr (QAi (.ref f) (.ref x))|.ext g=>g h/\(∃o,h.get? a=jr o)/\∀s r:xk,g s->(∀o,s.get? a=jr o->r.get? a=jr o)->g r
def yM(H:Hp)(h:xk):Prop:=∀a o,H a=jr o->HA P w H h a o
end
section
variable{P:vb}{w:xb}{H i:Hp}{h h':xk}{a:k4}{o:HO}
theorem HA.lt(x:HA P w H h a o):a<h.1.size:=by
 cases o with|lst v=>let#[_,_,_,_,e]:=x;exact QV e|tup v=>let#[_,_,_,p]:=x;exact p.lt|dK z=>let#[_,_,_,_,o,_,_,e,_]:=x;exact QV e|dT j z=>let#[_,_,_,_,o,_,e,_]:=x;exact QV e|set S n=>let#[o,_,_,_,e,_]:=x;exact QV e|ins C l fs=>let#[_,_,_,e,_]:=x;exact QV e|own y=>let#[_,e]:=x;exact QV e|xd fs=>let#[_,#[_,_,_,e,_],_]:=x;exact QV e|rng b g=>let#[_,_,_,e]:=x;exact QV e|frz ob u=>let#[e,_]:=x;exact QV e|tbl q=>let#[_,e,_]:=x;exact QV e|met f y=>exact QV (show h.get? a=jr _ from x)|ext k=>let#[_,#[_,e],_]:=x;exact QV e
theorem Paired.mapP{α z:Type}{F G:α->z->Prop}:∀{y:List α}{x:List z},y1 F y x->(∀a b,F a b->G a b)->y1 G y x
 |_,_,.nil,_=>.nil|_,_,.cons r t,f=>.cons (f _ _ r) (Paired.mapP t f)
theorem HA.stay(x:HA P w H h a o)(k:∀b u,(b=a∨H b=jr (.own a))->h.get? b=jr u->h'.get? b=jr u)
  (K:∀b,H b=jr (.own a)->i b=jr (.own a)) (O:∀b xs,H b=jr (.tup xs)->i b=jr (.tup xs)):HA P w i h' a o:=by
 induction o with|lst xs=>let#[z,m,n,r,e]:=x;exact#[z,m,n,r,k _ _ (.inl rfl) e]|tup xs=>let#[z,m,r,ob,e,c]:=x;exact#[z,m,r,ob,k _ _ (.inl rfl) e,c]|dK W=>let#[z,y,s,r,ob,j,l,e,c]:=x;exact#[z,y,s,r,ob,j,l,k _ _ (.inl rfl) e,c]|dT l W=>let#[z,y,xs,r,ob,j,e,c]:=x;exact#[z,y,xs,r,ob,j,k _ _ (.inl rfl) e,c]|set S n=>let#[ob,j,l,t,e,c]:=x;exact#[ob,j,l,t,k _ _ (.inl rfl) e,c]|ins C R fs=>let#[d,z,F,e,Z,#[Y,j,l,J,c],r]:=x;exact#[K _ d,z,F,k _ _ (.inl rfl) e,Z,#[Y,j,l,k _ _ (.inr d) J,c],r]|own y=>let#[ob,e]:=x;exact#[ob,k _ _ (.inl rfl) e]|xd fs=>let#[Z,#[Y,j,l,e,c],r]:=x;exact#[Z,#[Y,j,l,k _ _ (.inl rfl) e,c],r]|rng N Q=>let#[t,u,v,e]:=x;exact#[t,u,v,k _ _ (.inl rfl) e]|frz ob u G=>let#[e,q]:=x;exact#[k _ _ (.inl rfl) e,G q]|tbl q=>let#[E,e,t,f]:=x;refine#[E,k _ _ (.inl rfl) e,t,λX L g=>?_];let#[c,rfl,o,c1,ob,s,B,A,I,r]:=f X L g;cases A;exact#[c,rfl,K _ o,c,ob,s,B,rfl,k _ _ (.inr o) I,r]|met f y=>have e:h.get? a=jr (QAi (.ref f) (.ref y)):=x;show h'.get? a=jr (QAi (.ref f) (.ref y));exact k a _ (.inl rfl) e|ext M=>let#[p,#[o,e],st]:=x;exact#[st _ _ p λo q=>k _ _ (.inl rfl) q,#[o,k _ _ (.inl rfl) e],st]
theorem yM.lt(x:yM P w H h)(e:H a=jr o):a<h.1.size:=(x a o e).lt
theorem yM.fresh(x:yM P w H h)(e:h.1.size<=a):H a=none:=by
 cases q:H a with|none=>rfl|some u=>exact o2 (Qr (x.lt q) e) (qU _)
theorem yM.kept(x:yM P w H h)(k:∀b u,h.get? b=jr u->h'.get? b=jr u):yM P w H h':=λa o e =>
 (x a o e).stay (λb u _ q=>k b u q) (λ_ q=>q) λ_ _ q=>q
theorem yM.laid(x:yM P w H h)(k:∀b u,h.get? b=jr u->h'.get? b=jr u)(z:h.1.size<=a)(new:HA P w (CA H a o) h' a o):yM P w (CA H a o) h':=λb u e=>by have y:=x.fresh z;by_cases hb:b=a;subst hb;rw[pA]at e;cases e;exact new;rw[xA hb]at e;exact(x b u e).stay (λc v _ q=>k c v q) (λc q=>by rw[xA (JA q y)];exact q) λc f q=>by rw[xA (JA q y)];exact q
end
def Rd(H:Hp)(a:k4)(u:HO):Prop:=H a=jr u∨∃o,H a=jr (.frz o u)
theorem Rd.ok{P:vb}{w:xb}{H:Hp}{h:xk}{a:k4}{u:HO}(r:Rd H a u)(x:yM P w H h):HA P w H h a u:=by
 rcases r with r|⟨o,r⟩
 exact x a u r;let#[_,q]:=x a _ r;exact q
def Xo:Option HO->Prop
 |some (.lst _)=>True|some (.dK _)=>True|some (.dT _ _)=>True|some (.set _ _)=>True|some (.ins _ _ _)=>True|some (.ext _)=>True|_=>False
section
variable{P:vb}{w:xb}{H:Hp}{h h':xk}{x e:k4}{a:HO}
theorem yM.write(ok:yM P w H h)(l:Xo (H x))(o:e=x∨H e=jr (.own x))(k:∀b u,b≠e->h.get? b=jr u->h'.get? b=jr u)(m:∃u,h'.get? e=jr u)
  (new:HA P w (CA H x a) h' x a):yM P w (CA H x a) h':=λb u q=>by
 have g:∀c y,H c=jr (.own y)->c≠x:=λc y r z=>by subst z;rw[r]at l;exact l
 have i:∀c j,H c=jr (.tup j)->c≠x:=λc j r z=>by subst z;rw[r]at l;exact l
 by_cases hb:b=x;subst hb;rw[pA]at q;cases q;exact new;rw[xA hb]at q;by_cases f:b=e;have n:H b=jr (.own x):=by rcases o with z|z;exact o2 (f.trans z) hb;rw[f];exact z
 rw[q]at n;cases n;let#[v,hv]:=m;exact#[v,by rw[f];exact hv];refine(ok b u q).stay (λc v hc r=>k c v ?_ r) (λc r=>by rw[xA (g c b r)];exact r) λc j r=>by rw[xA (i c j r)];exact r
 rcases hc with rfl|hc;exact f;rintro rfl;rcases o with z|z;exact g c b hc z;rw[hc]at z;cases z;exact hb rfl
end
structure Un(fs ex:List k4)(H H':Hp)(h h':xk):Prop where
 keep:∀b o,h.get? b=jr o->H b=kd->b∉fs->b∉ex->h'.get? b=jr o
 slot:∀b o,h.get? b=jr o->H b=kd->b∈fs->b∉ex->∃sl,h'.get? b=jr { o with slots:=sl }
 free:∀b o,h.get? b=jr o->H b=kd->b∉ex->H' b=kd
 there:∀b o,h.get? b=jr o->b∉ex->∃o',h'.get? b=jr o'
 tups:∀b xs,H b=jr (.tup xs)->H' b=jr (.tup xs)
 frzs:∀b o u,H b=jr (.frz o u)->H' b=jr (.frz o u)
 tbls:∀b q,H b=jr (.tbl q)->H' b=jr (.tbl q)
section
variable{y w ex c:List k4}{H d g:Hp}{h v f h':xk}{a x e:k4}{o:HO}
theorem Un.any(u:Un y ex H d h v){b:k4}{ob:Obj}(q:h.get? b=jr ob)(n:H b=kd)(z:b∉ex):∃k,v.get? b=jr { ob with slots:=k }:=by by_cases hb:b∈y;exact u.slot b ob q n hb z;exact#[ob.slots,u.keep b ob q n hb z]
theorem Un.kept(k:∀b u,h.get? b=jr u->h'.get? b=jr u):Un y ex H H h h' :=
 #[λb ob q _ _ _=>k b ob q,λb ob q _ _ _=>#[ob.slots,k b ob q],λ_ _ _ n _=>n,λb ob q _=>#[ob,k b ob q],λ_ _ q=>q,λ_ _ _ q=>q,λ_ _ q=>q]
theorem Un.refl:Un y ex H H h h:=Un.kept λ_ _ q=>q
theorem Un.laid(k:∀b u,h.get? b=jr u->h'.get? b=jr u)(j:h.1.size<=a)(z:H a=kd):Un y ex H (CA H a o) h h' where
 keep:=λb u q _ _ _=>k b u q
 slot:=λb u q _ _ _=>#[u.slots,k b u q]
 free:=λb u q n _=>by rw[xA (Qk (Qr (QV q) j))];exact n
 there:=λb u q _=>#[u,k b u q]
 tups:=λb i q=>by rw[xA (JA q z)];exact q
 frzs:=λb u i q=>by rw[xA (JA q z)];exact q
 tbls:=λb l q=>by rw[xA (JA q z)];exact q
theorem Un.write(j:Xo (H x))(s:e=x∨H e=jr (.own x))(k:∀b u,b≠e->h.get? b=jr u->h'.get? b=jr u)(l:∃u,h'.get? e=jr u):Un y ex H (CA H x o) h h':=by
 have m:∀b,H b=kd->b≠x:=λb n z=>by subst z;rw[n]at j;exact j
 have hb:∀b,H b=kd->b≠e:=λb n z=>by subst z;rcases s with r|r;exact m b n r;rw[n]at r;cases r
 have hm:∀b u,H b=jr u->¬ Xo (jr u)->b≠x:=λb u q nm z=>by subst z;rw[q]at j;exact nm j
 refine#[λb u q n _ _=>k b u (hb b n) q,λb u q n _ _=>#[u.slots,k b u (hb b n) q],λb u q n _=>by rw[xA (m b n)];exact n,λb u q _=>?_,
  λb p q=>by rw[xA (hm b _ q λz=>z)];exact q,λb u p q=>by rw[xA (hm b _ q λz=>z)];exact q,λb X q=>by rw[xA (hm b _ q λz=>z)];exact q]
 by_cases i:b=e;subst i;exact l;exact#[u,k b u i q]
end
section
variable{h:xk}{b:k4}{o:Obj}
noncomputable def Ju(h:xk)(H:Hp):List Addr:=(Qm h.1.size).filter λa=>(H a).isSome
def PR(h:xk)(H:Hp):Heap:=PySem.W.hideAll h (Ju h H)
theorem U3(h:xk)(H:Hp):(PR h H).1.size=h.1.size:=PySem.W.hideAll_size _ _
theorem S8{H:Hp}(e:h.get? b=jr o)(n:H b=kd):(PR h H).get? b=jr o :=
 PySem.W.hideAll_get _ e λhm=>by have q:(H b).isSome=true:=(Qb.mp hm).2;rw[n]at q;simp at q
theorem Zd{H:Hp}(e:(PR h H).get? b=jr o):h.get? b=jr o/\H b=none:=by
 have y:h.get? b=jr o:=PySem.W.of_hideAll (Ju h H) e;refine#[y,?_];cases q:H b with|none=>rfl|some x=>have hm:b∈Ju h H:=Qb.mpr #[qK.mpr (QV y),by simp[q]];have z:(PR h H).get? b=none:=PySem.W.hideAll_none (Ju h H) hm;rw[z]at e;cases e
structure Mod(K:QC)(mg:Str->Option kt)(base:xk):Prop where
 kin:K.In base
 glob:base.Ns vx mg
 blt:∃mb,base.Ns ln mb/\∀x:Str,x≠"__name__"->mb x=gp x
 nolimit:base.NoLimit
structure Cx where
 prog:vb
 w:xb
 K:QC
 mg:Str->Option kt
 base:xk
 A:zq
 N:LS
 s₀:ko
 H₀:Hp
 env:Env
 outer:List Env
 stack:List Env
 ex:List k4
 fn:Str->Bool
 calm:Bool
 pn:SB
 xe:kt->ko->Prop
def oZ(l:List Env):List Addr:=l.filterMap (·.frame)
noncomputable abbrev Cx.fs(X:Cx):List Addr:=oZ X.outer
def Vo(sc:hQ)(x:Str):Prop:=sc.names.lookup x=jr .local∨sc.names.lookup x=jr .cell∨sc.names.lookup x=jr .free
def Uo(sc:hQ)(x:Str):Prop:=sc.names.lookup x=jr .local∨sc.names.lookup x=jr .cell
def Cy(env:Env)(h:xk)(m:Str->Option kt)(x:Str)(u:kt):Prop :=
 (env.kindOf x=jr .local/\m x=jr u)∨((env.kindOf x=jr .cell∨env.kindOf x=jr .free)/\∃c,env.cells.lookup x=jr c/\h.IsCell c (jr u))
def kQ(mg:Str->Option kt)(x:xk)(P:k4)(q:Str):Prop :=
 ∃f o y c,mg "going_order"=jr (.ref f)/\x.get? f=jr o/\o.data=.func y/\y.code=.ref c/\PySem.W.CodeHd x c P/\q=y.qualname++".<locals>.<lambda>"
structure Cx.Ok(X:Cx):Prop where
 mod:Mod X.K X.mg X.base
 kind:X.env.scope.kind=.function
 glob:X.env.globals=vx
 blt:X.env.builtins=ln
 above:X.s₀.1.1.size<=X.env.locals
 inj:∀x y c,X.env.cells.lookup x=jr c->X.env.cells.lookup y=jr c->x=y
 has:∀x,(X.env.kindOf x=jr .cell∨X.env.kindOf x=jr .free)->∃c,X.env.cells.lookup x=jr c
 cab:∀x c,X.fn x=kb->X.env.cells.lookup x=jr c->X.s₀.1.1.size<=c
 hd:X.calm=kb->X.A.handled=kd
 frames:X.A.frames=jr X.stack
 stk:X.stack=X.outer∨(X.stack=X.env::X.outer/\X.env.frame=jr X.env.locals)
 exf:∀b∈X.ex,b≠X.env.locals/\∀x c,X.env.cells.lookup x=jr c->c≠b
 bs:∀b o,X.base.get? b=jr o->X.s₀.1.get? b=jr o/\X.H₀ b=kd
 bsz:X.base.1.size<=X.s₀.1.1.size
 noex:∀b o,X.base.get? b=jr o->b∉X.ex
 exfs:∀b∈X.ex,b∉X.fs
 funs:X.s₀.1.FunFrames X.base X.outer
 frf:∀b∈X.fs,X.H₀ b=kd
 tb:∀P q,kQ X.mg X.base P q->X.H₀ P=jr (.tbl q)
structure Inv(X:Cx)(pins:SB)(σ:List (Option V))(H:Hp)(s:ko):Prop where
 ok:X.Ok
 os:s.os=X.s₀.os
 bare:ab s.gens
 base:Un X.fs X.ex X.H₀ H X.s₀.1 s.1
 loc:∃m,s.1.Ns X.env.locals m/\∀(i:Nat) (x:Str) (v:V),X.N[i]?=jr x->σ[i]?=jr (jr v)->Vo X.env.scope x->∃u,aA v u/\Cy X.env s.1 m x u
 cell:∀x c,X.env.cells.lookup x=jr c->∃v,s.1.IsCell c v
 free:H X.env.locals=kd
 freeC:∀x c,X.env.cells.lookup x=jr c->H c=kd
 pin:∀p∈X.pn++pins,s.1.get? p.1=jr p.2/\H p.1=kd/\p.1≠X.env.locals/\p.1∉X.fs/\∀v,p.2.data≠.cell v
 hok:yM X.prog X.w H s.1
 len:σ.9=X.N.9
end
section
variable{X:Cx}{f:SB}{σ:List (Option V)}{H g:Hp}{s:ko}{h':xk}
section
variable{a:k4}{g':Array GenState}{ch:List k4}{i:Nat}{x:Str}{M:Model}{A:zq}{E:fC}{u:kt}{Q:Unit->ko->Prop}
theorem Cx.Ok.nofr(ok:X.Ok){b:k4}{o:Obj}(e:X.base.get? b=jr o):b∉X.fs:=λhb=>by have:=(ok.funs.mem hb).1;rw[e]at this;cases this
theorem Inv.bs(I:Inv X f σ H s):∀b o,X.base.get? b=jr o->s.1.get? b=jr o/\H b=none:=λb o e =>
 #[I.base.keep b o (I.ok.bs b o e).1 (I.ok.bs b o e).2 (I.ok.nofr e) (I.ok.noex b o e),I.base.free b o (I.ok.bs b o e).1 (I.ok.bs b o e).2 (I.ok.noex b o e)]
theorem Inv.bk(I:Inv X f σ H s):∀b o,X.base.get? b=jr o->s.1.get? b=jr o:=λb o e=>(I.bs b o e).1
theorem Inv.tb(I:Inv X f σ H s):∀P q,kQ X.mg X.base P q->H P=jr (.tbl q):=λP q h=>I.base.tbls P q (I.ok.tb P q h)
theorem Inv.mod(I:Inv X f σ H s):Mod X.K X.mg X.base:=I.ok.mod
theorem Inv.kIn(I:Inv X f σ H s):X.K.In s.heap:=I.ok.mod.kin.keeps I.bk
theorem Inv.nolimit(I:Inv X f σ H s):s.1.NoLimit:=I.ok.mod.nolimit.keeps I.bk
theorem Inv.lt(I:Inv X f σ H s):X.env.locals<s.1.1.size:=let#[_,h,_]:=I.loc;h.lt
theorem Inv.sz(I:Inv X f σ H s):X.s₀.1.1.size<=s.1.1.size:=QS I.ok.above (Ws I.lt)
theorem Inv.nofs(I:Inv X f σ H s)(h:s.1.1.size<=a):a∉X.fs:=λhb=>by let#[_,o,y,_]:=I.ok.funs.mem hb;exact o2 (Qr (QV y) (QS I.sz h)) (qU _)
theorem Inv.cne(I:Inv X f σ H s):∀x c,X.env.cells.lookup x=jr c->c≠X.env.locals:=λx c e z=>by let#[v,o,w,k]:=I.cell x c e;let#[m,#[b,j,l,h,y,_],_]:=I.loc;rw[z,h]at w;cases w;rw[y]at k;cases k
theorem Inv.funs(I:Inv X f σ H s):s.1.FunFrames X.base X.outer:=by
 have all:∀(l:List Env),(∀b∈oZ l,b∈X.fs)->X.s₀.1.FunFrames X.base l->s.1.FunFrames X.base l:=by
  intro l;induction l with|nil=>intro _ _;trivial|cons n r v=>intro hs hl;let#[hk,#[L,o,h,j,k,m],w]:=hl;have y:L∈X.fs:=hs L (by unfold oZ;rw[wu,h];exact QE);let#[p,e]:=I.base.slot L o k (I.ok.frf L y) y λz=>I.ok.exfs L z y;exact#[hk,#[L,_,h,j,e,m],v (λb hb=>hs b (by unfold oZ;rw[wu,h];exact QF _ hb)) w]
 exact all X.outer (λ_ hb=>hb) I.ok.funs
theorem Inv.stack(I:Inv X f σ H s):s.1.FunFrames X.base X.stack:=by
 rcases I.ok.stk with e|⟨e,y⟩
 rw[e];exact I.funs;rw[e];let#[m,h,_]:=I.loc;refine .cons (by rw[I.ok.kind];decide) y h ?_ I.funs;exact Heap.get?_none_of_le (QS I.ok.bsz I.ok.above)
theorem Inv.stkSub(I:Inv X f σ H s):∀b∈oZ X.stack,b∈X.env.locals::X.fs:=λb hb=>by
 rcases I.ok.stk with e|⟨e,h⟩
 rw[e]at hb;exact QF _ hb;rw[e]at hb;unfold oZ at hb;rw[wu,h]at hb;exact hb
theorem Inv.stkFree(I:Inv X f σ H s):∀b∈oZ X.stack,H b=none:=λb hb=>by rcases QL.mp (I.stkSub b hb) with e|hb;rw[e];exact I.free;let#[_,o,h,_]:=I.ok.funs.mem hb;exact I.base.free b o h (I.ok.frf b hb) λz=>I.ok.exfs b z hb
theorem Inv.step{t':Nat}{d':Drawn}(I:Inv X f σ H s)
  (j:∀b∈ch,(b∈X.ex∨X.s₀.1.1.size<=b)/\b≠X.env.locals/\(∀x c,X.env.cells.lookup x=jr c->c≠b)/\∀p∈X.pn++f,p.1≠b)
  (keep:∀b o,b≠X.env.locals->b∉X.fs->b∉ch->s.1.get? b=jr o->H b=kd->h'.get? b=jr o)
  (W:∀b o,b≠X.env.locals->b∈X.fs->b∉ch->s.1.get? b=jr o->H b=kd->∃R,h'.get? b=jr { o with slots:=R }) (free:∀b o,b∉ch->s.1.get? b=jr o->H b=kd->g b=kd)
  (K:∀b o,b∉ch->s.1.get? b=jr o->∃J,h'.get? b=jr J)
  (F:∀b xs,H b=jr (.tup xs)->g b=jr (.tup xs)) (N:∀b o u,H b=jr (.frz o u)->g b=jr (.frz o u)) (G:∀b O,H b=jr (.tbl O)->g b=jr (.tbl O))
  (ns:∀m,s.1.Ns X.env.locals m->h'.Ns X.env.locals m) (S:yM X.prog X.w g h') (hg:ab g') :
  Inv X f σ g { s with heap:=h',gens:=g',drawn:=d',toks:=t' }:=by
 have L:∀b o,X.s₀.1.get? b=jr o->b≠X.env.locals:=λb o e=>Qk (Qr (QV e) I.ok.above);have Z:∀b o,X.s₀.1.get? b=jr o->b∉X.ex->b∉ch:=λb o e h hb=>by rcases(j b hb).1 with z|z;exact h z;exact o2 (Qr (QV e) z) (qU _)
 have Y:∀x c,X.env.cells.lookup x=jr c->∀v,s.1.IsCell c v->h'.IsCell c v:=λx c e v #[o,C,hd]=>by have y:c∉ch:=λz=>(j c z).2.2.1 x c e rfl;by_cases hc:c∈X.fs;let#[R,q]:=W c o (I.cne x c e) hc y C (I.freeC x c e);exact#[_,q,hd];exact#[o,keep c o (I.cne x c e) hc y C (I.freeC x c e),hd]
 refine#[I.ok,I.os,hg,#[λb o e n hb h=>?_,λb o e n hb h=>?_,λb o e n h=>?_,λb o e h=>?_,λb xs e=>F b xs (I.base.tups b xs e),λb o xs e=>N b o xs (I.base.frzs b o xs e),λb O e=>?_],?_,λx c e=>?_,?_,λx c e=>?_,λp hp=>?_,S,I.len];exact keep b o (L b o e) hb (Z b o e h) (I.base.keep b o e n hb h) (I.base.free b o e n h);let#[R,B]:=I.base.slot b o e n hb h;let#[P,e2]:=W b _ (L b o e) hb (Z b o e h) B (I.base.free b o e n h);exact#[P,e2];let#[J,B]:=I.base.there b o e h;exact free b J (Z b o e h) B (I.base.free b o e n h);let#[J,B]:=I.base.there b o e h;exact K b J (Z b o e h) B;exact G b _ (I.base.tbls b O e);let#[m,hn,hl]:=I.loc;refine#[m,ns m hn,λi x v B e2 e3=>?_];let#[u,r,l]:=hl i x v B e2 e3;refine#[u,r,?_];rcases l with l|⟨k,c,e,z⟩
 exact .inl l;exact .inr #[k,c,e,Y x c e _ z];let#[v,z]:=I.cell x c e;exact#[v,Y x c e v z];let#[m,#[o,_,_,C,_],_]:=I.loc;exact free _ o (λz=>(j _ z).2.1 rfl) C I.free;let#[v,o,C,hd]:=I.cell x c e;exact free c o (λz=>(j c z).2.2.1 x c e rfl) C (I.freeC x c e);let#[e,n,ne,nf,d]:=I.pin p hp;have y:p.1∉ch:=λz=>(j p.1 z).2.2.2 p hp rfl;exact#[keep p.1 p.2 ne nf y e n,free p.1 p.2 y e n,ne,nf,d]
theorem Inv.un{t':Nat}(I:Inv X f σ H s)(u:Un X.fs [] H g s.1 h')(y:yM X.prog X.w g h'):Inv X f σ g { s with heap:=h',toks:=t' }:=by let#[m,#[o,W,K,j,r],_]:=id I.loc;let#[q,p]:=u.any j I.free (by simp);exact I.step (g':=s.gens) (d':=s.drawn) (ch:=[]) (λ_ z=>nomatch z) (λb o _ hb _ e n=>u.keep b o e n hb (by simp)) (λb o _ hb _ e n=>u.slot b o e n hb (by simp)) (λb o _ e n=>u.free b o e n (by simp)) (λb o _ e=>u.there b o e (by simp)) u.tups u.frzs u.tbls (λZ hm=>by let#[Y,v,k,h,l]:=hm;rw[j]at h;cases h;exact#[_,v,k,p,l]) y I.bare
theorem Inv.call{t':Nat}{d':Drawn}(I:Inv X f σ H s)(u:Un (oZ X.stack) ch H g s.1 h')(v:yM X.prog X.w g h')(Z:ab g')
  (y:∀b∈ch,(b∈X.ex∨X.s₀.1.1.size<=b)/\b≠X.env.locals/\(∀x c,X.env.cells.lookup x=jr c->c≠b)/\∀p∈X.pn++f,p.1≠b) :
  Inv X f σ g { s with heap:=h',gens:=g',drawn:=d',toks:=t' }:=by
 let#[m,#[o,C,F,q,r],_]:=id I.loc;let#[W,k]:=u.any q I.free λz=>(y _ z).2.1 rfl;exact I.step (ch:=ch) y (λb o k hb hc e n=>u.keep b o e n (λz=>(QL.mp (I.stkSub b z)).elim k hb) hc) (λb o _ _ hc e n=>u.any e n hc) (λb o hc e n=>u.free b o e n hc) (λb o hc e=>u.there b o e hc) u.tups u.frzs u.tbls (λB hm=>by let#[K,j,l,h,Y]:=hm;rw[q]at h;cases h;exact#[_,j,l,k,Y]) v Z
theorem Inv.turned{t':Nat}{it:k4}(I:Inv X f σ H s)(k:∀b o,b≠it->s.1.get? b=jr o->h'.get? b=jr o)(j:H it=kd)(y:it≠X.env.locals)
  (Z:it∈X.ex∨X.s₀.1.1.size<=it) (Y:∀x c,X.env.cells.lookup x=jr c->c≠it) (l:∀p∈X.pn++f,p.1≠it):Inv X f σ H { s with heap:=h',toks:=t' }:=by
 have h:∀b u,H b=jr u->b≠it:=λb u e z=>by rw[z,j]at e;cases e
 refine I.step (g':=s.gens) (d':=s.drawn) (ch:=[it]) (λb hb=>?_) (λb o _ _ hc e _=>k b o (λz=>hc (by simp[z])) e) (λb o _ _ hc e _=>#[o.slots,k b o (λz=>hc (by simp[z])) e]) (λ_ _ _ _ n=>n)
  (λb o hc e=>#[o,k b o (λz=>hc (by simp[z])) e]) (λ_ _ e=>e) (λ_ _ _ e=>e) (λ_ _ e=>e) (λm hm=>?_) (λb u e=>?_) I.bare
 have e:b=it:=by simpa using hb
 subst e;exact#[Z,y,Y,l];let#[o,W,K,w,r]:=hm;exact#[o,W,K,k _ o (Q1 y) w,r];refine(I.hok b u e).stay (λc v hc q=>k c v ?_ q) (λ_ q=>q) λ_ _ q=>q;rcases hc with z|z;rw[z];exact h b u e;exact h c _ z
theorem Inv.tok(I:Inv X f σ H s)(t:Nat):Inv X f σ H { s with toks:=t }:=I.un (h':=s.1) (t':=t) Un.refl I.hok
theorem Inv.kept{t':Nat}(I:Inv X f σ H s)(k:∀b u,s.1.get? b=jr u->h'.get? b=jr u):Inv X f σ H { s with heap:=h',toks:=t' }:=I.un (Un.kept k) (I.hok.kept k)
theorem Inv.laid{o:HO}{t':Nat}(I:Inv X f σ H s)(k:∀b u,s.1.get? b=jr u->h'.get? b=jr u)(h:s.1.1.size<=a)(new:HA X.prog X.w (CA H a o) h' a o) :
  Inv X f σ (CA H a o) { s with heap:=h',toks:=t' }:=I.un (Un.laid k h (I.hok.fresh h)) (I.hok.laid k h new)
theorem Inv.write{x e:k4}{o:HO}{t':Nat}(I:Inv X f σ H s)(y:Xo (H x))(z:e=x∨H e=jr (.own x))(k:∀b u,b≠e->s.1.get? b=jr u->h'.get? b=jr u)(h:∃u,h'.get? e=jr u)
  (new:HA X.prog X.w (CA H x o) h' x o):Inv X f σ (CA H x o) { s with heap:=h',toks:=t' }:=I.un (Un.write y z k h) (I.hok.write y z k h new)
theorem Inv.pins_of{y:SB}(I:Inv X f σ H s)(h:∀p∈y,s.1.get? p.1=jr p.2/\H p.1=kd/\p.1≠X.env.locals/\p.1∉X.fs/\∀v,p.2.data≠.cell v):Inv X y σ H s :=
 #[I.ok,I.os,I.bare,I.base,I.loc,I.cell,I.free,I.freeC,λp w=>(Qd.mp w).elim (λz=>I.pin p (Qn _ z)) (h p),I.hok,I.len]
theorem VT{N:LS}(h:N.Nodup){j:Nat}(a:N[i]?=jr x)(b:N[j]?=jr x):i=j:=by let#[w,z]:=Qg.mp a;let#[v,y]:=Qg.mp b;exact(List.getElem_inj h).mp (z.trans y.symm)
theorem bP{v:V}(I:Inv X f σ H s)(hN:X.N.Nodup)(L:X.N[i]?=jr x)(Z:Uo X.env.scope x)(r:aA v u)
  (h:∀s',Inv X f (σ.set i (jr v)) H s'->(∃a,qg a s.1 s'.1/\(a=X.env.locals∨X.env.cells.lookup x=jr a))->Q Unit.unit s') (hf:X.fn x=kb∨X.env.scope.names.lookup x=jr .local):k0 M A (storeName X.env x u) Q E s:=by
 let#[m,hn,hl]:=id I.loc;have O:(X.env.scope.kind==.class||(X.env.scope.kind==.module&&X.env.locals != X.env.globals))=false:=by rw[I.ok.kind];rfl
 have B:i<σ.length:=by rw[I.len];exact(Qg.mp L).1
 have cne:=I.cne;have l:∀{a:k4}{h':xk},(∃o,s.1.get? a=jr o/\H a=kd)->qg a s.1 h'->yM X.prog X.w H h':=λ{a h'} ha hs b ob e=>by let#[_,_,W]:=ha;refine(I.hok b ob e).stay (λc S hc q=>(hs.2 c ?_).trans q) (λ_ q=>q) λ_ _ q=>q;rintro rfl;rcases hc with rfl|hc;rw[W]at e;cases e;rw[W]at hc;cases hc
 rcases Z with hk|hk;refine wpAny_storeName_local hk hn (λh' hn' hs=>?_) O;let#[oL,_,_,hoL,_]:=id hn;refine h _ #[I.ok,I.os,I.bare,#[λb o e n hb Z=>?_,λb o e n hb Z=>?_,I.base.free,λb o e Z=>?_,I.base.tups,I.base.frzs,I.base.tbls],#[_,hn',λj y v' Y K e3=>?_],λy c e=>?_,I.free,I.freeC,λp hp=>?_,l #[oL,hoL,I.free] hs,by simpa using I.len] #[_,hs,.inl rfl];exact(hs.2 b (Qk (Qr (QV e) I.ok.above))).trans (I.base.keep b o e n hb Z);let#[sl,Y]:=I.base.slot b o e n hb Z;exact#[sl,(hs.2 b (Qk (Qr (QV e) I.ok.above))).trans Y];let#[o',Y]:=I.base.there b o e Z;exact#[o',(hs.2 b (Qk (Qr (QV e) I.ok.above))).trans Y];by_cases C:j=i
 ·subst C
  rw[L]at Y;cases Y;rw[qr B]at K;cases K;exact#[u,r,.inl #[hk,by simp]]
 rw[qZ (Q1 C)]at K;let#[u',r',q]:=hl j y v' Y K e3;refine#[u',r',?_];rcases q with⟨k,e⟩| ⟨k,c,e,z⟩
 refine .inl #[k,?_];have:y≠x:=λe=>C (VT hN Y (e▸L));simp[this,e];exact .inr #[k,c,e,z.sameBut hs (cne y c e)];let#[S,z]:=I.cell y c e;exact#[S,z.sameBut hs (cne y c e)];let#[e,n,ne,nf,d]:=I.pin p hp;exact#[(hs.2 p.1 ne).trans e,n,ne,nf,d];have F:X.fn x=true:=by rcases hf with z|z;exact z;rw[z]at hk;cases hk
 let#[c,hc]:=I.ok.has x (.inl hk);let#[S,z]:=I.cell x c hc;refine wpAny_storeName_cell I.ok.kind hk hc z (λh' R hs=>?_);let#[oc,J,G]:=id z;refine h { s with heap:=h' } #[I.ok,I.os,I.bare,#[λb o e n hb Z=>?_,λb o e n hb Z=>?_,I.base.free,λb o e Z=>?_,I.base.tups,I.base.frzs,I.base.tbls],#[m,hn.sameBut hs (Q1 (cne x c hc)),λj y v' Y K e3=>?_],λy c' e=>?_,I.free,I.freeC,λp hp=>?_,l #[oc,J,I.freeC x c hc] hs,by simpa using I.len] #[c,hs,.inr hc];exact(hs.2 b (Qk (Qr (QV e) (I.ok.cab x c F hc)))).trans (I.base.keep b o e n hb Z);let#[sl,Y]:=I.base.slot b o e n hb Z;exact#[sl,(hs.2 b (Qk (Qr (QV e) (I.ok.cab x c F hc)))).trans Y];let#[o',Y]:=I.base.there b o e Z;exact#[o',(hs.2 b (Qk (Qr (QV e) (I.ok.cab x c F hc)))).trans Y];by_cases C:j=i
 ·subst C
  rw[L]at Y;cases Y;rw[qr B]at K;cases K;exact#[u,r,.inr #[.inl hk,c,hc,R]]
 rw[qZ (Q1 C)]at K;let#[u',r',q]:=hl j y v' Y K e3;refine#[u',r',?_];rcases q with q|⟨k,c',e,z'⟩
 exact .inl q;refine .inr #[k,c',e,z'.sameBut hs ?_];rintro rfl;exact C (VT hN Y (I.ok.inj _ _ _ e hc▸L));by_cases P:c'=c
 ·subst P;exact#[_,R]
 let#[w2,z2]:=I.cell y c' e;exact#[w2,z2.sameBut hs P];let#[e,n,ne,nf,d]:=I.pin p hp;refine#[(hs.2 p.1 ?_).trans e,n,ne,nf,d];intro q;rw[q,J]at e;have q':oc=p.2:=Ql e;exact d S (by rw[<- q'];exact G)
theorem EF{v:V}(I:Inv X f σ H s)(k:X.N.Nodup)(z:X.N[i]?=jr x)(y:Uo X.env.scope x)(r:aA v u)
  (h:∀s',Inv X f (σ.set i (jr v)) H s'->Q Unit.unit s') (w:X.fn x=kb∨X.env.scope.names.lookup x=jr .local):k0 M A (storeName X.env x u) Q E s :=
 bP I k z y r (λs' b _=>h s' b) w
theorem Inv.call'{s':ko}(I:Inv X f σ H s)(v:s'.os=s.os)(u:Un (oZ X.stack) ch H g s.1 s'.1)(h:yM X.prog X.w g s'.1)(k:ab s'.gens)
  (y:∀b∈ch,(b∈X.ex∨X.s₀.1.1.size<=b)/\b≠X.env.locals/\(∀x c,X.env.cells.lookup x=jr c->c≠b)/\∀p∈X.pn++f,p.1≠b):Inv X f σ g s':=by
 let#[h',g',d',t',z]:=s';have e:z=s.os:=v;subst e;exact I.call (g':=g') (t':=t') (d':=d') u h k y
end
end
noncomputable abbrev XK:=kt->Option k4->Hp->Prop
noncomputable abbrev St:=List (Option V)
noncomputable abbrev VK:=V->Hp->Prop
noncomputable abbrev TE:=St->Hp->VK->Prop
noncomputable abbrev TT:=St->Hp->(Bool->Hp->Prop)->Prop
noncomputable abbrev TA:=St->Hp->(LV->Hp->Prop)->Prop
structure Ends where
 nx:St->Hp->Prop
 rt:VK
 bk:St->Hp->Prop:=λ_ _=>False
 ct:St->Hp->Prop:=λ_ _=>False
noncomputable abbrev TS:=Ends->St->Hp->Prop
def EP(X:Cx)(h:SB)(σ:St)(Q:VK)(u:kt)(s':ko):Prop:=∃v x,Inv X h σ x s'/\aA v u/\Q v x
def TP(X:Cx)(h:SB)(σ:St)(Q:Bool->Hp->Prop)(b:Bool)(s':ko):Prop:=∃x,Inv X h σ x s'/\Q b x
def AP(X:Cx)(h:SB)(σ:St)(Q:LV->Hp->Prop)(us:LW)(s':ko):Prop:=∃x y,Inv X h σ y s'/\nA x us/\Q x y
def SP(X:Cx)(x:SB)(D:Ends)(f:Flow)(s':ko):Prop :=
 match f with
 | .next=>∃h y,Inv X x h y s'/\D.nx h y|.brk=>∃h y,Inv X x h y s'/\D.bk h y|.cont=>∃h y,Inv X x h y s'/\D.ct h y|.ret u=>∃v h y,Inv X x h y s'/\aA v u/\D.rt v y
def PE(X:Cx)(e:Expr)(t:TE):Prop :=
 ∀(h:SB) (s:ko) (x:St) (H:Hp) (Q:VK),Inv X h x H s->t x H Q->k0 (k5 X.prog X.w) X.A (hB e X.env) (EP X h x Q) X.xe s
def PT(X:Cx)(e:Expr)(t:TT):Prop :=
 ∀(h:SB) (s:ko) (x:St) (H:Hp) (Q:Bool->Hp->Prop),Inv X h x H s->t x H Q->k0 (k5 X.prog X.w) X.A (isTrue e X.env (hB e X.env)) (TP X h x Q) X.xe s
def PW(X:Cx)(e:Expr)(t:TT):Prop :=
 ∀(x:Sem kt) (h:SB) (s:ko) (y:St) (H:Hp) (Q:Bool->Hp->Prop),Inv X h y H s->t y H Q->k0 (k5 X.prog X.w) X.A (isTrue e X.env x) (TP X h y Q) X.xe s
theorem PW.pt{X:Cx}{e:Expr}{t:TT}(h:PW X e t):PT X e t:=h _
def PA(X:Cx)(es:List Expr)(t:TA):Prop :=
 ∀(y:Pos) (h:SB) (s:ko) (x:St) (H:Hp) (Q:LV->Hp->Prop),Inv X h x H s->t x H Q->k0 (k5 X.prog X.w) X.A (l5 (dt y (x0 es X.env))) (AP X h x Q) X.xe s
def PS(X:Cx)(st:g7)(t:TS):Prop :=
 ∀(h:SB) (s:ko) (x:St) (H:Hp) (D:Ends),Inv X h x H s->t D x H->k0 (k5 X.prog X.w) X.A (exec st X.env) (SP X h D) X.xe s
def zY(X:Cx)(st:List g7)(t:TS):Prop :=
 ∀(h:SB) (s:ko) (x:St) (H:Hp) (D:Ends),Inv X h x H s->t D x H->k0 (k5 X.prog X.w) X.A (execs st X.env) (SP X h D) X.xe s
theorem BB{α:Type}{t:Sem α}{Q y:α->ko->Prop}{M:Model}{A:zq}{E:fC}{s:ko}(h:k0 M A t Q E s)(z:∀a s,Q a s->y a s):k0 M A t y E s:=wE h z λ_ _ x=>x
section
variable{X:Cx}
section
variable{z:SB}{s:ko}{σ:St}{H:Hp}{x:Str}{pos:Pos}{E Q:fC}{u:kt}
theorem bin{a b:Expr}{ta g:TE}(Y:PE X a ta)(hb:PE X b g){R:V->V->Hp->Prop}(I:Inv X z σ H s)(h:ta σ H λx l=>g σ l λy k=>R x y k)
  {α:Type}{Q:α->ko->Prop}{f:kt->kt->Sem α}
  (r:∀v u j x y k,Inv X z σ k j->aA x v->aA y u->R x y k->k0 (k5 X.prog X.w) X.A (f v u) Q X.xe j) :
  k0 (k5 X.prog X.w) X.A (hB a X.env) (λv i=>k0 (k5 X.prog X.w) X.A (hB b X.env) (λu e=>k0 (k5 X.prog X.w) X.A (f v u) Q X.xe e) X.xe i) X.xe s:=by
 refine BB (Y z s σ H _ I h) λv m #[x,l,W,o,q]=>?_;refine BB (hb z m σ l _ W q) λu j #[y,k,Z,n,p]=>?_;exact r v u j x y k Z o n p
def Hv(i:Nat):TE:=λσ H Q=>∃v,σ[i]?=jr (jr v)/\Q v H
def tC(v:V):TE:=λ_ H Q=>Q v H
theorem mW{i:Nat}(b:X.N[i]?=jr x)(hv:Vo X.env.scope x)(w:(x==("__debug__":Str))=false:=by decide)(k:(x==("__classdict__":Str))=false:=by decide):PE X (.Name x pos) (Hv i):=by
 intro z s σ H Q I h;let#[v,e,h]:=h;let#[m,a,hl]:=I.loc;let#[u,r,l]:=hl i x v b e hv;have fin:EP X z σ Q u s:=#[v,H,I,r,h]
 rcases l with⟨hk,hm⟩| ⟨hk,c,hc,y⟩
 exact QBT (QBW I.ok.kind hk a hm fin) w;rcases hk with hk|hk
 ·exact QBT (wpAny_loadName_cell I.ok.kind hk hc y fin) w
 exact QBT (QBl I.ok.kind hk hc y fin k) w
theorem nW{i j pos}:PE X (.Constant (.int i) j pos) (tC (.int i)):=λ_ _ _ H _ I h=>QBy #[.int i,H,I.tok _,#[_,rfl],h]
theorem xg{b j pos}:PE X (.Constant (.bool b) j pos) (tC (.bl b)):=λ_ _ _ H _ I h=>Constant_bool #[.bl b,H,I,rfl,h]
theorem F6{j pos}:PE X (.Constant .none j pos) (tC .non):=λ_ _ _ H _ I h=>Constant_none #[.non,H,I,rfl,h]
theorem Ij{x j pos}:PE X (.Constant (.str x) j pos) (tC (.str x)):=λ_ _ _ H _ I h=>Calls.Constant_str #[.str x,H,I.tok _,#[_,rfl],h]
def Gl(X:Cx)(x:Str):Prop:=X.env.kindOf x=jr .globalImplicit
theorem KR(I:Inv X z σ H s)(y:Gl X x)(hm:X.mg x=jr u)(h:Q u s)
  (v:(x==("__debug__":Str))=false:=by decide):k0 (k5 X.prog X.w) X.A (hB (.Name x pos) X.env) Q E s :=
 QAP I.ok.kind y (Calls.loadGlobal_global (by rw[I.ok.glob];exact I.mod.glob.keeps I.bk) hm h) v
theorem nE(I:Inv X z σ H s)(v:Gl X x)(hm:X.mg x=kd)(hv:gp x=jr u)(h:Q u s)
  (y:x≠"__name__":=by decide) (k:(x==("__debug__":Str))=false:=by decide):k0 (k5 X.prog X.w) X.A (hB (.Name x pos) X.env) Q E s:=by
 let#[e,b,a]:=I.mod.blt;exact QAP I.ok.kind v (Calls.loadGlobal_builtin (by rw[I.ok.glob];exact I.mod.glob.keeps I.bk) hm (by rw[I.ok.blt];exact b.keeps I.bk) ((a x y).trans hv) h) k
theorem Yc{v:V}(y:Gl X x)(hm:X.mg x=jr u)(r:aA v u)(w:(x==("__debug__":Str))=false:=by decide):PE X (.Name x pos) (tC v) :=
 λ_ _ _ H _ I h=>KR I y hm #[v,H,I,r,h] w
theorem Bc{v:V}(w:Gl X x)(hm:X.mg x=kd)(hv:gp x=jr u)(r:aA v u)(y:x≠"__name__":=by decide)(k:(x==("__debug__":Str))=false:=by decide):PE X (.Name x pos) (tC v) :=
 λ_ _ _ H _ I h=>nE I w hm hv #[v,H,I,r,h] y k
end
variable{a b:Expr}{ta g:TE}{pos:Pos}
variable{n o:TT}{k:List Expr}
noncomputable def Iv(t u:TT):TT:=λh H Q=>t h H λc x=>if c=kb then u h x Q else Q kn x
noncomputable def jAV(t u:TT):TT:=λh H Q=>t h H λc x=>if c=kb then Q kb x else u h x Q
def Pv(t:TT):TT:=λh H Q=>t h H λc x=>Q (!c) x
theorem yc(z:PT X a n):PW X (.BoolOp .And [a] pos) n:=by
 intro u x s y H Q I h;refine isTrue_and (BB (z x s y H Q I h) λc v e=>?_);cases c with|true=>exact isTrue_and_nil e|false=>exact e
theorem Cj(z:PT X a n):PW X (.BoolOp .Or [a] pos) n:=by
 intro u x s y H Q I h;refine isTrue_or (BB (z x s y H Q I h) λc v e=>?_);cases c with|false=>exact isTrue_or_nil e|true=>exact e
theorem e6(f:PT X a n)(hb:PW X (.BoolOp .And (b::k) pos) o):PW X (.BoolOp .And (a::b::k) pos) (Iv n o):=by
 intro w x s y H Q I h;refine isTrue_and (BB (f x s y H _ I h) λc e #[v,u,z]=>?_);cases c with|true=>exact hb w x e y v Q u z|false=>exact#[v,u,z]
theorem yg(f:PT X a n)(hb:PW X (.BoolOp .Or (b::k) pos) o):PW X (.BoolOp .Or (a::b::k) pos) (jAV n o):=by
 intro w x s y H Q I h;refine isTrue_or (BB (f x s y H _ I h) λc e #[v,u,z]=>?_);cases c with|true=>exact#[v,u,z]|false=>exact hb w x e y v Q u z
theorem Dj(z:PT X a n):PT X (.UnaryOp .Not a pos) (Pv n):=by intro x s y H Q I h;exact isTrue_not (z x s y H (λc u=>Q (!c) u) I h)
noncomputable def Cp(ta g:TE):TE:=λh H Q=>ta h H λx y=>∃c,x=.bl c/\if c=kb then g h y Q else Q (.bl kn) y
noncomputable def Ov(ta g:TE):TE:=λh H Q=>ta h H λx y=>∃c,x=.bl c/\if c=kb then Q (.bl kb) y else g h y Q
theorem D6{op}{t:TE}(h:PE X a t):PE X (.BoolOp op [a] pos) t:=λx s y H Q I z=>BoolOp_one (h x s y H Q I z)
theorem N6(j:PE X a ta)(hb:PE X (.BoolOp .And (b::k) pos) g):PE X (.BoolOp .And (a::b::k) pos) (Cp ta g):=by
 intro y s u H Q I h;refine BoolOp_and (BB (j y s u H _ I h) λv f #[x,e,w,i,z]=>?_);let#[c,rfl,z]:=z;cases i;refine wc ?_;cases c with|true=>exact hb y f u e Q w z|false=>exact#[.bl kn,e,w,rfl,z]
theorem vg(j:PE X a ta)(hb:PE X (.BoolOp .Or (b::k) pos) g):PE X (.BoolOp .Or (a::b::k) pos) (Ov ta g):=by
 intro y s u H Q I h;refine BoolOp_or (BB (j y s u H _ I h) λv f #[x,e,w,i,z]=>?_);let#[c,rfl,z]:=z;cases i;refine wc ?_;cases c with|false=>exact hb y f u e Q w z|true=>exact#[.bl kb,e,w,rfl,z]
noncomputable def jAW(t:TT)(ta g:TE):TE:=λh H Q=>t h H λc x=>if c=kb then ta h x Q else g h x Q
theorem L6{c:Expr}(hc:PT X c n)(e:PE X a ta)(hb:PE X b g):PE X (.IfExp c a b pos) (jAW n ta g):=by
 intro x s y H Q I h;refine wpAny_IfExp (BB (hc x s y H _ I h) λd z #[w,v,u]=>?_);cases d with|true=>exact e x z y w Q v u|false=>exact hb x z y w Q v u
end
def aC(K:QC)(H:Hp)(a:k4)(xs:LV):Prop :=
 Rd H a (.lst xs) ∨
  ∃(o:Obj) (h:Array kt) (n:Nat),K.lookup a=jr o/\o.cls=.type "list"/\o.dict=kd/\o.data=.seq h n/\h.size<=ku/\nA xs h.toList
def yD(K:QC)(H:Hp)(a:k4)(xs:LV):Prop :=
 Rd H a (.tup xs) ∨
  ∃(o:Obj) (h:Array kt) (n:Nat),K.lookup a=jr o/\o.cls=.type "tuple"/\o.data=.seq h n/\h.size<=ku/\nA xs h.toList
noncomputable def jO:kt->Option V
 | .none=>jr .non|.bool b=>jr (.bl b)|.int i _=>jr (.int i)|.str x _=>jr (.str x)|.bytes b _=>jr (.byt b)|.float b _=>jr (.flt b)|.ref a=>jr (.ref a)|.type n=>jr (.ty n)|_=>kd
theorem aA.abs{x:V}{u:kt}(r:aA x u):jO u=jr x:=by
 cases x with|non=>cases r;rfl|bl _=>cases r;rfl|int _=>let#[t,rfl]:=r;rfl|str _=>let#[t,rfl]:=r;rfl|byt _=>let#[t,rfl]:=r;rfl|flt _=>let#[t,rfl]:=r;rfl|ref _=>cases r;rfl|ty _=>cases r;rfl
theorem aA.inj{x y:V}{u:kt}(r:aA x u)(q:aA y u):x=y:=Ql (r.abs.symm.trans q.abs)
theorem nA.inj:∀{xs h:LV}{us:LW},nA xs us->nA h us->xs=h
 |_,_,_,.nil,.nil=>rfl|_,_,_,.cons r t,.cons r' t'=>by rw[r.inj r',nA.inj t t']
section
variable{X:Cx}{x:SB}{σ:St}{H:Hp}{s:ko}{a:k4}{xs y:LV}
theorem aC.of{K:QC}(h:H a=jr (.lst xs)):aC K H a xs:=.inl (.inl h)
theorem yD.of{K:QC}(h:H a=jr (.tup xs)):yD K H a xs:=.inl (.inl h)
theorem Inv.list(I:Inv X x σ H s)(h:aC X.K H a xs):∃its:LW,nA xs its/\PlainL s.1 a its.toArray/\xs.9<=sizeLine:=by
 rcases h with h|⟨o,its,n,hk,hc,u,hs,v,r⟩
 let#[z,its,n,r,e]:=h.ok I.hok;exact#[its,r,#[_,n,e,rfl,rfl,rfl],z];refine#[its.toList,r,#[o,n,I.kIn a o hk,hc,u,by simpa using hs],?_];have e:=r.9;simp only[Q0]at e;omega
theorem Inv.tuple(I:Inv X x σ H s)(h:yD X.K H a xs):∃its:LW,nA xs its/\i2 s.1 a its.toArray/\xs.9<=sizeLine:=by
 rcases h with h|⟨o,its,n,hk,hc,hs,u,r⟩
 let#[z,its,r,p]:=h.ok I.hok;exact#[its,r,p,z];refine#[its.toList,r,#[o,I.kIn a o hk,hc,n,by simpa using hs],?_];have e:=r.9;simp only[Q0]at e;omega
theorem Inv.list_inj(I:Inv X x σ H s)(h:aC X.K H a xs)(h':aC X.K H a y):xs=y:=by
 let#[u,r,#[o,n,e,_,_,d],_]:=I.list h;let#[z,k,#[b,f,v,_,_,w],_]:=I.list h';rw[e]at v;cases v;rw[d]at w;injection w with d1 _;have:u=z:=by simpa using QP Array.toList d1
 subst this;exact r.inj k
theorem Inv.tuple_inj(I:Inv X x σ H s)(h:yD X.K H a xs)(h':yD X.K H a y):xs=y:=by
 let#[u,r,#[o,e,_,n,d],_]:=I.tuple h;let#[z,k,#[b,v,_,f,w],_]:=I.tuple h';rw[e]at v;cases v;rw[d]at w;injection w with d1 _;have:u=z:=by simpa using QP Array.toList d1
 subst this;exact r.inj k
end
noncomputable abbrev Cx.wish(X:Cx)(E:fC):Cx:={ X with xe:=E }
noncomputable abbrev Cx.nox(X:Cx):Cx:=X.wish λ_ _=>False
theorem Cx.Ok.wish{X:Cx}(ok:X.Ok)(E:fC):(X.wish E).Ok :=
 #[ok.mod,ok.kind,ok.glob,ok.blt,ok.above,ok.inj,ok.has,ok.cab,ok.hd,ok.frames,ok.stk,ok.exf,ok.bs,ok.bsz,ok.noex,ok.exfs,ok.funs,ok.frf,ok.tb]
theorem Cx.Ok.unwish{X:Cx}{E:fC}(ok:(X.wish E).Ok):X.Ok :=
 #[ok.mod,ok.kind,ok.glob,ok.blt,ok.above,ok.inj,ok.has,ok.cab,ok.hd,ok.frames,ok.stk,ok.exf,ok.bs,ok.bsz,ok.noex,ok.exfs,ok.funs,ok.frf,ok.tb]
section
variable{X:Cx}{x:SB}{σ:St}{H:Hp}{s:ko}{E:fC}
theorem Inv.wish(I:Inv X x σ H s)(E:fC):Inv (X.wish E) x σ H s:=#[I.ok.wish E,I.os,I.bare,I.base,I.loc,I.cell,I.free,I.freeC,I.pin,I.hok,I.len]
theorem Inv.unwish(I:Inv (X.wish E) x σ H s):Inv X x σ H s:=#[I.ok.unwish,I.os,I.bare,I.base,I.loc,I.cell,I.free,I.freeC,I.pin,I.hok,I.len]
theorem SP.unwish{D:Ends}{f:Flow}{s':ko}(h:SP (X.wish E) x D f s'):SP X x D f s':=by
 cases f with|next=>let#[y,z,I,q]:=h;exact#[y,z,I.unwish,q]|brk=>let#[y,z,I,q]:=h;exact#[y,z,I.unwish,q]|cont=>let#[y,z,I,q]:=h;exact#[y,z,I.unwish,q]|ret u=>let#[v,y,z,I,r,q]:=h;exact#[v,y,z,I.unwish,r,q]
theorem zY.nox{st:List g7}{t:TS}(h:zY X.nox st t):zY X st t:=λx s σ H D I y =>
 wE (h x s σ H D (I.wish _) y) (λ_ _ q=>q.unwish) λ_ _ z=>Qf z
end
section
variable{X:Cx}{st:g7}{y:List g7}{t u:TS}{e:Expr}{te:TE}{pos:Pos}
def Xp:TS:=λD h H=>D.nx h H
def Mv(t u:TS):TS:=λD h H=>t { D with nx:=u D } h H
theorem vc:zY X [] Xp:=λ_ _ x H _ I h=>QAG #[x,H,I,h]
theorem GM(b:PS X st t)(a:zY X y u):zY X (st::y) (Mv t u):=by
 intro x s w H D I h;refine QCY (BB (b x s w H { D with nx:=u D } I h) λf k q=>?_);cases f with|next=>let#[z,i,g,q]:=q;exact a x k z i D g q|ret v=>exact q|brk=>exact q|cont=>exact q
theorem XY(w:PS X st t):zY X [st] t:=by
 intro x s z H D I h;refine QCY (BB (w x s z H D I h) λf k q=>?_);cases f with|next=>exact QAG q|ret v=>exact q|brk=>exact q|cont=>exact q
theorem Inv.quiet{h:SB}{σ:St}{H:Hp}{s:ko}(I:Inv X h σ H s):interactive X.env=false:=by simp[interactive,I.ok.kind]
def Up(te:TE):TS:=λD h H=>te h H λ_ x=>D.nx h x
theorem BY(a:PE X e te)(hs:ej e kd pos.line X.env=aj false:=by rfl):PS X (.Expr e pos) (Up te):=by intro z s w H D I h;exact wpAny_Expr_any (BB (a z s w H _ I h) λv g #[x,f,b,i,k]=>#[w,f,b,k]) I.quiet hs
def Nv(te:TE):TS:=λD h H=>te h H D.rt
theorem Y6(b:PE X e te):PS X (.Return (jr e) pos) (Nv te):=by intro z s w H D I h;exact wpAny_Return_some (BB (b z s w H _ I h) λv i #[x,g,f,k,a]=>#[x,w,g,f,k,a])
noncomputable def Sv(c:TT)(t u:TS):TS:=λD h H=>c h H λb x=>if b=kb then t D h x else u D h x
theorem mq{c:Expr}{a b:List g7}{tc:TT}(hc:PT X c tc)(g:zY X a t)(hb:zY X b u):PS X (.If c a b pos) (Sv tc t u):=by
 intro x s z H D I h;refine wpAny_If (BB (hc x s z H _ I h) λd v #[f,k,w]=>?_);cases d with|true=>exact g x v z f D k w|false=>exact hb x v z f D k w
end
noncomputable abbrev TG:=V->St->Hp->(St->Hp->Prop)->Prop
noncomputable abbrev Yy:=LV->St->Hp->(St->Hp->Prop)->Prop
def PG(X:Cx)(h:Expr)(t:TG):Prop :=
 ∀(x:SB) (s:ko) (z:St) (H:Hp) (v:V) (u:kt) (Q:St->Hp->Prop),Inv X x z H s->aA v u->t v z H Q ->
  k0 (k5 X.prog X.w) X.A (la h X.env u) (λ_ a=>∃y k,Inv X x y k a/\Q y k) X.xe s
def Uz(X:Cx)(ts:List Expr)(t:Yy):Prop :=
 ∀(h:SB) (s:ko) (y:St) (H:Hp) (z:LV) (u:LW) (Q:St->Hp->Prop),Inv X h y H s->nA z u->t z y H Q ->
  k0 (k5 X.prog X.w) X.A (ef ((fk ts X.env).map (·.2)) u) (λ_ k=>∃x v,Inv X h x v k/\Q x v) X.xe s
noncomputable abbrev Pn:=V->V->V->Hp->(Hp->Prop)->Prop
def tf(X:Cx)(t:Pn):Prop :=
 ∀(h:SB) (s:ko) (x:St) (H:Hp) (o i v:V) (y z u:kt) (Q:Hp->Prop),Inv X h x H s->aA o y->aA i z->aA v u->t o i v H Q ->
  k0 (k5 X.prog X.w) X.A (setItem y z u) (λ_ a=>∃k,Inv X h x k a/\Q k) X.xe s
section
variable{X:Cx}{pos:Pos}
section
variable{i:Nat}{x:Str}{e:Expr}{te:TE}
def lZ(i:Nat):TG:=λv h H Q=>Q (h.set i (jr v)) H
theorem GY(a:X.N.Nodup)(w:X.N[i]?=jr x)(z:Uo X.env.scope x)(k:X.fn x=kb∨X.env.scope.names.lookup x=jr .local):PG X (.Name x pos) (lZ i):=by intro y s f H v u Q I r h;exact QCB (EF I a w z r (λg b=>#[_,H,b,h]) k)
noncomputable def Nx(K:QC)(n:Nat)(t:Yy):TG:=λv y H Q=>∃a h,v=.ref a/\yD K H a h/\h.9=n/\t h y H Q
theorem Tj{es:List Expr}{k:Nat}{t:Yy}{n:Nat}(hc:X.calm=kb)(h:Uz X es t)
  (Y:(fk es X.env).9=n:=by rfl) (w:(fk es X.env).findIdx? (·.1)=none:=by rfl):PG X (.Tuple es k pos) (Nx X.K n t):=by
 intro y s f H v u Q I r z;let#[a,j,W,q,hl,z]:=z;subst W;cases r;let#[l,g,p,B]:=I.tuple q;refine assign_Tuple_tuple (I.ok.hd hc) p (by simp[Y,<- hl,g.9]) w λZ m=>?_;have A:Inv X y f H { s with heap:=Z }:=I.kept (t':=s.toks) λb o e=>m b o (Qk (QV e)) e;exact h y _ f H j _ Q A (by simpa using g) z
noncomputable def Ox(to y:TE)(t:Pn):TG:=λv h H Q=>to h H λo w=>y h w λi u=>t o i v u λz=>Q h z
theorem Aj{o i:Expr}{to b:TE}{t:Pn}(q:PE X o to)(Y:PE X i b)(hs:tf X t)
  (Z:∀v,la (.Subscript o i pos) X.env v=(do
   let w <- tv [v] (hB o X.env)
   let k <- tv [v,w] (hB i X.env)
   standAt pos
   tv [v,w,k] (setItem w k v)
   release [v,w,k] []):=by intro _;rfl):PG X (.Subscript o i pos) (Ox to b t):=by
 intro z s a H v u Q I r h;rw[Z];refine QA (qk (BB (q z s a H _ I h) λw g #[x,E,A,l,p]=>?_));refine QA (qk (BB (Y z g a E _ A p) λk f #[y,C,K,j,n]=>?_));refine QA (QAw (QA (qk (BB (hs z f a C x y v w k u _ K l j r n) λ_ F #[B,W,m]=>?_))));exact wpAny_release #[a,B,W,m]
def X5(te:TE)(g:TG):TS:=λD h H=>te h H λx y=>g x h y D.nx
theorem K6{z:Expr}{g:TG}(j:PE X e te)(f:PG X z g)(hs:p8 [z] e pos.line X.env=aj false:=by rfl)(b:ew [z] e X.env=aj none:=by rfl)
  (l:(fk [z] X.env).map (·.2)=[la z X.env]:=by rfl):PS X (.Assign [z] e pos) (X5 te g):=by
 intro y s u H D I h;refine wpAny_Assign_stores (BB (j y s u H _ I h) λv w #[x,n,m,k,a]=>?_) hs b;rw[l];exact BB (f y w u n x v _ m k a) λ_ o q=>q
theorem Gj{pos':Pos}(j:X.N.Nodup)(b:X.N[i]?=jr x)(a:Uo X.env.scope x)(g:PE X e te)(hs:ej e (jr (.Name x pos')) pos.line X.env=aj false:=by rfl)(f:X.fn x=kb∨X.env.scope.names.lookup x=jr .local) :
  PS X (.Assign [.Name x pos'] e pos) (X5 te (lZ i)):=by
 intro z s u H D I h;refine wpAny_Assign_Name (BB (g z s u H _ I h) λv p #[y,n,m,w,k]=>?_) hs;exact EF m j b a w (λo l=>#[_,n,l,k]) f
end
end
section
variable{X:Cx}{pos:Pos}
def K5(c:TT)(tb:TS):TS:=λD h H=>∃W:Nat->St->Hp->Prop,(∃m,W m h H)/\∀m h H,W m h H ->
 c h H λb z=>if b=kb then ∃N:St->Hp->Prop,(∀x u,N x u->∃y,y < m/\W y x u)/\tb { D with nx:=N,ct:=N,bk:=D.nx } h z else D.nx h z
theorem i6{c:Expr}{body:List g7}{tc:TT}{tb:TS}(o:sh (k5 X.prog X.w) X.A X.env X.xe)(hc:PT X c tc)(hb:zY X body tb):PS X (.While c body [] pos) (K5 tc tb):=by
 intro y s K H D I h;let#[W,#[J,C],k]:=h;refine wpAny_While (codeAny_whileLoop (λn G=>∃u Z,Inv X y u Z G/\W n u Z) ?_ J #[K,H,I,C]);rintro n F ⟨z,Y,L,B⟩;refine we o (BB (hc y F z Y _ L (k n z Y B)) λb E #[r,q,g]=>?_);cases b with
 |true =>
  let#[N,p,g]:=g;rw[oa rfl];refine we o (BB (hb y E z r _ q g) λf M e=>?_);cases f with|next=>let#[x,a,m,j]:=e;let#[l,hm,i]:=p x a j;exact#[l,hm,x,a,m,i]|cont=>let#[x,a,m,j]:=e;let#[l,hm,i]:=p x a j;exact#[l,hm,x,a,m,i]|brk=>exact e|ret v=>exact e
 |false=>rw[ot QG];exact QAG #[z,r,q,g]
end
section
variable{s:ko}{y:Expr}{P:vb}{w:xb}{K:QC}
structure It where
 go:Nat->Hp->Prop
 yld:Nat->Hp->V->Hp->Prop
 stop:Nat->Hp->Prop
def FJ(X:Cx)(h:SB)(H:Hp)(b:k4):Prop :=
 H b=kd/\b≠X.env.locals/\b∉X.fs/\(b∈X.ex∨X.s₀.1.1.size<=b)/\(∀x c,X.env.cells.lookup x=jr c->c≠b)/\∀p∈X.pn++h,p.1≠b
theorem Inv.fpOk{X:Cx}{h:SB}{σ:St}{H u:Hp}{b:k4}(I:Inv X h σ H s)(hb:s.1.1.size<=b)(a:u b=kd):FJ X h u b:=by refine#[a,w9 (Qr I.lt hb),I.nofs hb,.inr (QS I.sz hb),λx c e z=>?_,λp k z=>?_];let#[v,q]:=I.cell x c e;exact o2 (Qr q.lt (by rw[z];exact hb)) (qU _);exact o2 (Qr (QV (I.pin p k).1) (by rw[z];exact hb)) (qU _)
structure Turn0(P:vb)(w:xb)(K:QC)(y:Expr)(J:It)(fp:List k4)(it:k4)(tn:Nat->xk->Prop):Prop where
 mem:it∈fp
 obj:∀i h,tn i h->∀b∈fp,∃o,h.get? b=jr o/\∀v,o.data≠.cell v
 keep:∀i h h',tn i h->(∀b∈fp,∀o,h.get? b=jr o->h'.get? b=jr o)->tn i h'
 item:∀(X:Cx),X.prog=P->X.w=w->X.K=K->X.calm=kb->∀(i:Nat) (pins:SB) (s:ko) (σ:St) (H:Hp) (E:fC),Inv X pins σ H s->(∀b∈fp,FJ X pins H b)->tn i s.1->J.go i H ->
  k0 (k5 P w) X.A (P0 (.ref it)) (λr s1=>∃u,r=jr u /\
   k0 (k5 P w) X.A (c0 y (.ref it) u) (λ_ s2=>∃x H',Inv X pins σ H' s2/\aA x u/\J.yld i H x H'/\tn (i+1) s2.1/\∀b∈fp,H' b=kd) E s1) E s
 done:∀(X:Cx),X.prog=P->X.w=w->X.K=K->X.calm=kb->∀(i:Nat) (pins:SB) (s:ko) (σ:St) (H:Hp) (E:fC),Inv X pins σ H s->(∀b∈fp,FJ X pins H b)->tn i s.1->J.stop i H ->
  k0 (k5 P w) X.A (P0 (.ref it)) (λr s1=>r=kd/\Inv X pins σ H s1) E s
structure Turn(P:vb)(w:xb)(K:QC)(y:Expr)(J:It)(fp:List k4)(it:k4)(tn:Nat->xk->Prop):Prop extends Turn0 P w K y J fp it tn where
 self:∀(A:zq) (i:Nat) (s:ko) (Q:fC) (E:fC),tn i s.1->Q (.ref it) s->k0 (k5 P w) A (mA (.ref it)) Q E s
noncomputable abbrev TI:=St->Hp->(It->Hp->Prop)->Prop
def Uy(X:Cx)(h:SB)(σ:St)(y:Expr)(R:It->Hp->Prop)(x:kt)(u:ko):Prop :=
 ∃(it:k4) (v:List k4) (tn:Nat->xk->Prop) (J:It) (z:Hp),x=.ref it/\Inv X h σ z u/\Turn X.prog X.w X.K y J v it tn/\tn 0 u.1/\(∀b∈v,FJ X h z b)/\R J z
def PI(X:Cx)(y x:Expr)(u:TI):Prop :=
 ∀(h:SB) (s:ko) (z:St) (H:Hp) (R:It->Hp->Prop),Inv X h z H s->u z H R ->
  k0 (k5 X.prog X.w) X.A (hB x X.env) (λv k=>k0 (k5 X.prog X.w) X.A (mA v) (Uy X h z y R) X.xe k) X.xe s
def Xy(X:Cx)(h:SB)(σ:St)(y:Expr)(R:It->Hp->Prop)(x:kt)(u:ko):Prop :=
 ∃(it:k4) (v:List k4) (tn:Nat->xk->Prop) (J:It) (z:Hp),x=.ref it/\Inv X h σ z u/\Turn0 X.prog X.w X.K y J v it tn/\tn 0 u.1/\(∀b∈v,FJ X h z b)/\R J z
def Ru(X:Cx)(y x:Expr)(u:TI):Prop :=
 ∀(h:SB) (s:ko) (z:St) (H:Hp) (R:It->Hp->Prop),Inv X h z H s->u z H R ->
  k0 (k5 X.prog X.w) X.A (hB x X.env) (λv k=>k0 (k5 X.prog X.w) X.A (mA v) (Xy X h z y R) X.xe k) X.xe s
theorem PI.to0{X:Cx}{z:Expr}{k:TI}(h:PI X y z k):Ru X y z k:=λu s a H R I q =>
 wE (h u s a H R I q) (λv m f=>wE f (λb l #[it,g,tn,J,j,e,i,T,r]=>#[it,g,tn,J,j,e,i,T.toTurn0,r]) λ_ _ x=>x) λ_ _ x=>x
theorem go_of{M:Model}{A:zq}{E:fC}{it:k4}{u:kt}{o:Obj}{n:String}{vs:Array kt}{Q:Unit->ko->Prop}(z:s.1.get? it=jr o)(hc:o.cls=.type n)(k:o.data=.fields vs)
    (v:["enumerate","zip","dict_itemiterator","dict_reverseitemiterator","odict_iterator","itertools.zip_longest","itertools.pairwise"].contains n=kn) (x:Q Unit.unit s):k0 M A (c0 y (.ref it) u) Q E s:=by
  unfold c0;cases y<;>first
    |exact QK x
    | (cases u<;>first
        |exact QK x
        | (refine QA (wpAny_load z ?_)
           rw[hc,k];show k0 M A (if(["enumerate","zip","dict_itemiterator","dict_reverseitemiterator","odict_iterator","itertools.zip_longest","itertools.pairwise"].contains n&&vs[0]?==jr (fv _))=kb then _ else _) Q E s;rw[ot (by intro h;rw[v,QAX]at h;cases h)];exact QK x))
noncomputable def jAE(K:QC)(a:k4):It :=
 #[λi H=>∃h x,aC K H a h/\h[i]?=jr x,λi H x z=>z=H/\∀h,aC K H a h->h[i]?=jr x,λi H=>∃h,aC K H a h/\h.9<=i]
noncomputable def jAC(K:QC)(a:k4):It :=
 #[λi H=>∃h x,yD K H a h/\h[i]?=jr x,λi H x z=>z=H/\∀h,yD K H a h->h[i]?=jr x,λi H=>∃h,yD K H a h/\h.9<=i]
noncomputable def Ly(h:Int)(n:Nat):It:=#[λi _=>i<n,λi H x z=>z=H/\x=.int (h+i),λi _=>n<=i]
theorem SZ(a it:k4):Turn P w K y (jAE K a) [it] it (λi h=>h.IsListIter it a i) where
 mem:=by simp
 obj:=λi h st b hb=>by
  have e:b=it:=by simpa using hb
  subst e;let#[o,e,c,d]:=st;exact#[o,e,λv z=>by rw[d]at z;cases z]
 keep:=λi h m st k=>st.at λo e=>k it (by simp) o e
 item:=by intro X W Y A hc i f s L H E I l st Z;subst W Y A;let#[M,x,j,r]:=Z;let#[q,n,p,Q]:=I.list j;let#[u,S,O]:=n.get r;let#[J,G,f2,F,C,B]:=l it (by simp);refine wpAny_pyNext_list_item st p.isList (x:=u) (by simpa using S) λm g N=>?_;have I1:Inv X f L H { s with heap:=m }:=I.turned (t':=s.toks) (λb o hb e=>(N.2 b hb).trans e) J G F C B;let#[o,e,c,d]:=id g;exact#[u,rfl,go_of (s:={ s with heap:=m }) e c d (by decide) #[x,H,I1,O,#[rfl,λys R=>by rw[I.list_inj R j];exact r],g,λb hb=>(l b hb).1]]
 done:=by intro X W Y A hc i f s L H E I l st Z;subst W Y A;let#[M,j,r]:=Z;let#[q,n,p,Q]:=I.list j;let#[J,G,f2,F,C,B]:=l it (by simp);have hl:=n.9;exact wpAny_pyNext_list_end (I.ok.hd hc) st p.isList (by simp;omega) λm eb=>#[rfl,I.turned (t':=s.toks) (λb o hb e=>eb b o hb e) J G F C B]
 self:=λ_ _ _ _ _ st h=>wpAny_pyIter_listiter st h
theorem NV(a it:k4):Turn P w K y (jAC K a) [it] it (λi h=>h.IsTupleIter it a i) where
 mem:=by simp
 obj:=λi h st b hb=>by
  have e:b=it:=by simpa using hb
  subst e;let#[o,e,c,d]:=st;exact#[o,e,λv z=>by rw[d]at z;cases z]
 keep:=λi h n st k=>st.at λo e=>k it (by simp) o e
 item:=by intro X W Y A hc i f s L H E I m st Z;subst W Y A;let#[M,x,l,r]:=Z;let#[g,q,p,Q]:=I.tuple l;let#[u,S,O]:=q.get r;let#[J,G,f2,F,C,B]:=m it (by simp);refine wpAny_pyNext_tuple_item st (show s.1.IsTuple a g.toArray from p) (x:=u) (by simpa using S) λn j N=>?_;have I1:Inv X f L H { s with heap:=n }:=I.turned (t':=s.toks) (λb o hb e=>(N.2 b hb).trans e) J G F C B;let#[o,e,c,d]:=id j;exact#[u,rfl,go_of (s:={ s with heap:=n }) e c d (by decide) #[x,H,I1,O,#[rfl,λys R=>by rw[I.tuple_inj R l];exact r],j,λb hb=>(m b hb).1]]
 done:=by intro X W Y A hc i f s L H E I m st Z;subst W Y A;let#[M,l,r]:=Z;let#[g,q,p,Q]:=I.tuple l;let#[J,G,f2,F,C,B]:=m it (by simp);have hl:=q.9;exact wpAny_pyNext_tuple_end (I.ok.hd hc) st (show s.1.IsTuple a g.toArray from p) (by simp;omega) λn eb=>#[rfl,I.turned (t':=s.toks) (λb o hb e=>eb b o hb e) J G F C B]
 self:=λ_ _ _ _ _ st h=>wpAny_pyIter_tupleiter st h
theorem OV(it:k4)(a:Int)(n:Nat):Turn P w K y (Ly a n) [it] it (λi h=>IsRangeIter h it (a+(i:Nat) * 1) ((n:Int) - (i:Nat)) 1) where
 mem:=by simp
 obj:=λi h st b hb=>by
  have e:b=it:=by simpa using hb
  subst e;exact#[_,st,λv z=>by have F:Data.fields _=Data.cell v:=z;cases F]
 keep:=λi h g st k=>k it (by simp) _ st
 item:=by intro X m j p hc i x s B H E I f st l;subst m j p;let#[A,Z,J,Y,r,q]:=f it (by simp);have W:=Walks.range (prog:=X.prog) (w:=X.w) (I.ok.hd hc) it a 1 n;refine W.item i s _ _ l st λv g C hv u G=>?_;let#[t,rfl]:=hv;have M:Inv X x B H { s with heap:=g,toks:=C }:=I.turned (λb o hb e=>G b o (by simpa using hb) e) A Z Y r q;refine#[_,rfl,go_of (s:={ s with heap:=g,toks:=C }) (n:="range_iterator") u rfl rfl (by decide) #[.int (a+i),H,M,#[t,?_],#[rfl,rfl],u,λb hb=>(f b hb).1]];rw[Int.mul_one]
 done:=by intro X m j p hc i x s B H E I f st l;subst m j p;let#[A,Z,J,Y,r,q]:=f it (by simp);exact wpAny_pyNext_range_end (I.ok.hd hc) st (by have:n<=i:=l;omega) λg L=>#[rfl,I.turned (t':=s.toks) (λb o hb e=>L b o hb e) A Z Y r q]
 self:=λ_ _ _ _ _ st h=>wpAny_pyIter_rangeiter st h
end
section
variable{X:Cx}{a:Expr}
section
variable{y:SB}{σ:St}{H:Hp}{s:ko}{k:List k4}{h:xk}
theorem d6{R:It->Hp->Prop}{E:fC}{x z:Int}{t u v:Tok}{f:Nat}(I:Inv X y σ H s)(m:-(2 ^ 62)<=x)(l:x<2 ^ 62)(j:-(2 ^ 62)<=z)(i:z<2 ^ 62)
  (q:R (Ly x (z - x).toNat) H):k0 (k5 X.prog X.w) X.A (mA (.ref s.1.1.size)) (Uy X y σ a R) E { s with heap:=s.1.push { cls:=.type "range",data:=.fields (qG [.int x t,.int z u,.int 1 v]) },toks:=f }:=by
 refine wpAny_pyIter_range (IsRange.new ..) (small_one m l j i) ?_;have g:Inv X y σ H { s with heap:=s.1.push { cls:=.type "range",data:=.fields (qG [.int x t,.int z u,.int 1 v]) },toks:=f }:=I.kept λb o e=>QH _ e;refine#[(s.1.push { cls:=.type "range",data:=.fields (qG [.int x t,.int z u,.int 1 v]) }).1.size,[(s.1.push { cls:=.type "range",data:=.fields (qG [.int x t,.int z u,.int 1 v]) }).1.size],_,_,H,rfl,
  g.kept (t':=f) λb o e=>QH _ e,OV _ x (z - x).toNat,?_,λb hb=>?_,q]
 have p:x+((0:Nat):Int) * 1=x:=by simp
 have n:(((z - x).toNat:Nat):Int) - ((0:Nat):Int)=WY x z 1:=by rw[RD];split<;>omega
 show IsRangeIter _ _ (x+((0:Nat):Int) * 1) ((((z - x).toNat:Nat):Int) - ((0:Nat):Int)) 1;rw[p,n];exact QR _ rfl;have e:b=(s.1.push { cls:=.type "range",data:=.fields (qG [.int x t,.int z u,.int 1 v]) }).1.size:=by simpa using hb
 subst e;exact g.fpOk (QZ _) (g.hok.fresh (QZ _))
def Tv(b:TI)(g:TG)(tb:TS):TS:=λD σ H=>b σ H λJ f=>∃W:Nat->Nat->St->Hp->Prop,(∃m,W 0 m σ f)/\∀i m σ H,W i m σ H ->
 (J.stop i H/\D.nx σ H)∨(J.go i H/\∃N:St->Hp->Prop,(∀z u,N z u->∃w,w < m/\W (i+1) w z u)/\∀x u,J.yld i H x u->g x σ u λv e=>tb { D with nx:=N,ct:=N,bk:=D.nx } v e)
noncomputable def IM(k:List k4)(h:xk):SB:=k.filterMap λb=>(h.get? b).map λo=>(b,o)
theorem uF{b:k4}{o:Obj}(hb:b∈k)(e:h.get? b=jr o):(b,o)∈IM k h:=QBz.mpr #[b,hb,by rw[e];rfl]
theorem U1{p:k4×Obj}(x:p∈IM k h):p.1∈k/\h.get? p.1=jr p.2:=by
 let#[b,hb,e]:=QBz.mp x;cases q:h.get? b with|none=>rw[q]at e;cases e|some o=>rw[q]at e;have z:(b,o)=p:=Ql e;subst z;exact#[hb,q]
theorem Inv.pinned(I:Inv X y σ H s)(f:∀b∈k,FJ X y H b)(w:∀b∈k,∃o,s.1.get? b=jr o/\∀v,o.data≠.cell v):Inv X (y++IM k s.1) σ H s :=
 I.pins_of λp u=>(Qd.mp u).elim (λz=>I.pin p (QU _ z)) λz=>by let#[hb,e]:=U1 z;let#[j,i,g,_]:=f p.1 hb;let#[o,x,d]:=w p.1 hb;rw[e]at x;cases x;exact#[e,j,i,g,d]
theorem Inv.unpinned{x:SB}(I:Inv X (y++x) σ H s):Inv X y σ H s:=I.pins_of λp z=>I.pin p (QU _ (Qn _ z))
theorem Hj{q:Expr}{body:List g7}{wi:TI}{g:TG}{tb:TS}{pos:Pos}(O:sh (k5 X.prog X.w) X.A X.env X.xe)(hc:X.calm=kb)(hi:Ru X a q wi)(hg:PG X a g)(hb:zY X body tb)
  (hs:∀x,fy q X.env x=aj x:=by intro _;rfl):PS X (.For a q body [] pos) (Tv wi g tb):=by
 intro y s σ H D I h;refine wpAny_For (BB (hi y s σ H _ I h) λv s1 h1=>BB h1 λitv s2 h2=>?_) hs;let#[it,k,tn,J,H2,e,I2,T,S,f2,W,#[m0,w0],F]:=h2;subst e;have p:∀{B:Hp},(∀b∈k,B b=kd)->∀b∈k,FJ X y B b:=λhn b hb=>#[hn b hb,(f2 b hb).2]
 refine codeAny_forLoop_any (λn s'=>∃i l B,Inv X y l B s'/\tn i s'.1/\(∀b∈k,B b=kd)/\W i n l B) ?_ m0 #[0,σ,H2,I2,S,λb hb=>(f2 b hb).1,w0];rintro n s3 ⟨i,j,Q,I3,L,P,w3⟩;rcases F i n j Q w3 with⟨G,qn⟩| ⟨go,N,hN,step⟩
 refine we O (BB (T.done X rfl rfl rfl hc i y s3 j Q X.xe I3 (p P) L G) λr s4 #[hr,I4]=>?_);subst hr;exact QAG #[j,Q,I4,qn];refine we O (BB (T.item X rfl rfl rfl hc i y s3 j Q X.xe I3 (p P) L go) λr s4 #[u,hr,h4]=>?_);subst hr;refine we O (BB h4 λ_ s5 #[x,H5,I5,r5,y5,E,fr5]=>?_);have I5':=I5.pinned (p fr5) (T.obj _ _ E);refine we O (BB (hg _ s5 j H5 x u _ I5' r5 (step x H5 y5)) λ_ s6 #[R,H6,I6,q6]=>?_);refine we O (BB (hb _ s6 R H6 _ I6 q6) λf s7 C=>?_);have Y:∀{z:St}{K:Hp},Inv X (y++IM k s5.1) z K s7->N z K->∃m,m<n/\∃i l B,Inv X y l B s7/\tn i s7.1/\(∀b∈k,B b=kd)/\W i m l B:=λ{z K} Z M=>by let#[m',hm,w7]:=hN z K M;refine#[m',hm,i+1,z,K,Z.unpinned,T.keep _ _ _ E λb hb o e=>(Z.pin (b,o) (QU _ (QU _ (uF hb e)))).1,λb hb=>?_,w7];let#[o,e,d]:=T.obj _ _ E b hb;exact(Z.pin (b,o) (QU _ (QU _ (uF hb e)))).2.1
 cases f with|next=>let#[z,K,Z,M]:=C;exact Y Z M|cont=>let#[z,K,Z,M]:=C;exact Y Z M|brk=>let#[z,K,Z,C]:=C;exact#[z,K,Z.unpinned,C]|ret v=>let#[x7,z,K,Z,r7,C]:=C;exact#[x7,z,K,Z.unpinned,r7,C]
end
end
noncomputable abbrev R2:=V->V->Hp->VK->Prop
def EE(X:Cx)(f:kt->kt->Sem kt)(r:R2):Prop :=
 ∀(h:SB) (s:ko) (z:St) (H:Hp) (x y:V) (v u:kt) (Q:VK),Inv X h z H s->aA x v->aA y u->r x y H Q ->
  k0 (k5 X.prog X.w) X.A (f v u) (EP X h z Q) X.xe s
def iy(X:Cx)(f:kt->Sem kt)(r:V->Hp->VK->Prop):Prop :=
 ∀(h:SB) (s:ko) (y:St) (H:Hp) (x:V) (v:kt) (Q:VK),Inv X h y H s->aA x v->r x H Q ->
  k0 (k5 X.prog X.w) X.A (f v) (EP X h y Q) X.xe s
def IC(X:Cx)(f:kt)(r:LV->Hp->VK->Prop):Prop :=
 ∀(h:SB) (s:ko) (x:St) (H:Hp) (y:LV) (z:LW) (Q:VK),Inv X h x H s->nA y z->r y H Q ->
  k0 (k5 X.prog X.w) X.A (lj f z) (EP X h x Q) X.xe s
def Jy(X:Cx)(r:V->Hp->(Bool->Hp->Prop)->Prop):Prop :=
 ∀(h:SB) (s:ko) (y:St) (H:Hp) (x:V) (v:kt) (Q:Bool->Hp->Prop),Inv X h y H s->aA x v->r x H Q ->
  k0 (k5 X.prog X.w) X.A (truthy v) (TP X h y Q) X.xe s
noncomputable def Kp(r:R2)(ta tb:TE):TE:=λh H Q=>ta h H λx u=>tb h u λy z=>r x y z Q
noncomputable def jAT(r:V->Hp->VK->Prop)(ta:TE):TE:=λh H Q=>ta h H λx y=>r x y Q
noncomputable def rI(C:Int->Int->Prop)(g:Int->Int->V):R2:=λx y H Q=>∃i j,x=.int i/\y=.int j/\C i j/\Q (g i j) H
noncomputable def Eb(g:Int->Int->V):R2:=λx y H Q=>∃i j,x=.int i/\y=.int j/\Q (g i j) H
def rU(g:Int->V):V->Hp->VK->Prop:=λx H Q=>∃i,x=.int i/\Q (g i) H
section
variable{X:Cx}{a b c:Expr}{ta z tc:TE}{pos:Pos}
section
variable{f:kt->kt->Sem kt}{g:Int->Int->Int}
theorem binT(Z:PE X a ta)(hb:PE X b z){k:SB}{s:ko}{σ:St}{H:Hp}{R:V->V->Hp->Prop}(I:Inv X k σ H s)
  (h:ta σ H λx m=>z σ m λy e=>R x y e) {Q:fC}
  (Y:∀v u l x y e,Inv X k σ e l->aA x v->aA y u->R x y e->k0 (k5 X.prog X.w) X.A (f v u) Q X.xe l) :
  k0 (k5 X.prog X.w) X.A (hB a X.env) (λv j=>k0 (k5 X.prog X.w) X.A (hB b X.env) (λu i=>k0 (k5 X.prog X.w) X.A (f v u) Q X.xe i) X.xe j) X.xe s:=by
 refine BB (Z k s σ H _ I h) λv n #[x,m,K,p,r]=>?_;refine BB (hb k n σ m _ K r) λu l #[y,e,W,o,q]=>?_;exact Y v u l x y e W p o q
theorem pq{k:hE}{r:R2}(m:EE X (fm k) r)(n:PE X a ta)(hb:PE X b z):PE X (.BinOp a k b pos) (Kp r ta z):=by intro w s e H Q I h;exact wpAny_BinOp (binT n hb I h λv u i x y p o l j q=>m w i e p x y v u Q o l j q)
theorem oq{w:th}{r:V->Hp->VK->Prop}(j:iy X (unaryOp w) r)(l:PE X a ta):PE X (.UnaryOp w a pos) (jAT r ta):=by intro y s u H Q I h;exact UnaryOp_ (BB (l y s u H _ I h) λv k #[x,n,m,e,i]=>j y k u n x v Q m e i)
theorem jAc{C:Int->Int->Prop}
  (k:∀(i j:Int) (t u:Tok) (s:ko) (Q:fC) (E:fC),C i j->Q (.int (g i j) s.toks) { s with toks:=s.toks+1 }->k0 (k5 X.prog X.w) X.A (f (.int i t) (.int j u)) Q E s) :
  EE X f (rI C λi j=>.int (g i j)):=by
 intro e s o H x y v u Q I n m h;let#[i,j,rfl,rfl,hc,q]:=h;let#[t,rfl]:=n;let#[l,rfl]:=m;exact k i j t l s _ _ hc #[.int (g i j),H,I.tok _,#[_,rfl],q]
theorem Vq
  (k:∀(i j:Int) (t u:Tok) (s:ko) (Q:fC) (E:fC),Q (.int (g i j) s.toks) { s with toks:=s.toks+1 }->k0 (k5 X.prog X.w) X.A (f (.int i t) (.int j u)) Q E s) :
  EE X f (Eb λi j=>.int (g i j)):=by
 intro e s o H x y v u Q I n m h;let#[i,j,rfl,rfl,q]:=h;let#[t,rfl]:=n;let#[l,rfl]:=m;exact k i j t l s _ _ #[.int (g i j),H,I.tok _,#[_,rfl],q]
theorem Lc{g:Int->Int->Bool}
  (k:∀(i j:Int) (t u:Tok) (s:ko) (Q:fC) (E:fC),Q (.bool (g i j)) s->k0 (k5 X.prog X.w) X.A (f (.int i t) (.int j u)) Q E s) :
  EE X f (Eb λi j=>.bl (g i j)):=by
 intro e s o H x y v u Q I n m h;let#[i,j,rfl,rfl,q]:=h;let#[t,rfl]:=n;let#[l,rfl]:=m;exact k i j t l s _ _ #[.bl (g i j),H,I,rfl,q]
def zP(i j:Int):Prop:=(-(2 ^ 64)<i/\i<2 ^ 64)∨(-(2 ^ 64)<j/\j<2 ^ 64)
theorem zP.ok{i j:Int}(h:zP i j):nc i j:=by
 rcases h with⟨y,x⟩| ⟨y,x⟩
 exact .of_left (RB y x);exact .of_right (RB y x)
theorem op_add:EE X (fm .Add) (Eb λi j=>.int (i+j)):=Vq λ_ _ _ _ _ _ _ q=>add_int q
theorem op_sub:EE X (fm .Sub) (Eb λi j=>.int (i - j)):=Vq λ_ _ _ _ _ _ _ q=>sub_int q
theorem op_mod:EE X (fm .Mod) (rI (λ_ j=>0<j) λi j=>.int (i % j)):=jAc λi j _ _ _ _ _ hc q=>by have h:(0:Int)<j:=hc;exact mod_int' () (by rw[Int.fmod_eq_emod_of_nonneg i ()];exact q)
theorem jAS{f:kt->Sem kt}{g:Int->Int}
  (y:∀(i:Int) (t:Tok) (s:ko) (Q:fC) (E:fC),Q (.int (g i) s.toks) { s with toks:=s.toks+1 }->k0 (k5 X.prog X.w) X.A (f (.int i t)) Q E s) :
  iy X f (rU λi=>.int (g i)):=by
 intro u s e H x v Q I k h;let#[i,rfl,q]:=h;let#[t,rfl]:=k;exact y i t s _ _ #[.int (g i),H,I.tok _,#[_,rfl],q]
theorem Ti:iy X (unaryOp .USub) (rU λi=>.int (-i)):=jAS λ_ _ _ _ _ q=>neg_int q
end
end
noncomputable def Rb:V->V->Bool
 | .non,.non=>kb | .non,.int _=>kb | .int _,.non=>kb | .non,.bl _=>kb | .bl _,.non=>kb | .non,.str _=>kb | .str _,.non=>kb
 | .int _,.int _=>kb | .bl _,.bl _=>kb | .str _,.str _=>kb | .byt _,.byt _=>kb
 | .int _,.str _=>kb | .str _,.int _=>kb | .bl _,.str _=>kb | .str _,.bl _=>kb
 |_,_=>kn
def rEq:R2:=λx y H Q=>Rb x y=kb/\Q (.bl (decide (x=y))) H
def jAa:R2:=λx y H Q=>Rb x y=kb/\Q (.bl (!decide (x=y))) H
theorem JZ{i j:Int}:decide (V.int i=V.int j)=(i==j):=by rw[Q8];simp
theorem e9{i j:Bool}:decide (V.bl i=V.bl j)=(i==j):=by rw[Q8];simp
theorem iZ{i j:Str}:decide (V.str i=V.str j)=(i==j):=by rw[Q8];simp
theorem YZ{i j:Array UInt8}:decide (V.byt i=V.byt j)=(i.toList==j.toList):=by rw[Q8];cases i;cases j;simp
section
variable{X:Cx}{a b c:Expr}{ta g tc:TE}{pos:Pos}
section
variable{r:R2}{d:bb}{us:LW}
theorem iA{h:SB}{σ:St}{H:Hp}{s:ko}{Q:VK}{k x:Bool}(I:Inv X h σ H s)(q:Q (.bl k) H)(e:k=x):EP X h σ Q (.bool x) s:=by subst e;exact#[.bl k,H,I,rfl,q]
theorem op_eq:EE X (vu .Eq) rEq:=by
 intro e s f H x y v u Q I k z h;let#[hs,q]:=h;cases x with
 |non =>
  cases k;cases y with|non=>cases z;exact PySem.EqNone.eq_none_none (iA I q (by simp))|bl j=>cases z;exact PySem.EqNone.eq_none_bool (iA I q (by simp))|int j=>let#[w,rfl]:=z;exact PySem.EqNone.eq_none_int (iA I q (by simp))|str j=>let#[w,rfl]:=z;exact PySem.EqNone.eq_none_str (iA I q (by simp))|_=>exact o2 (show kn=kb from hs) QG
 |bl i =>
  cases k;cases y with|non=>cases z;exact PySem.EqNone.eq_bool_none (iA I q (by simp))|bl j=>cases z;exact eq_bool (iA I q e9)|str j=>let#[w,rfl]:=z;exact PySem.EqMixed.eq_bool_str (iA I q (by simp))|_=>exact o2 (show kn=kb from hs) QG
 |int i =>
  let#[t,rfl]:=k;cases y with|non=>cases z;exact PySem.EqNone.eq_int_none (iA I q (by simp))|int j=>let#[w,rfl]:=z;exact eq_int (iA I q JZ)|str j=>let#[w,rfl]:=z;exact PySem.EqMixed.eq_int_str (iA I q (by simp))|_=>exact o2 (show kn=kb from hs) QG
 |str i =>
  let#[t,rfl]:=k;cases y with|non=>cases z;exact PySem.EqNone.eq_str_none (iA I q (by simp))|bl j=>cases z;exact PySem.EqMixed.eq_str_bool (iA I q (by simp))|int j=>let#[w,rfl]:=z;exact PySem.EqMixed.eq_str_int (iA I q (by simp))|str j=>let#[w,rfl]:=z;exact eq_str (iA I q iZ)|_=>exact o2 (show kn=kb from hs) QG
 |byt i =>
  let#[t,rfl]:=k;cases y with|byt j=>let#[w,rfl]:=z;exact PySem.W.eq_bytes (iA I q YZ)|_=>exact o2 (show kn=kb from hs) QG
 |_=>cases y<;>exact o2 (show kn=kb from hs) QG
theorem op_ne:EE X (vu .NotEq) jAa:=by
 intro e s f H x y v u Q I k z h;let#[hs,q]:=h;cases x with
 |non =>
  cases k;cases y with|non=>cases z;exact PySem.EqNone.ne_none_none (iA I q (by simp))|bl j=>cases z;exact PySem.EqNone.ne_none_bool (iA I q (by simp))|int j=>let#[w,rfl]:=z;exact PySem.EqNone.ne_none_int (iA I q (by simp))|str j=>let#[w,rfl]:=z;exact PySem.EqNone.ne_none_str (iA I q (by simp))|_=>exact o2 (show kn=kb from hs) QG
 |bl i =>
  cases k;cases y with|non=>cases z;exact PySem.EqNone.ne_bool_none (iA I q (by simp))|bl j=>cases z;exact ne_bool (iA I q (QP not e9))|str j=>let#[w,rfl]:=z;exact PySem.EqMixed.ne_bool_str (iA I q (by simp))|_=>exact o2 (show kn=kb from hs) QG
 |int i =>
  let#[t,rfl]:=k;cases y with|non=>cases z;exact PySem.EqNone.ne_int_none (iA I q (by simp))|int j=>let#[w,rfl]:=z;exact ne_int (iA I q (QP not JZ))|str j=>let#[w,rfl]:=z;exact PySem.EqMixed.ne_int_str (iA I q (by simp))|_=>exact o2 (show kn=kb from hs) QG
 |str i =>
  let#[t,rfl]:=k;cases y with|non=>cases z;exact PySem.EqNone.ne_str_none (iA I q (by simp))|bl j=>cases z;exact PySem.EqMixed.ne_str_bool (iA I q (by simp))|int j=>let#[w,rfl]:=z;exact PySem.EqMixed.ne_str_int (iA I q (by simp))|str j=>let#[w,rfl]:=z;exact ne_str (iA I q (QP not iZ))|_=>exact o2 (show kn=kb from hs) QG
 |byt i =>
  let#[t,rfl]:=k;cases y with|byt j=>let#[w,rfl]:=z;exact PySem.W.ne_bytes (iA I q (QP not YZ))|_=>exact o2 (show kn=kb from hs) QG
 |_=>cases y<;>exact o2 (show kn=kb from hs) QG
theorem op_lt:EE X (vu .Lt) (Eb λi j=>.bl (decide (i<j))):=Lc λ_ _ _ _ _ _ _ q=>lt_int q
theorem op_le:EE X (vu .LtE) (Eb λi j=>.bl (decide (i<=j))):=Lc λ_ _ _ _ _ _ _ q=>le_int q
theorem op_gt:EE X (vu .Gt) (Eb λi j=>.bl (decide (j<i))):=Lc λ_ _ _ _ _ _ _ q=>gt_int q
theorem op_ge:EE X (vu .GtE) (Eb λi j=>.bl (decide (j<=i))):=Lc λ_ _ _ _ _ _ _ q=>ge_int q
theorem R0:EE X (vu .In) (λx y H Q=>∃i j,x=.str i/\y=.str j/\Q (.bl (!(qE j i 0 j.9 1).isEmpty)) H):=by intro z s e H x y v u Q I k w h;let#[i,j,rfl,rfl,q]:=h;let#[t,rfl]:=k;let#[f,rfl]:=w;exact in_str (iA I q rfl)
theorem pk:EE X (vu .Is) (λx y H Q=>y=.non/\Q (.bl (decide (x=.non))) H):=by
 intro w s e H x y v u Q I z k h;let#[rfl,q]:=h;cases k;refine is_none_gen (iA I q ?_);cases x<;>first
  | (cases z;rfl)
  | (let#[t,rfl]:=z;rfl)
theorem Gc:EE X (vu .IsNot) (λx y H Q=>y=.non/\Q (.bl (!decide (x=.non))) H):=by
 intro w s e H x y v u Q I z k h;let#[rfl,q]:=h;cases k;refine isnot_none_gen (iA I q ?_);cases x<;>first
  | (cases z;rfl)
  | (let#[t,rfl]:=z;rfl)
theorem yR:EE X (vu .NotIn) (λx y H Q=>∃i j,x=.str i/\y=.str j/\Q (.bl (!(!(qE j i 0 j.9 1).isEmpty))) H):=by intro z s e H x y v u Q I k w h;let#[i,j,rfl,rfl,q]:=h;let#[t,rfl]:=k;let#[f,rfl]:=w;exact notIn_str (iA I q rfl)
theorem EE.or{f:kt->kt->Sem kt}{r':R2}(h:EE X f r)(h':EE X f r'):EE X f (λx y H Q=>r x y H Q∨r' x y H Q):=by intro z s w H x y v u Q I e k q;rcases q with q|q;exact h z s w H x y v u Q I e k q;exact h' z s w H x y v u Q I e k q
theorem Xc(i:EE X (vu d) r)(j:PE X a ta)(hb:PE X b g)(hm:mm d b=kn):PE X (.Compare a [d] [b] pos) (Kp r ta g):=by intro z s w H Q I h;exact wpAny_Compare1 (binT j hb I h λv u k x y m l f e q=>i z k w m x y v u Q l f e q) hm
def Yp(t:TE):TT:=λh H Q=>t h H λx y=>∃k,x=.bl k/\Q k y
theorem kc(Y:EE X (vu d) r)(Z:PE X a ta)(hb:PE X b g)(hm:mm d b=kn):PT X (.Compare a [d] [b] pos) (Yp (Kp r ta g)):=by
 intro w s f H Q I h;refine wpAny_isTrue_Compare1 (BB (Z w s f H _ I h) λv j #[x,E,A,n,q]=>BB (hb w j f E _ A q) λu i #[y,C,K,m,p] =>
  BB (Y w i f C x y v u _ K n m p) λc F #[z,B,W,l,k,e,o]=>?_) hm
 subst e;cases l;exact wc #[B,W,o]
def On(K:QC)(x:V)(H:Hp)(k:Bool):Prop :=
 match x with
 | .non=>k=kn|.bl b=>k=b|.int i=>k=(i != 0)|.str y=>y.9<=ku/\k=((y.9:Int) != 0)|.byt y=>y.size<=ku/\k=((y.size:Int) != 0)|.ref p=>(∃h,aC K H p h/\k=!h.isEmpty)∨(∃h,yD K H p h/\k=!h.isEmpty)∨∃z,H p=jr (.dK z)/\k=!z.isEmpty|_=>False
theorem kX{h:Type}{kvs:List (h×V)}{vs:List (h×kt)}(r:KV kvs vs):(!vs.isEmpty)=!kvs.isEmpty:=by cases r<;>rfl
theorem JN{xs:LV}{its:LW}(r:nA xs its):(!its.toArray.isEmpty)=!xs.isEmpty:=by cases r<;>simp
theorem IH:(ku:Nat)<2 ^ 63:=by rw[qC];decide
theorem Y5:Jy X (λx H Q=>∃k,On X.K x H k/\Q k H):=by
 intro A s F H x v Q I l h;let#[k,e,q]:=h;have hl:=IH;have hs:ku=16777216:=qC;cases x with
 |non=>cases l;have z:k=false:=e;subst z;exact truthy_none #[H,I,q]|bl b=>cases l;have z:k=b:=e;subst z;exact wc #[H,I,q]|int i=>let#[t,rfl]:=l;have z:k=(i != 0):=e;subst z;exact PySem.P.truthy_int #[H,I,q]|str y=>let#[t,rfl]:=l;obtain⟨C,z⟩:y.9<=ku/\k=((y.9:Int) != 0):=e;subst z;exact PySem.P.truthy_str () #[H,I.tok _,q]|byt y=>let#[t,rfl]:=l;obtain⟨C,z⟩:y.size<=ku/\k=((y.size:Int) != 0):=e;subst z;exact PySem.W.truthy_bytes () #[H,I.tok _,q]|ref p =>
  cases l;have z:(∃j,aC X.K H p j/\k=!j.isEmpty)∨(∃j,yD X.K H p j/\k=!j.isEmpty)∨∃u,H p=jr (.dK u)/\k=!u.isEmpty:=e;rcases z with⟨j,n,z⟩| ⟨j,n,z⟩| ⟨u,n,z⟩
  subst z;let#[Z,r,Y,B]:=I.list n;have f:=r.9;exact wpAny_truthy_list Y.isList (by simp only[QO];omega) #[H,I.tok _,by rw[JN r];exact q];subst z;let#[Z,r,Y,B]:=I.tuple n;have f:=r.9;exact truthy_tuple Y (by simp only[QO];omega) #[H,I.tok _,by rw[JN r];exact q];subst z;obtain⟨B,E,o,r,m⟩:u.9<=ku/\(p==gl)=kn/\∃o,KV u o/\s.1.DictOf (zE X.prog X.w) p o:=I.hok p _ n;have f:u.9=o.length:=qM r;exact wpAny_truthy_dict E m () #[H,I.tok _,by rw[kX r];exact q]
 |_=>exact(show False from e).elim
theorem sW:EE X (fm .Add) (λx y H Q=>∃i j,x=.str i/\y=.str j/\i.9+j.9<=ku/\Q (.str (i++j)) H):=by intro z s l H x y v u Q I e k h;let#[i,j,rfl,rfl,f,q]:=h;let#[t,rfl]:=e;let#[w,rfl]:=k;exact add_str (λw m=>#[.str (i++j),H,I.tok _,#[_,rfl],q]) f
theorem GK{x:V}(r:nA [x] us):∃u,us=[u]/\aA x u:=by
 cases r with|cons y h=>cases h;exact#[_,rfl,y]
theorem c5{x y:V}(r:nA [x,y] us):∃u h,us=[u,h]/\aA x u/\aA y h:=by
 cases r with
 |cons k w =>
  cases w with|cons v z=>cases z;exact#[_,_,rfl,k,v]
theorem j4(hc:X.calm=kb):IC X (.builtin "min") (λxs H Q=>∃i j,xs=[.int i,.int j]/\Q (.int (if j<i then j else i)) H):=by
 intro y s z H xs us Q I r h;let#[i,j,rfl,q]:=h;let#[u,v,rfl,#[t,rfl],#[e,rfl]]:=c5 r;refine min_two_ints (I.ok.hd hc) λf w k=>#[_,H,I.kept k,?_,q]
 by_cases x:j<i;rw[oa x,oa x];exact#[_,rfl];rw[ot x,ot x];exact#[_,rfl]
end
end
section
variable{h:xk}{u:k4}{v:Str->Option kt}
structure ObjM(h:xk)(x u C:k4)(v:Str->Option kt):Prop where
 obj:h.get? x=jr (QBH C u)
 ns:h.Ns1 u v
 ne:u≠x
theorem G2(n:h.Ns1 u v):∃w,h.get? u=jr w/\∀name,QBe name w=jr (v name):=by
 let#[o,k,j,f,g,hk,_,hm]:=n;refine#[o,f,λname=>?_];have e:=hm name;unfold nsFind findBy at e;rw[<- Array.find?_toList]at e;unfold QBe;rw[g];dsimp only;split;rename_i y q;rw[q]at e;exact QP jr e;rename_i q;rw[q]at e;have a:k.toList.any (·.refKey)=false:=by rw[QCC];intro y b;let#[z,t,x]:=hk y (Array.mem_toList_iff.mp b);simp[DictEntry.refKey,x]
 have i:¬ k.toList.any (·.refKey)=true:=by rw[a];exact QG
 rw[ot i];exact QP jr e
theorem ObjM.look{x C:k4}(I:ObjM h x u C v):∃y,PySem.W.InstAt h x (QBH C u) C (jr y)/\∀name,QBe name y=jr (v name) :=
 let#[y,z,hl]:=G2 I.ns
 #[y,#[I.obj,rfl,rfl,z],hl]
end
section
variable{P:vb}{w:xb}{H v:Hp}{h h':xk}{a C y:k4}{x u:List (Str×V)}
theorem ge(b:yM P w H h)(e:H a=jr (.ins C y x)):∃k,ObjM h a y C k/\(∀f,rV (x.lookup f) (k f))/\PySem.Within k (x.map (·.1))/\x.9<=1000/\H y=jr (.own a):=by
 let#[d,z,g,ob,k,n,r,q]:=(show HA P w H h a (.ins C y x) from b a _ e)
 exact#[k,#[ob,n,g],r,q,z,d]
end
structure Cls(K:QC)(C:k4):Prop where
 pg:QCZ K C Str.empty=kb
 hd:PySem.W.hasDictIn K C=kb
 po:PySem.W.plainOver K C=kb
 sa:PySem.W.findIn K (.ref C) "__setattr__"=jr (jr (.builtin "object.__setattr__"))
theorem Cls.get{K:QC}{C:k4}(c:Cls K C)(f:Str):QCZ K C f=true:=c.pg
section
variable{X:Cx}{v:SB}{σ:St}{H:Hp}{s:ko}{A:zq}{E:fC}{Q:fC}{c:kt}{b:Bool}
inductive TyOf(K:QC)(H:Hp):V->kt->Prop where
 |non:TyOf K H .non (.type "NoneType")
 |bl (x:Bool):TyOf K H (.bl x) (.type "bool")
 |int (i:Int):TyOf K H (.int i) (.type "int")
 |str (x:Str):TyOf K H (.str x) (.type "str")
 |flt (x:UInt64):TyOf K H (.flt x) (.type "float")
 |lst {a:k4}{xs:LV}(e:H a=jr (.lst xs)):TyOf K H (.ref a) (.type "list")
 |frz {a:k4}{o:Obj}{xs:LV}(e:H a=jr (.frz o (.lst xs))):TyOf K H (.ref a) (.type "list")
 |tup {a:k4}{xs:LV}(e:H a=jr (.tup xs)):TyOf K H (.ref a) (.type "tuple")
 |dK {a:k4}{kvs:List (Key×V)}(e:H a=jr (.dK kvs)):TyOf K H (.ref a) (.type "dict")
 |dT {a:k4}{ep:Nat}{kvs:List (NK×k4×V)}(e:H a=jr (.dT ep kvs)):TyOf K H (.ref a) (.type "dict")
 |ins {a C dx:k4}{fs:List (Str×V)}(e:H a=jr (.ins C dx fs)) (cl:Cls K C) (ha:PySem.W.findIn K (.ref C) "__class__"=jr (jr (.builtin "object.__class__")))
   (hn:PySem.W.specialIn K (.builtin "object.__class__") "__get__"=jr (jr (.builtin "getset_descriptor.__get__"))) (htk:PySem.W.takesIn K (.builtin "object.__class__")=jr kb)
   (hm:PySem.W.mroIn K C (.type "object")=jr kb):TyOf K H (.ref a) (.ref C)
theorem v3{x:V}{u t:kt}(I:Inv X v σ H s)(k:aA x u)(ty:TyOf X.K H x t)(e:QBf X.K t c=jr b)(h:∀B,Q (.bool b) { s with toks:=B }) :
  k0 (k5 X.prog X.w) A (lj (.builtin "isinstance") [u,c]) Q E s:=by
 cases ty with
 |non=>cases(show u=j2 from k);exact qN PySem.W.kitx_none I.kIn True.intro e (λz=>nomatch z) h
 |bl y=>cases(show u=Value.bool y from k);exact qN PySem.W.kitx_bool I.kIn True.intro e (λz=>nomatch z) h
 |int i=>let#[t,q]:=(show ∃t,u=Value.int i t from k);cases q;exact qN PySem.W.kitx_int I.kIn True.intro e (λz=>nomatch z) h
 |str y=>let#[t,q]:=(show ∃t,u=Value.str y t from k);cases q;exact qN PySem.W.kitx_str I.kIn True.intro e (λz=>nomatch z) h
 |flt y=>let#[t,q]:=(show ∃t,u=Value.float y t from k);cases q;exact qN PySem.W.kitx_float I.kIn True.intro e (λz=>nomatch z) h
 |@lst a l f =>
  cases(show u=kx a from k);let#[_,_,n,_,g]:=(show HA X.prog X.w H s.1 a (.lst l) from I.hok a _ f)
  exact qN QAj I.kIn #[_,g,rfl] e (λz=>nomatch z) h
 |@frz a ob l f =>
  cases(show u=kx a from k);let#[_,_,_,n,_,g]:=(show HA X.prog X.w H s.1 a (.frz ob (.lst l)) from I.hok a _ f)
  exact qN QAj I.kIn #[_,g,rfl] e (λz=>nomatch z) h
 |@tup a l f =>
  cases(show u=kx a from k);let#[_,_,_,p]:=(show HA X.prog X.w H s.1 a (.tup l) from I.hok a _ f)
  let#[o,g,m,_]:=p;exact qN QB0 I.kIn #[o,g,m] e (λz=>nomatch z) h
 |@dK a j f =>
  cases(show u=kx a from k);let#[_,_,M,_,p]:=(show HA X.prog X.w H s.1 a (.dK j) from I.hok a _ f)
  let#[o,L,Y,g,m,_]:=p;exact qN QCD I.kIn #[o,g,m.1] e (λz=>nomatch z) h
 |@dT a Y j f =>
  cases(show u=kx a from k);let#[_,_,l,_,o,L,g,m,_]:=(show HA X.prog X.w H s.1 a (.dT Y j) from I.hok a _ f)
  exact qN QCD I.kIn #[o,g,m.1] e (λz=>nomatch z) h
 |@ins a C R fs f Z G F r hm=>cases(show u=kx a from k);let#[P,O,_]:=ge I.hok f;let#[N,J,_]:=O.look;exact qN (PySem.W.kitx_own (Z.get _) Z.hd G F r hm) I.kIn J e (λz=>nomatch z) h
end
section
variable{k:Nat}{A:zq}
structure Room(k:Nat)(A:zq):Prop where
 hd:A.handled=kd
 dp:A.depth+3 * k+5<eH
 un:A.units+16 * k+200<hZ
theorem Room.mono{j:Nat}(r:Room k A)(h:j<=k):Room j A:=#[r.hd,by have:=r.dp;omega,by have:=r.un;omega]
theorem Room.deeper(r:Room (k+1) A)(env:Env):Room k (A.deeper env) :=
 #[r.hd,by have:=r.dp;show A.depth+1+3 * k+5<_;omega,by have:=r.un;show A.units+3+16 * k+200<_;omega]
theorem Room.depth(r:Room k A):A.depth<recursionLimit:=by have:=r.dp;omega
def Vp:TA:=λ_ H Q=>Q [] H
noncomputable def Bp(ta:TE)(z:TA):TA:=λh H Q=>ta h H λx v=>z h v λy u=>Q (x::y) u
end
section
variable{X:Cx}{e:Expr}{es:List Expr}{te:TE}{t:TA}{pos:Pos}
theorem AQ:PA X [] Vp:=λ_ _ _ _ H Q I h=>WE #[[],H,I,.nil,h]
theorem AI(i:PE X e te)(g:PA X es t)(hs:x0 (e::es) X.env=(kn,hB e X.env)::x0 es X.env:=by rfl):PA X (e::es) (Bp te t):=by intro pos y s z H Q I h;rw[hs];show k0 _ _ (l5 ((kn,hB e X.env)::dt pos (x0 es X.env))) _ _ s;refine wR (BB (i y s z H _ I h) λu w #[x,n,l,a,f]=>?_);exact BB (g pos y w z n _ l f) λo p #[v,m,j,k,b]=>#[x::v,m,j,.cons a k,b]
def Lv(t:TA):TE:=λy H Q=>t y H λh x=>h.9<=ku/\∀p,x p=kd->Q (.ref p) (CA x p (.tup h))
def Rv(t:TA):TE:=λy H Q=>t y H λh x=>h.9<=ku/\∀p,x p=kd->Q (.ref p) (CA x p (.lst h))
theorem Ej{x1}(h:PA X es t):PE X (.Tuple es x1 pos) (Lv t):=by intro x s k H Q I g;refine QBm (BB (h pos x s k H _ I g) λf y #[a,w,v,r,z,q]=>#[by rw[<- r.9];exact z,?_]);have i:w y.1.1.size=none:=v.hok.fresh (QZ _);refine#[.ref y.1.1.size,CA w y.1.1.size (.tup a),v.laid (t':=y.toks) (λb u e=>QH _ e) (QZ _) ?_,rfl,q _ i];exact#[z,f,r,#[_,QR _ rfl,rfl,_,rfl]]
theorem jk(h:PA X es t):PE X (.List es pos) (Rv t):=by intro x s k H Q I g;refine wpAny_List_spliced (BB (h pos x s k H _ I g) λf y #[a,w,v,r,z,q]=>#[by rw[<- r.9];exact z,?_]);have i:w y.1.1.size=none:=v.hok.fresh (QZ _);refine#[.ref y.1.1.size,CA w y.1.1.size (.lst a),v.laid (t':=y.toks) (λb u e=>QH _ e) (QZ _) ?_,rfl,q _ i];exact#[z,f,0,r,QR _ rfl]
end
noncomputable abbrev Sp:=LV->Hp->VK->XK->Prop
noncomputable abbrev Da:=List Env->Hp->ko->XK->kt->ko->Prop
structure Env0(P:vb)(w:xb)(K:QC)(mg:Str->Option kt)(base:xk)(A:zq)(outer:List Env)(s:ko)(H:Hp):Prop where
 frames:A.frames=jr outer
 mod:Mod K mg base
 bs:∀b o,base.get? b=jr o->s.1.get? b=jr o/\H b=kd
 bsz:base.1.size<=s.1.1.size
 funs:s.1.FunFrames base outer
 frf:∀b∈oZ outer,H b=kd
 tb:∀P q,kQ mg base P q->H P=jr (.tbl q)
 hok:yM P w H s.1
 bare:ab s.gens
def CE(outer:List Env)(P:vb)(w:xb)(H:Hp)(s:ko)(Q:VK)(u:kt)(s':ko):Prop :=
 ∃v h,s'.os=s.os/\ab s'.gens/\Un (oZ outer) [] H h s.1 s'.1/\yM P w h s'.1/\aA v u/\Q v h
def CR(h:Da)(outer:List Env)(P:vb)(w:xb)(H:Hp)(s:ko)(Q:VK)(E:XK)(r:Result)(s':ko):Prop :=
 match r with
 | .ok (.ret u)=>CE outer P w H s Q u s'|.ok _=>False|.error e=>h outer H s E e s'
structure FnOk(P:vb)(w:xb)(K:QC)(mg:Str->Option kt)(base:xk)(CX:Da)(k:Nat)(f:k4)(fd:g6)(ps:LS)(sp:Sp):Prop where
 len:∀vs H Q E,sp vs H Q E->vs.9=ps.9
 run:∀(A:zq) (outer:List Env) (s:ko) (H:Hp) (args:Args) (us:LW) (vs:LV) (Q:VK) (E:XK),Room k A->Env0 P w K mg base A outer s H->nL s fd args (ps.zip us)->nA vs us->sp vs H Q E ->
  pz (k5 P w) A (.call (.ref f) args) (CR CX outer P w H s Q E) s
theorem FnOk.mono{P:vb}{w:xb}{K:QC}{mg:Str->Option kt}{x:xk}{a:Da}{j k:Nat}{f:k4}{v:g6}{u:LS}{z:Sp}(F:FnOk P w K mg x a j f v u z)(h:j<=k) :
  FnOk P w K mg x a k f v u z:=#[F.len,λA y s H args e b Q E g=>F.run A y s H args e b Q E (g.mono h)]
section
variable{X:Cx}{x:SB}{σ:St}{H:Hp}{s s':ko}
theorem Inv.env0(I:Inv X x σ H s):Env0 X.prog X.w X.K X.mg X.base X.A X.stack s H :=
 #[I.ok.frames,I.ok.mod,I.bs,QS I.ok.bsz I.sz,I.stack,I.stkFree,I.tb,I.hok,I.bare]
theorem Inv.after{Q:VK}{u:kt}(I:Inv X x σ H s)(h:CE X.stack X.prog X.w H s Q u s'):EP X x σ Q u s':=by let#[v,f,a,bare,un,k,r,q]:=h;let#[e,g,d,t,y]:=s';obtain rfl:y=s.os:=a;exact#[v,f,I.call (h':=e) (g':=g) (d':=d) (t':=t) (ch:=[]) un k bare (λb z=>o2 z (by simp)),r,q]
end
noncomputable def Lf(z:Sp)(h:LV)(E:XK)(t:TA):TE:=λx H Q=>t x H λy u=>z (y++h) u Q E
def LH(K:QC)(y:g6)(x:LS)(ds:LW):Prop :=
 ∀(s:ko) (h:LW),K.In s.1->(h++ds).9=x.9->nL s y #[h,[]] (x.zip (h++ds))
theorem LH.all{K:QC}{y:g6}{x:LS}(h:∀us:LW,us.9=x.9->lv y #[us,[]]=aj (x.zip us)):LH K y x []:=λs us _ hl=>by rw[Q5]at hl ⊢;exact .of_eq (h us hl)
def zO(z:Da)(X:Cx)(E:XK):Prop:=∀(h:SB) (y:St) (H:Hp) (s:ko) (e:kt) (x:ko),Inv X h y H s->z X.stack H s E e x->X.xe e x
section
variable{X:Cx}{b:Da}{k:Nat}{f C:k4}{a:g6}{z:LS}{v:Sp}{y:LV}{ds:LW}{E:XK}{x m:Str}{p pos apos:Pos}{e o:Expr}{es:List Expr}{ta:TE}{t:TA}
theorem z6{g:SB}{σ:St}{H:Hp}{s:ko}{Q:VK}{us:LW}{vs:LV}(F:FnOk X.prog X.w X.K X.mg X.base b k f a z v)(q:Room k X.A)(hb:LH X.K a z ds)(Y:nA y ds)(n:zO b X E)
  (I:Inv X g σ H s) (r:nA vs us) (h:v (vs++y) H Q E):k0 (k5 X.prog X.w) X.A (lj (.ref f) us) (EP X g σ Q) X.xe s:=by
 have j:nA (vs++y) (us++ds):=r.append Y;have hl:(us++ds).9=z.length:=by rw[<- j.9];exact F.len _ _ _ _ h
 refine wpAny_call (QCS (F.run X.A X.stack s H #[us,[]] (us++ds) (vs++y) Q E q I.env0 (hb s us I.kIn hl) j h) λr l i=>?_);cases r with
 |error e=>exact n g σ H s e l I i|ok fl =>
  cases fl with|ret u=>exact I.after i|next=>exact Qf i|brk=>exact Qf i|cont=>exact Qf i
theorem Uc(F:FnOk X.prog X.w X.K X.mg X.base b k f a z v)(Y:Room k X.A)(Z:Gl X x)(hm:X.mg x=jr (.ref f))(hk:wW X.K (.ref f)=kb)(hb:LH X.K a z ds)(G:nA y ds)(n:zO b X E)
  (J:PA X (e::es) t) (i:(x==("__debug__":Str))=false:=by decide) (B:x0 (e::es) X.env=(kn,hB e X.env)::x0 es X.env:=by rfl) (g:(dt pos (x0 es X.env)).any (·.1)=false:=by rfl) :
  PE X (.Call (.Name x p) (e::es) [] pos) (Lf v y E t):=by
 intro u s l H Q I h;refine wG (KR I Z hm ?_ i);refine PySem.W.callWith_K (h₀:=X.base) I.ok.mod.kin hk (BB (J pos u s l H _ I h) λM N #[L,O,j,r,q]=>#[j.kIn,?_]) B g;exact z6 F Y hb G n j r q
theorem M6(F:FnOk X.prog X.w X.K X.mg X.base b k f a z v)(j:Room k X.A)(l:Gl X x)(hm:X.mg x=jr (.ref f))(hk:wW X.K (.ref f)=kb)(hb:LH X.K a z ds)(n:nA y ds)(i:zO b X E)
  (u:(x==("__debug__":Str))=false:=by decide):PE X (.Call (.Name x p) [] [] pos) (Lf v y E Vp):=by
 intro g s q H Q I h;refine wG (KR I l hm ?_ u);exact PySem.W.callWith_K0 I.kIn hk (z6 (us:=[]) F j hb n i I .nil h)
end
section
variable{X:Cx}{c:Da}{k:Nat}{f C:k4}{b:g6}{v ks:LS}{u:Sp}{E:XK}{x m:Str}{p pos apos h:Pos}{e o:Expr}{es:List Expr}{y:List l8}{te ta:TE}{t z:TA}{w:Option Str}
variable{g:LW->LW->LW}{a:LV->LV->LV}
end
section
variable{l:Da}{P:vb}{w:xb}{mg:Str->Option kt}{base:xk}{j:LS}{g:Str}{d:hQ}{f:k4}
structure FnScope(N P:LS)(sc:hQ):Prop where
 kind:sc.kind=.function
 co:sc.isCoroutine=kn
 gen:sc.isGenerator=kn
 nd:N.Nodup
 pre:N.take P.9=P
 par:∀x∈P,sc.names.lookup x=jr .local∨sc.names.lookup x=jr .cell
 nofree:∀y∈sc.names,y.2≠.free
theorem MP{y:Str->Option d3}{x:Str}:∀{binds:List (Str×kt)}{m:Str->Option kt},(∀v,(x,v)∉binds)->pd y binds m x=m x
 |[],_,_=>rfl|(n,v)::r,m,h=>by
  unfold pd;rw[MP λw z=>h w (QF _ z)];split;have:x≠n:=by rintro rfl;exact h v QE
  simp[this];rfl
theorem PP{y:Str->Option d3}{x:Str}:∀{binds:List (Str×kt)}{m:Str->Option kt},(∀v,(x,v)∉binds)->pc y binds m x=m x
 |[],_,_=>rfl|(n,v)::r,m,h=>by
  unfold pc;rw[PP λw z=>h w (QF _ z)];split;rfl;have:x≠n:=by rintro rfl;exact h v QE
  simp[this]
theorem NP{y:Str->Option d3}{x:Str}{v:kt}:∀{P:LS}{vs:LW}{i:Nat}{m:Str->Option kt},P.Nodup->P[i]?=jr x->vs[i]?=jr v->y x=jr .local ->
  pd y (P.zip vs) m x=jr v
 |[],_,_,_,_,h,_,_=>by simp at h|_::_,[],_,_,_,_,h,_=>by simp at h|p::P,w::vs,0,m,nd,h1,h2,hk=>by simp at h1 h2;subst h1;subst h2;show pd y ((p,w)::P.zip vs) m p=_;unfold pd;rw[MP λv hv=>(Qh.mp nd).1 (QBI hv).1,oa hk];simp|p::P,w::vs,i+1,m,nd,h1,h2,hk=>by show pd y ((p,w)::P.zip vs) m x=_;unfold pd;exact NP (i:=i) (Qh.mp nd).2 (by simpa using h1) (by simpa using h2) hk
theorem IP{y:Str->Option d3}{x:Str}{v:kt}:∀{P:LS}{vs:LW}{i:Nat}{m:Str->Option kt},P.Nodup->P[i]?=jr x->vs[i]?=jr v->y x≠jr .local ->
  pc y (P.zip vs) m x=jr v
 |[],_,_,_,_,h,_,_=>by simp at h|_::_,[],_,_,_,_,h,_=>by simp at h|p::P,w::vs,0,m,nd,h1,h2,hk=>by simp at h1 h2;subst h1;subst h2;show pc y ((p,w)::P.zip vs) m p=_;unfold pc;rw[PP λv hv=>(Qh.mp nd).1 (QBI hv).1,ot hk];simp|p::P,w::vs,i+1,m,nd,h1,h2,hk=>by show pc y ((p,w)::P.zip vs) m x=_;unfold pc;exact IP (i:=i) (Qh.mp nd).2 (by simpa using h1) (by simpa using h2) hk
noncomputable def sD(N:LS)(vs:LV):St:=vs.map jr++QAa (N.9 - vs.9) kd
noncomputable def sX(l:Da)(P:vb)(w:xb)(K:QC)(mg:Str->Option kt)(base:xk)(N:LS)(g:Str)(d:hQ)(f:k4)(x:kt)(A:zq)(outer:List Env)(s:ko)(H:Hp)(E:XK):Cx where
 prog:=P
 w:=w
 K:=K
 mg:=mg
 base:=base
 A:=A.deeper (ac g d s.1.1.size f x)
 N:=N
 s₀:=s
 H₀:=H
 env:=ac g d s.1.1.size f x
 outer:=outer
 stack:=ac g d s.1.1.size f x::outer
 ex:=[]
 calm:=kb
 fn:=λ_=>kb
 pn:=[]
 xe:=λe y=>k0 (k5 P w) (A.deeper (ac g d s.1.1.size f x)) (leaving (ac g d s.1.1.size f x) e) (λ_ h=>l outer H s E e h) (λz h=>l outer H s E z h) y
theorem MU{sc:hQ}{n:Nat}{x:Str}(h:sc.names.lookup x=jr .cell):∃c,(sn n sc.names []).lookup x=jr c:=by have q:=QA8 sc.names n [] (.inl h);exact Option.isSome_iff_exists.mp q
theorem Y3{K:QC}{N:LS}{F:kt}{A:zq}{outer:List Env}{s G:ko}{H:Hp}{E:XK}{us:LW}{vs:LV}
  (S:FnScope N j d) (M:A.handled=kd) (o:Env0 P w K mg base A outer s H) (hl:vs.9=j.9) (r:nA vs us)
  (x:InCallC s s.1.1.size (pd (ac g d s.1.1.size f F).kindOf (j.zip us) λ_=>kd) (sn (s.1.1.size+1) d.names []) (pc (ac g d s.1.1.size f F).kindOf (j.zip us) λ_=>kd) G) :
  Inv (sX l P w K mg base N g d f F A outer s H E) [] (sD N vs) H G:=by
 have L:j.9<=N.length:=by have:=QP qR S.pre;rw[qI]at this;omega
 let#[C,Q,rfl,hk]:=x.done;have X:∀b:k4,b∉(sX l P w K mg base N g d f F A outer s H E).ex:=λb z=>o2 (show b∈([]:List k4) from z) (by simp);refine#[#[o.mod,S.kind,rfl,rfl,QZ _,λy z c C m=>?_,λy Y=>?_,λy c _ h=>?_,λ_=>M,Around.frames_deeper o.frames,.inr #[rfl,rfl],λb z=>o2 z (X b),o.bs,o.bsz,λb _ _=>X b,λb z=>o2 z (X b),o.funs,o.frf,o.tb],
  rfl,o.bare,Un.kept hk,#[_,x.toInCall.ns,λi y v C m R=>?_],λy c h=>#[_,x.cell y c h],o.hok.fresh (QZ _),λy c h=>?_,λp W=>o2 (show p∈([]:SB) from W) (by simp),o.hok.kept hk,?_]
 exact name_of_addr x.apart (qS C) (qS m);have Y:d.names.lookup y=jr .cell∨d.names.lookup y=jr .free:=Y;rcases Y with Y|Y;exact MU Y;exact o2 rfl (S.nofree _ (qS Y));exact Ws (x.above y c (qS h));have B:i<vs.length:=by unfold sD at m;by_cases B:i<vs.9;exact B;rw[Qy (by simpa using B)]at m;rw[wv]at m;split at m<;>cases m
 have O:vs[i]?=jr v:=by
  unfold sD at m;rw[qP (by simpa using B),Qa]at m;cases e:vs[i]? with|none=>rw[e]at m;cases m|some a=>rw[e]at m;cases m;rfl
 let#[u,I,J]:=r.get O;have W:j[i]?=jr y:=by rw[<- S.pre,List.getElem?_take_of_lt ()];exact C
 have Z:j.Nodup:=by rw[<- S.pre];exact S.nd.sublist (List.take_sublist _ _)
 refine#[u,J,?_];rcases S.par y (qa W) with k|k;exact .inl #[k,NP Z W I k];let#[c,e]:=MU (n:=s.1.1.size+1) k;refine .inr #[.inl k,c,e,?_];have q:=x.cell y c e;rw[IP Z W I (by show d.names.lookup y≠_;rw[k];decide)]at q;exact q;exact o.hok.fresh (Ws (x.above y c (qS h)));unfold sD;show _=N.9;rw[QI,QD,wB];omega
theorem Og{K:QC}{k:Nat}{name:Str}{z:ro}{body:List g7}{dV kV Z pm h ct oc:kt}{an od:Option k4}
  {G:Array (Option kt)}{N:LS}{B:Sp}(lk:K.lookup f=jr #[oc,od,.func (ql name g z body d dV kV Z pm an h ct),G]) (O:Wr K h g=kb) (S:FnScope N j d)
  (len:∀vs H Q E,B vs H Q E->vs.9=j.9)
  (p:∀(A:zq) (outer:List Env) (s:ko) (H:Hp) (vs:LV) (Q:VK) (E:XK),Room k (A.deeper (ac g d s.1.1.size f h))->B vs H Q E ->
   ∃t,zY (sX l P w K mg base N g d f h A outer s H E) body t/\t { nx:=λ_ i=>Q .non i,rt:=Q } (sD N vs) H) :
  FnOk P w K mg base l (k+1) f (ql name g z body d dV kV Z pm an h ct) j B:=by
 refine#[len,λA outer s H args us vs Q E M Y hb r X=>?_];have hl:=len _ _ _ _ X;have KX:K.In s.heap:=Y.mod.kin.keeps λb o e=>(Y.bs b o e).1;have L:s.1.NoLimit:=Y.mod.nolimit.keeps λb o e=>(Y.bs b o e).1;have m:∀y∈j.zip us,d.names.lookup y.1=jr .local∨(d.names.lookup y.1=jr .cell/\((sn (s.1.1.size+1) d.names []).lookup y.1).isSome=kb):=λ#[n,v] hy=>by rcases S.par n (QBI hy).1 with q|q;exact .inl q;exact .inr #[q,QA8 _ _ _ (.inl q)]
 refine codeAny_call_function M.depth (KX _ _ lk) rfl S.co S.gen rfl (PySem.W.codeRec_of KX O) (hb _ _ _ _ ?_);refine wpAny_newFunctionEnv_cells S.kind m λenv he R x=>?_;subst he;refine#[L.keeps x.toInCall.keep,codeAny_func ?_];let#[t,ht,hq]:=p A outer s H vs Q E (M.deeper _) X;have I:Inv (sX l P w K mg base N g d f h A outer s H E) [] (sD N vs) H R:=Y3 S M.hd Y hl r x;refine wE (ht [] R (sD N vs) H _ I hq) (λfl C hs=>?_) λe C hs=>hs;have fin:∀{a:St}{i:Hp}{v:V}{u:kt},Inv (sX l P w K mg base N g d f h A outer s H E) [] a i C->aA v u->Q v i->CE outer P w H s Q u C :=
  λ{a i v u} J F q=>#[v,i,J.os,J.bare,J.base,J.hok,F,q]
 cases fl with|ret u=>let#[v,a,i,J,F,q]:=hs;exact fin J F q|next=>let#[a,i,J,q]:=hs;exact fin (v:=V.non) (u:=j2) J rfl q|brk=>let#[_,_,_,q]:=hs;exact Qf q|cont=>let#[_,_,_,q]:=hs;exact Qf q
end
section
variable{X:Cx}{x:Str}{p pos:Pos}{e:Expr}{es:List Expr}{t:TA}{y T:String}{r:LV->Hp->VK->Prop}
noncomputable def jz(r:LV->Hp->VK->Prop)(t:TA):TE:=λh H Q=>t h H λz u=>r z u Q
theorem jN(hc:IC X (.builtin y) r)(j:Gl X x)(hm:X.mg x=kd)(hv:gp x=jr (.builtin y))(m:PA X (e::es) t)(i:x≠"__name__":=by decide)(v:(x==("__debug__":Str))=false:=by decide)
  (l:x0 (e::es) X.env=(kn,hB e X.env)::x0 es X.env:=by rfl) (u:(dt pos (x0 es X.env)).any (·.1)=false:=by rfl):PE X (.Call (.Name x p) (e::es) [] pos) (jz r t):=by
 intro z s w H Q I h;refine wG (nE I j hm hv ?_ i v);exact PyProof.Rows.callWith_builtin1 (BB (m pos z s w H _ I h) λa b #[k,o,n,f,g]=>hc z b w o k a Q n f g) l u
theorem N0(hc:IC X (.type T) r)(j:Gl X x)(hm:X.mg x=kd)(hv:gp x=jr (.type T))(m:PA X (e::es) t)(i:x≠"__name__":=by decide)(v:(x==("__debug__":Str))=false:=by decide)
  (l:x0 (e::es) X.env=(kn,hB e X.env)::x0 es X.env:=by rfl) (u:(dt pos (x0 es X.env)).any (·.1)=false:=by rfl):PE X (.Call (.Name x p) (e::es) [] pos) (jz r t):=by
 intro z s w H Q I h;refine wG (nE I j hm hv ?_ i v);exact qT (BB (m pos z s w H _ I h) λa b #[k,o,n,f,g]=>hc z b w o k a Q n f g) l u
end
end L2
namespace HT
open PySem PyProof.Rows
section
open PySem.SeqAt
open PySem.AutoSeq1 (wpAny_loadPart')
open PySem.MeetsSeq PySem.MeetsSeq2 PySem.MeetsSeq3
end
section
variable{prog:vb}{w:xb}{A:zq}{E:fC}{s:ko}
section
variable{sl:k4}{a u:kt}{y z:Option Int}
noncomputable def sIx(n d:Nat):Option Int->Nat
 |none=>d|some v=>if v<0 then(v+(n:Int)).toNat else min v.toNat n
theorem Kj(n d:Nat)(h:d<=n)(o:Option Int):sIx n d o<=n:=by
 cases o with|none=>exact h|some v=>show(if v<0 then(v+(n:Int)).toNat else min v.toNat n)<=n;by_cases hv:v<0;rw[oa hv];omega;rw[ot hv];exact WO _ _
theorem VZ(v:Int)(n d:Nat):(if v<0 then max (v+(n:Int)) 0 else min v (n:Int))=((sIx n d (jr v):Nat):Int):=by show(if v<0 then max (v+(n:Int)) 0 else min v (n:Int))=(((if v<0 then(v+(n:Int)).toNat else min v.toNat n):Nat):Int);by_cases hv:v<0;simp only[oa hv];omega;simp only[ot hv];omega
theorem jY(y z:Option Int)(n:Nat):WM y z 1 (n:Int)=(((sIx n 0 y:Nat):Int),((sIx n n z:Nat):Int)):=by
 have h:¬ ((1:Int)<0):=()
 unfold WM;simp only[h,if_false];refine QCh ?_ ?_;cases y with|none=>rfl|some v=>exact VZ v n 0
 cases z with|none=>rfl|some v=>exact VZ v n n
theorem gW(i j:Nat):wX (i:Int) (j:Int) 1=j - i:=by
 unfold wX;have h:(1:Int) > 0:=()
 simp only[h,if_true,Int.ediv_one];split<;>omega
theorem JM{v:kt}{o:Option Int}{Q:Option Int->ko->Prop}(p:mi v o)(h:Q o s):k0 (k5 prog w) A (Builtin.Slice.slicePartIndex v) Q E s:=by
 cases p with|none=>exact ii h|int i t=>exact slicePart_int h
theorem SJ{n:Nat}{Q:Int×Int×Nat->ko->Prop}(hs:s.1.IsSliceOf sl a u .none)(e:mi a y)(b:mi u z)
  (h:Q (((sIx n 0 y:Nat):Int),1,sIx n n z - sIx n 0 y) s):k0 (k5 prog w) A (QAQ (.ref sl) (aj (n:Int))) Q E s:=by
 let#[g,v,f,k]:=id hs;unfold QAQ Builtin.Slice.sliceFields;refine QA (QA (wY v k (x:=a) rfl (QA (wY v k (x:=u) rfl (QA (wY v k (x:=.none) rfl (QK ?_)))))));refine QA (ii ?_);show k0 _ _ (if((1:Int)==0)=kb then _ else _) _ _ s;rw[ot (by decide)];refine QA (JM e (QA (JM b (QA (QK ?_)))));show k0 _ _ (match WM y z 1 (n:Int) with | (y,z)=>aj (y,(1:Int),wX y z 1)) _ _ s;rw[jY y z n];show k0 _ _ (aj (((sIx n 0 y:Nat):Int),(1:Int),wX ((sIx n 0 y:Nat):Int) ((sIx n n z:Nat):Int) 1)) _ _ s;rw[gW];exact QK h
theorem U6(xs:Array kt)(i k:Nat):((Qm k).filterMap λ(m:Nat)=>xs[((i:Int)+(m:Int) * 1).toNat]?).toArray=((xs.toList.drop i).take k).toArray:=by
 have e:(λ(m:Nat)=>xs[((i:Int)+(m:Int) * 1).toNat]?)=λm=>xs[i+m]?:=by
  funext m;have:((i:Int)+(m:Int) * 1).toNat=i+m:=()
  rw[this]
 rw[e];have:=pick_run xs i k;rw[List.filterMap_map]at this;have h:((λx=>xs[x]?)∘λx=>i+x)=λm=>xs[i+m]?:=rfl;rw[h]at this;rw[this]
theorem getItem_tuple_cut{t:k4}{items:Array kt}{Q:fC}(v:i2 s.1 t items)(hs:s.1.IsSliceOf sl a u .none)(i:mi a y)(g:mi u z)
  (l:¬ (sIx items.size 0 y=0/\sIx items.size items.size z=items.size))
  (h:Q (.ref s.1.1.size) { s with heap:=s.1.push { cls:=.type "tuple",data:=.seq ((items.toList.drop (sIx items.size 0 y)).take (sIx items.size items.size z - sIx items.size 0 y)).toArray } })
  (hsz:items.size<=ku):k0 (k5 prog w) A (nP (.ref t) (.ref sl)) Q E s:=by
 have x:sizeOk (.seq ((items.toList.drop (sIx items.size 0 y)).take (sIx items.size items.size z - sIx items.size 0 y)).toArray):=by show((items.toList.drop (sIx items.size 0 y)).take (sIx items.size items.size z - sIx items.size 0 y)).toArray.size<=ku;rw[QO,qI,W5,Q0];omega
 have r:sIx items.size items.size z<=items.size:=Kj _ _ (QZ _) z;let#[j,k,e,n]:=id hs;have f:s.TypeIs (.ref sl) "slice":=#[j,k,e]
 unfold nP
 try with_reducible refine qk ?_
 first|refine QA (QK ?_)|skip
 refine QA (wpAny_sequenceKey v.typeIs (by decide) ?_);refine QA (qV (name:=QY "__getitem__") v.typeIs wf
  (qO wf v.typeIs entry_tuple_getitem ?_ (args_tuple_getitem _ _)))
 show k0 _ _ (QAO (.ref t) >>= _) _ _ s;refine QA (tupleItemsOf_ v ?_);refine QA (QBJ f ?_);rw[oa (by decide)];refine QA (SJ hs i g ?_);have b:¬ ((((sIx items.size 0 y:Nat):Int)==0&&(1:Int)==1&&(sIx items.size items.size z - sIx items.size 0 y)==items.size)=kb):=by intro q;rw[QW,QW]at q;have p:((sIx items.size 0 y:Nat):Int)=0:=qb q.1.1;have o:sIx items.size items.size z - sIx items.size 0 y=items.size:=qb q.2;exact l #[(),()]
 show k0 _ _ (if(((sIx items.size 0 y:Nat):Int)==0&&(1:Int)==1&&(sIx items.size items.size z - sIx items.size 0 y)==items.size)=kb then _ else _) _ _ s;rw[ot b,U6];first
  |exact QA (m:=wg _) (Q3 (QK #[_,rfl,QK h]) x)
  |exact QA (m:=wg _) (Q3 (QA (QK (QK #[_,rfl,QK h]))) x)
  |exact QA (QA (m:=wg _) (Q3 (QK (QK #[_,rfl,QK h])) x))
  |exact QA (QA (m:=wg _) (Q3 (QK #[_,rfl,QK h]) x))
end
end
end HT
namespace L2
open PySem PySem.Spec PyProof.Rows
noncomputable abbrev TO:=St->Hp->(Option Int->Hp->Prop)->Prop
def PO(X:Cx)(e:Option Expr)(t:TO):Prop :=
 ∀(h:SB) (s:ko) (x:St) (H:Hp) (Q:Option Int->Hp->Prop),Inv X h x H s->t x H Q ->
  k0 (k5 X.prog X.w) X.A (evalPart e X.env) (λu z=>∃o y,Inv X h x y z/\mi u o/\Q o y) X.xe s
def Bb:TO:=λ_ H Q=>Q kd H
noncomputable def Zp(t:TE):TO:=λh H Q=>t h H λx y=>∃i,x=.int i/\Q (jr i) y
theorem vX{ns:LJ}:∀{us:LW},nA (ns.map V.int) us->a9 us ns:=by
 induction ns with
 |nil=>intro us r;rw[wT]at r;cases r;exact .nil|cons n ns y =>
  intro us r;rw[QT]at r;cases r with|cons x h=>let#[t,e]:=x;subst e;exact .cons n t (y h)
section
variable{X:Cx}{e:Expr}{te:TE}{y z:Option Expr}{k c:TO}{pos p2:Pos}
theorem bc:PO X kd Bb:=by intro x s u H Q I h;rw[Rt];exact QK #[kd,H,I,.none,h]
theorem uc(h:PE X e te):PO X (jr e) (Zp te):=by intro v s w H Q I f;rw[evalPart_some];refine BB (h v s w H _ I f) λu l #[x,j,g,a,b]=>?_;let#[i,rfl,q]:=b;let#[t,rfl]:=a;exact#[jr i,j,g,.int i t,q]
def Fh(X:Cx)(r:V->Option Int->Option Int->Hp->VK->Prop):Prop :=
 ∀(h:SB) (s:ko) (u:St) (H:Hp) (x:V) (v b a:kt) (y z:Option Int) (f:k4) (Q:VK),Inv X h u H s->aA x v->s.1.IsSliceOf f b a .none->mi b y->mi a z->r x y z H Q ->
  ∃T id,pL (.type T) "__getitem__"=aj (jr (.builtin id))/\s.TypeIs v T/\k0 (k5 X.prog X.w) X.A (nP v (.ref f)) (EP X h u Q) X.xe s
theorem Fh.or{r r':V->Option Int->Option Int->Hp->VK->Prop}(h:Fh X r)(h':Fh X r'):Fh X (λx y z H Q=>r x y z H Q∨r' x y z H Q):=by intro u s w H x v b a y z f Q I g hs j i q;rcases q with q|q;exact h u s w H x v b a y z f Q I g hs j i q;exact h' u s w H x v b a y z f Q I g hs j i q
noncomputable def jAU(r:V->Option Int->Option Int->Hp->VK->Prop)(te:TE)(k c:TO):TE:=λh H Q=>te h H λx a=>k h a λl w=>c h w λu v=>r x l u v Q
theorem C6{r:V->Option Int->Option Int->Hp->VK->Prop}(F:Fh X r)(J:PE X e te)(hl:PO X y k)(C:PO X z c):PE X (.Subscript e (.Slice y z kd p2) pos) (jAU r te k c):=by intro a s g H Q I h;refine QCE (BB (J a s g H _ I h) λv o #[x,S,P,p,W]=>?_);refine wpAny_Slice (BB (hl a o g S _ P W) λj n #[l,R,O,B,Z]=>BB (C a n g R _ O Z) λi f #[u,m,N,K,Y]=>?_);rw[Rt];refine QK ?_;have M:Inv X a g m { f with heap:=f.1.push { cls:=.type "slice",data:=.fields (qG [j,i,.none]) } }:=N.kept (t':=f.toks) λb ob q=>QH _ q;let#[T,id,L,E,G]:=F a { f with heap:=f.1.push { cls:=.type "slice",data:=.fields (qG [j,i,.none]) } } g m x v j i l u f.1.1.size Q M p (Heap.IsSliceOf.new ..) B K Y;show k0 (k5 X.prog X.w) X.A (a8 e (.Slice y z kd p2) v (.ref f.1.1.size)) (EP X a g Q) X.xe { f with heap:=f.1.push { cls:=.type "slice",data:=.fields (qG [j,i,.none]) } };exact tail_any (ops:=[.ref f.1.1.size,v]) E L G (by with_unfolding_all rfl)
noncomputable def DU(xs:LV)(y z:Option Int):LV:=(xs.drop (HT.sIx xs.9 0 y)).take (HT.sIx xs.9 xs.9 z - HT.sIx xs.9 0 y)
theorem uL(xs:LV)(y z:Option Int):(DU xs y z).9<=xs.length:=by unfold DU;rw[qI,W5];omega
def yq(K:QC):V->Option Int->Option Int->Hp->VK->Prop:=λx y z H Q=>∃a h,x=.ref a/\yD K H a h /\
 ¬ (HT.sIx h.9 0 y=0/\HT.sIx h.9 h.9 z=h.9)/\∀p,H p=kd->Q (.ref p) (CA H p (.tup (DU h y z)))
theorem pj:Fh X (yq X.K):=by
 intro g s Z H x v A W y z B Q I l hs n m h;let#[a,w,rfl,p,Y,q]:=h;cases l;let#[f,r,j,i]:=I.tuple p;have u:f.toArray.size=w.length:=by rw[QO];exact r.length.symm
 refine#["tuple",_,wf.lookup,j.typeIs,?_];refine HT.getItem_tuple_cut j hs n m (by rw[u];exact Y) ?_ (by rw[u];exact i);rw[u];refine#[.ref s.1.1.size,_,I.laid (t':=s.toks) (o:=.tup (DU w y z)) (λb ob q=>QH _ q) (QZ _) ?_,rfl,q _ (I.hok.fresh (QZ _))];exact#[QS (uL w y z) i,_,(r.drop (HT.sIx w.9 0 y)).take (HT.sIx w.9 w.9 z - HT.sIx w.9 0 y),IsTup.new _ _]
end
noncomputable def FR(n:Nat)(i:Int):Option Nat:=if 0<=i then(if i<n then jr i.toNat else kd) else if -(n:Int)<=i then jr (i+n).toNat else kd
def NC{α:Type}(xs:List α)(i:Int):Option α:=(FR xs.9 i).bind λj=>xs[j]?
theorem DR{n:Nat}{i:Int}{j:Nat}(h:FR n i=jr j):seqIndex? i n=jr j/\j<n/\-(n:Int)<=i/\i<n:=by unfold FR at h;by_cases h0:0<=i;rw[oa h0]at h;by_cases x:i<n;rw[oa x]at h;have e:i.toNat=j:=Ql h;exact#[by rw[QAx h0 x,e],(),(),x];rw[ot x]at h;cases h;rw[ot h0]at h;by_cases x:-(n:Int)<=i;rw[oa x]at h;have e:(i+n).toNat=j:=Ql h;exact#[by rw[QCT () x,e],(),x,()];rw[ot x]at h;cases h
theorem oS{α:Type}{xs:List α}{i:Int}{v:α}(h:NC xs i=jr v):∃j,seqIndex? i xs.9=jr j/\xs[j]?=jr v/\j<xs.9/\-(xs.9:Int)<=i/\i<xs.length:=by
 unfold NC at h;cases e:FR xs.9 i with|none=>rw[e]at h;cases h|some j=>rw[e]at h;let#[u,z,y,x]:=DR e;exact#[j,u,h,z,y,x]
theorem xC{α:Type}{xs:List α}{j:Nat}{v:α}(h:xs[j]?=jr v):NC xs (j:Int)=jr v:=by
 have x:j<xs.length:=(Qg.mp h).1;have e:FR xs.9 (j:Int)=jr j:=by unfold FR;rw[oa (),oa ()];simp
 unfold NC;rw[e];exact h
def HZ(b:Expr):Prop:=∀o i,subscripted b kn o i=operate [o,i] (nP o i)
def Va(X:Cx)(r:R2):Prop :=
 ∀(k h:Expr) (z:SB) (s:ko) (a:St) (H:Hp) (x y:V) (v u:kt) (Q:VK),Inv X z a H s->aA x v->aA y u->r x y H Q ->
  subscripted h kn v u=operate [v,u] (nP v u)->k0 (k5 X.prog X.w) X.A (a8 k h v u) (EP X z a Q) X.xe s
def Ja(X:Cx)(id:String)(r:V->LV->Hp->VK->Prop):Prop :=
 ∀(h:SB) (s:ko) (y:St) (H:Hp) (x:V) (z:LV) (v:kt) (u:LW) (Q:VK),Inv X h y H s->aA x v->nA z u->r x z H Q ->
  k0 (k5 X.prog X.w) X.A (lj (.builtin id) (v::u)) (EP X h y Q) X.xe s
section
variable{X:Cx}{a b:Expr}{ta Y:TE}{pos:Pos}
section
variable{d:SB}{s:ko}{x:V}{u v:kt}
theorem Va.or{r r':R2}(h:Va X r)(h':Va X r'):Va X (λx y H Q=>r x y H Q∨r' x y H Q):=by intro z w d s k H x y v u Q I f e q hs;rcases q with q|q;exact h z w d s k H x y v u Q I f e q hs;exact h' z w d s k H x y v u Q I f e q hs
theorem Ja.or{g:String}{r r':V->LV->Hp->VK->Prop}(h:Ja X g r)(h':Ja X g r'):Ja X g (λx xs H Q=>r x xs H Q∨r' x xs H Q):=by intro d s y H x xs v z Q I w k q;rcases q with q|q;exact h d s y H x xs v z Q I w k q;exact h' d s y H x xs v z Q I w k q
theorem aq{r:R2}(f:Va X r)(g:PE X a ta)(hb:PE X b Y)(hs:HZ b):PE X (.Subscript a b pos) (Kp r ta Y):=by intro d s z H Q I h;exact QCE (binT g hb I h λv u w x y j i e k q=>f a b d w z j x y v u Q i e k q (hs _ _))
def fq(K:QC):R2:=λx y H Q=>∃p h i v,x=.ref p/\y=.int i/\aC K H p h/\NC h i=jr v/\Q v H
def cq(K:QC):R2:=λx y H Q=>∃p h i v,x=.ref p/\y=.int i/\yD K H p h/\NC h i=jr v/\Q v H
def dq:R2:=λx y H Q=>∃z i c,x=.str z/\y=.int i/\z.9<=ku/\NC z.cps.toList i=jr c/\Q (.str #[(qG [c])]) H
theorem ve:Va X (fq X.K):=by
 intro e f d s o H x y v u Q I B A h hs;let#[p,L,i,z,rfl,rfl,C,E,q]:=h;cases B;let#[t,rfl]:=A;let#[m,r,l,M]:=I.list C;let#[j,k,J,O,G,F]:=oS E;let#[w,Z,g]:=r.get J;have hl:=r.9;have N:=IH;have fin:EP X d o Q w s:=#[z,H,I,g,q]
 by_cases h0:0<=i;have n:i.toNat=j:=by rw[QAx h0 F]at k;exact Ql k
 exact item_listR l.isList h0 () (by rw[n];simpa using Z) fin hs;have n:(i+(m.toArray.size:Int)).toNat=j:=by rw[QCT () G]at k;rw[QO,<- hl];exact Ql k
 exact qt (x:=w) l.isList.typeIs QCF.lookup
  (wpAny_getItem_list_neg (Q:=λr W=>r=w/\EP X d o Q r W) l.isList () (by rw[QO]<;>omega) () (by rw[n];simpa using Z) #[rfl,fin]) hs
theorem xm:Va X (cq X.K):=by
 intro k e d s g H x y v u Q I o n h hs;let#[p,F,i,z,rfl,rfl,W,A,q]:=h;cases o;let#[t,rfl]:=n;let#[Z,r,l,G]:=I.tuple W;let#[j,C,B,N,M,L]:=oS A;let#[w,E,f]:=r.get B;have hl:=r.9;have J:=IH;have fin:EP X d g Q w s:=#[z,H,I,f,q]
 exact qt (x:=w) l.typeIs QAT.lookup
  (QB1 (j:=j) (Q:=λr m=>r=w/\EP X d g Q r m) l () () (by rw[QO,<- hl];exact C) (by simpa using E) #[rfl,fin]) hs
theorem um:Va X dq:=by
 intro w k d s Z H x y v u Q I g f h hs;let#[z,i,c,rfl,rfl,K,l,q]:=h;let#[t,rfl]:=g;let#[W,rfl]:=f;let#[j,e,o,B,n,m]:=oS l;have hl:z.cps.toList.9=z.length:=by simp[Str.length]
 rw[hl]at e n m;have A:=IH;exact tail_any (QCu s z t) slot_str_getitem.lookup (getItem_str (c:=c) (by have r:decide (i < -(2 ^ 63:Int))=false:=dF ();have p:decide (i ≥ 2 ^ 63)=false:=dF ();rw[r,p,QAu]) (by rw[e];simpa using o) #[.str #[(qG [c])],H,I.tok _,#[_,rfl],q]) hs
def jAb(K:QC):R2:=λx y H Q=>fq K x y H Q∨cq K x y H Q∨dq x y H Q
theorem cm:Va X (jAb X.K):=ve.or (xm.or um)
theorem SW(its:LW)(n j:Nat)(u:kt):Q6 (·.setIfInBounds j u) { cls:=.type "list",data:=.seq its.toArray n }={ cls:=.type "list",data:=.seq (its.set j u).toArray n }:=by simp[Q6]
theorem Inv.lst{d:SB}{σ:St}{H:Hp}{s:ko}{p:k4}{xs:LV}(I:Inv X d σ H s)(h:H p=jr (.lst xs)) :
  ∃(its:LW) (n:Nat),nA xs its/\s.1.get? p=jr { cls:=.type "list",data:=.seq its.toArray n }/\xs.9<=sizeLine:=by
 let#[z,its,n,r,e]:=I.hok p _ h;exact#[its,n,r,e,z]
theorem Inv.lstUpd{σ:St}{H:Hp}{p:k4}{xs y:LV}{its its':LW}{n z:Nat}{f:Obj->Obj}(I:Inv X d σ H s)(h:H p=jr (.lst xs))
  (g:s.1.get? p=jr { cls:=.type "list",data:=.seq its.toArray n }) (w:f { cls:=.type "list",data:=.seq its.toArray n }={ cls:=.type "list",data:=.seq its'.toArray z }) (r:nA y its') (k:y.9<=ku) (t:Nat) :
  Inv X d σ (CA H p (.lst y)) { s with heap:=s.1.update p f,toks:=t }:=by
 have e:(s.1.update p f).get? p=jr { cls:=.type "list",data:=.seq its'.toArray z }:=by rw[wU f g (by rw[w]<;>rfl),w]
 refine I.write (x:=p) (e:=p) (by rw[h];trivial) (.inl rfl) (λb u hb q=>(Wj _ _ (Q1 hb)).trans q) #[_,e] ?_;exact#[k,its',z,r,e]
def vq:V->V->V->Hp->(Hp->Prop)->Prop:=λo i v H Q=>∃p h k j,o=.ref p/\i=.int k/\H p=jr (.lst h)/\FR h.9 k=jr j/\Q (CA H p (.lst (h.set j v)))
theorem T5:tf X vq:=by
 intro d s m H o i v F G u Q I A B K h;let#[p,Z,k,j,rfl,rfl,e,E,q]:=h;cases A;let#[t,rfl]:=B;let#[y,n,r,w,C]:=I.lst e;let#[z,L,g,f]:=DR E;have hl:=r.9;have J:=IH;have l:Inv X d m (CA H p (.lst (Z.set j v))) { s with heap:=s.1.update p (Q6 (·.setIfInBounds j u)) } :=
  I.lstUpd e w (SW y n j u) (r.set K j) (by rw[qF];exact C) s.toks
 by_cases h0:0<=k;have hk:k.toNat=j:=by rw[QAx h0 f]at z;exact Ql z
 exact PySem.W.ki_setAt w h0 () (by rw[QO,<- hl];exact f) (by rw[hk];exact#[_,l,q]);have hk:(k+(y.toArray.size:Int)).toNat=j:=by rw[QCT () g]at z;rw[QO,<- hl];exact Ql z
 exact PySem.W.ki_setBack w () (by rw[QO,<- hl];exact g) () (by rw[hk];exact#[_,l,q])
theorem FQ(y z:Option Int)(n:Nat):(dy y z kd n).1=((HT.sIx n 0 y:Nat):Int)/\(dy y z kd n).2.1=((HT.sIx n n z:Nat):Int)/\(dy y z kd n).2.2=1:=by
 refine#[?_,?_,rfl];cases y with|none=>simp[dy,HT.sIx]|some i=>simp only[dy,HT.sIx,QCa,show(1:Int) > 0 by decide,if_true];by_cases h:i<0;simp only[h,if_true]<;>omega;simp only[h,if_false]<;>omega
 cases z with|none=>simp[dy,HT.sIx]|some i=>simp only[dy,HT.sIx,QCa,show(1:Int) > 0 by decide,if_true];by_cases h:i<0;simp only[h,if_true]<;>omega;simp only[h,if_false]<;>omega
theorem rO(its:LW)(h y:Option Int):slicePick its.toArray h y kd=((its.drop (HT.sIx its.9 0 h)).take (HT.sIx its.9 its.9 y - HT.sIx its.9 0 h)).toArray:=by let#[k,w,z]:=FQ h y its.toArray.size;unfold slicePick;rw[k,w,z];simp only[sliceRange_one,pick_run,QO]<;>rfl
def kq(K:QC):V->Option Int->Option Int->Hp->VK->Prop:=λx y z H Q=>∃a h,x=.ref a/\aC K H a h/\∀p,H p=kd->Q (.ref p) (CA H p (.lst (DU h y z)))
theorem Nb:Fh X (kq X.K):=by intro d s n H x v Z p w k W Q I f hs i g h;let#[a,y,rfl,m,q]:=h;cases f;let#[j,r,e,l]:=I.list m;have z:=r.9;refine#["list",_,QCF.lookup,e.isList.typeIs,?_];refine wpAny_getItem_list_slice e.isList hs i g .none (by simp) ?_ (by rw[QO]<;>omega);rw[rO,<- z];refine#[.ref s.1.1.size,_,I.laid (t':=s.toks) (o:=.lst (DU y w k)) (λb ob q=>QH _ q) (QZ _) ?_,rfl,q _ (I.hok.fresh (QZ _))];exact#[QS (uL y w k) l,_,0,(r.drop (HT.sIx y.9 0 w)).take (HT.sIx y.9 y.9 k - HT.sIx y.9 0 w),QR _ rfl]
noncomputable def tG:V->Bool
 | .non=>kb|.bl _=>kb|.int _=>kb|.str _=>kb|_=>kn
noncomputable def Fe:V->V->Bool
 | .non,.non=>kb|.bl a,.bl b=>a==b|.bl a,.int b=>(if a then 1 else 0)==b|.int a,.bl b=>a==(if b then 1 else 0)|.int a,.int b=>a==b|.str a,.str b=>a==b|_,_=>kn
theorem Dm{A:zq}{y:V}(w:aA y u)(h:aA x v)(k:tG y=kb)(fx:tG x=kb):qy A s u v (Fe y x):=by
 cases y with
 |non =>
  cases w;cases x with|non=>cases h;exact qy.same _|bl b=>cases h;exact qy.none_bool b|int b=>let#[t,rfl]:=h;exact qy.none_int b t|str b=>let#[t,rfl]:=h;exact qy.none_str b t|_=>exact o2 (show kn=kb from fx) QG
 |bl a =>
  cases w;cases x with|non=>cases h;exact qy.bool_none a|bl b=>cases h;exact qy.bool_bool a b|int b=>let#[t,rfl]:=h;exact qy.bool_int a b t|str b=>let#[t,rfl]:=h;exact qy.bool_str a b t|_=>exact o2 (show kn=kb from fx) QG
 |int a =>
  let#[z,rfl]:=w;cases x with|non=>cases h;exact qy.int_none a z|bl b=>cases h;exact qy.int_bool a z b|int b=>let#[t,rfl]:=h;exact qy.int_int a z b t|str b=>let#[t,rfl]:=h;exact QBw a z b t|_=>exact o2 (show kn=kb from fx) QG
 |str a =>
  let#[z,rfl]:=w;cases x with|non=>cases h;exact qy.str_none a z|bl b=>cases h;exact qy.str_bool a z b|int b=>let#[t,rfl]:=h;exact QBx a z b t|str b=>let#[t,rfl]:=h;exact qy.str_str a z b t|_=>exact o2 (show kn=kb from fx) QG
 |_=>exact o2 (show kn=kb from k) QG
def pX(x:V)(u:kt):Bool:=match u with
 | .none=>Fe .non x|.bool b=>Fe (.bl b) x|.int i _=>Fe (.int i) x|.str z _=>Fe (.str z) x|_=>kn
theorem l9{y:V}(r:aA y u)(f:tG y=kb):pX x u=Fe y x:=by
 cases y with|non=>cases r;rfl|bl b=>cases r;rfl|int i=>let#[t,rfl]:=r;rfl|str z=>let#[t,rfl]:=r;rfl|_=>exact o2 (show kn=kb from f) QG
theorem eJ{x:V}:∀{xs:LV}{us:LW},nA xs us->xs.all tG=kb->us.any (pX x)=xs.any λy=>Fe y x
 |_,_,.nil,_=>rfl|y::xs,u::us,.cons r t,f=>by rw[qW,QW]at f;rw[wK,wK,l9 r f.1,eJ t f.2]
theorem hG{A:zq}{s:ko}{x:V}{v:kt}(z:aA x v)(fx:tG x=kb):∀{xs:LV}{us:LW},nA xs us->xs.all tG=kb->∀u∈us,qy A s u v (pX x u)
 |_,_,.nil,_=>λu h=>by cases h|y::xs,u::us,.cons r t,f=>λw h=>by rw[qW,QW]at f;rcases QL.mp h with rfl|h;rw[l9 r f.1];exact Dm r z f.1 fx;exact hG z fx t f.2 w h
def inV(x:V)(xs:LV):Bool:=xs.any λy=>Fe y x
def iw(K:QC)(neg:Bool):R2:=λx y H Q=>∃p h,y=.ref p/\(aC K H p h∨yD K H p h)/\tG x=kb/\h.all tG=kb/\Q (.bl (if neg then !inV x h else inV x h)) H
theorem T0:EE X (vu .In) (iw X.K kn):=by intro d s l H x y v u Q I g i h;let#[p,m,rfl,k,fx,fs,q]:=h;cases i;rcases k with k|k;let#[z,r,e,j]:=I.list k;refine SeqAt.in_listAt (pX x) e.isList (λw f=>hG g fx r fs w (by simpa using f)) #[.bl _,H,I,rfl,?_];rw[show z.toArray.any (pX x)=z.any (pX x) by simp,eJ r fs];exact q;let#[z,r,e,j]:=I.tuple k;refine SeqAt.in_tupleAt (pX x) e (λw f=>hG g fx r fs w (by simpa using f)) #[.bl _,H,I,rfl,?_];rw[show z.toArray.any (pX x)=z.any (pX x) by simp,eJ r fs];exact q
theorem zR:EE X (vu .NotIn) (iw X.K kb):=by intro d s l H x y v u Q I g i h;let#[p,m,rfl,k,fx,fs,q]:=h;cases i;rcases k with k|k;let#[z,r,e,j]:=I.list k;refine SeqAt.notIn_listAt (pX x) e.isList (λw f=>hG g fx r fs w (by simpa using f)) #[.bl _,H,I,rfl,?_];rw[show z.toArray.any (pX x)=z.any (pX x) by simp,eJ r fs];exact q;let#[z,r,e,j]:=I.tuple k;refine SeqAt.notIn_tupleAt (pX x) e (λw f=>hG g fx r fs w (by simpa using f)) #[.bl _,H,I,rfl,?_];rw[show z.toArray.any (pX x)=z.any (pX x) by simp,eJ r fs];exact q
theorem rJ:IC X (.builtin "len") (λxs H Q=>∃p z,xs=[.ref p]/\(aC X.K H p z∨yD X.K H p z)/\Q (.int z.9) H):=by intro d s j H xs l Q I r h;let#[p,z,rfl,w,q]:=h;let#[u,rfl,g]:=GK r;cases g;have m:=IH;rcases w with w|w;let#[f,k,e,i]:=I.list w;have y:=k.9;exact Calls.call_len_list e.isList (by simp only[QO]<;>omega) #[.int z.9,H,I.tok _,#[s.toks+1,by rw[QO,y]],q];let#[f,k,e,i]:=I.tuple w;have y:=k.9;exact len_tuple e (by simp only[QO]<;>omega) #[.int z.9,H,I.tok _,#[s.toks+1,by rw[QO,y]],q]
theorem mS:IC X (.builtin "len") (λxs H Q=>∃z,xs=[.str z]/\z.9<=ku/\Q (.int z.9) H):=by intro d s y H xs w Q I r h;let#[z,rfl,k,q]:=h;let#[u,rfl,t,rfl]:=GK r;have e:=IH;exact len_str () #[.int z.9,H,I.tok _,#[_,rfl],q]
theorem IC.or{f:kt}{r r':LV->Hp->VK->Prop}(h:IC X f r)(h':IC X f r'):IC X f (λxs H Q=>r xs H Q∨r' xs H Q):=by intro d s y H xs z Q I w q;rcases q with q|q;exact h d s y H xs z Q I w q;exact h' d s y H xs z Q I w q
theorem AO:IC X (.type "tuple") (λxs H Q=>∃p z,xs=[.ref p]/\((aC X.K H p z/\∀l,H l=kd->Q (.ref l) (CA H l (.tup z)))∨(yD X.K H p z/\Q (.ref p) H))):=by
 intro d s j H xs C Q I r h;let#[p,z,rfl,h]:=h;let#[u,rfl,W]:=GK r;cases W;rcases h with⟨i,q⟩| ⟨i,q⟩
 let#[y,f,g,m]:=I.list i;have n:=f.9;refine call_tuple_list g.isList (λk A=>?_) (by simp only[QO]<;>omega);have Z:Inv X d j H { s with heap:=k }:=I.kept (t':=s.toks) A;have B:Inv X d j (CA H k.1.size (.tup z)) { s with heap:=k.push { cls:=.type "tuple",data:=.seq y.toArray } } :=
  Z.laid (t':=s.toks) (λb o e=>QH _ e) (QZ _) (show HA X.prog X.w _ _ _ (.tup z) from#[m,y,f,IsTup.new _ _])
 exact#[.ref k.1.size,_,B,rfl,q _ (Z.hok.fresh (QZ _))];let#[y,f,g,m]:=I.tuple i;exact call_tuple_same g #[.ref p,H,I,rfl,q]
def RZ(K:QC)(T:String)(x:V)(H:Hp):Prop:=match x with
 | .str _=>T="str"|.int _=>T="int"|.ref p=>(T="list"/\∃y,aC K H p y)∨(T="tuple"/\∃o,K.lookup p=jr o/\o.cls=.type "tuple"/\o.dict=kd) ∨
   (T="dict"/\((∃h,H p=jr (.dK h))∨∃z h,H p=jr (.dT z h)))∨(T="set"/\∃S n,H p=jr (.set S n))
 |_=>False
theorem n5{σ:St}{H:Hp}{T:String}(I:Inv X d σ H s)(r:aA x v)(ty:RZ X.K T x H) :
  s.TypeIs v T/\∀a,v=.ref a->∃ob,s.1.get? a=jr ob/\ob.dict=none:=by
 cases x with
 |str z=>let#[t,rfl]:=r;cases(show T="str" from ty);exact#[QCu s z t,λ_ e=>nomatch e]
 |int i=>let#[t,rfl]:=r;cases(show T="int" from ty);exact#[typeIs_int s i t,λ_ e=>nomatch e]
 |ref p =>
  cases r;rcases ty with⟨rfl,l,j⟩| ⟨rfl,o,hk,hc,w⟩| ⟨rfl,hk⟩| ⟨rfl,S,n,hk⟩
  let#[g,_,f,_]:=I.list j;refine#[f.isList.typeIs,λa e=>?_];cases e;let#[o,n,e,c,w,_]:=f;exact#[o,e,w];refine#[#[o,I.kIn p o hk,hc],λa e=>?_];cases e;exact#[o,I.kIn _ o hk,w];have z:∃o,s.1.get? p=jr o/\o.ExactDict:=by
   rcases hk with⟨y,hk⟩| ⟨m,y,hk⟩
   let#[_,_,_,_,o,_,_,e,h,_]:=I.hok p _ hk;exact#[o,e,h];let#[_,_,_,_,o,_,e,h,_]:=I.hok p _ hk;exact#[o,e,h]
  let#[o,e,h]:=z;refine#[#[o,e,h.1],λa k=>?_];cases k;exact#[o,e,h.2.1];let#[o,_,_,_,e,h,_]:=I.hok p _ hk;refine#[#[o,e,h.1],λa k=>?_];cases k;exact#[o,e,h.2.1]
 |_=>exact Qf ty
noncomputable def Av(K:QC)(T:String)(r:V->LV->Hp->VK->Prop)(m:TE):TE:=λy H Q=>m y H λx h=>RZ K T x h/\r x [] h Q
noncomputable def jAX(K:QC)(T:String)(r:V->LV->Hp->VK->Prop)(m:TE)(t:TA):TE:=λh H Q=>m h H λx y=>RZ K T x y/\t h y λz w=>r x z w Q
end
variable{o e:Expr}{es:List Expr}{m:TE}{t:TA}{name:Str}{apos cpos:Pos}{T g:String}{r:V->LV->Hp->VK->Prop}
theorem uk(p:pR T)(w:Slot T name g)(k:typeOf (.builtin g)=aj (.type "method_descriptor"))(hm:Ja X g r)(q:PE X o m)
  (u:ca o name X.env (hB o X.env)=hB o X.env:=by rfl) (z:(apos.endLine==cpos.line)=true:=by rfl):PE X (.Call (.Attribute o name apos) [] [] cpos) (Av X.K T r m):=by
 intro y s f H Q I h;refine QAy u z (BB (q y s f H _ I h) λv l #[x,A,j,i,ty,n]=>?_);let#[W,Z]:=n5 j i ty;exact#[T,g,p,w,k,W,Z,Wk rfl (QBn (hm y l f A x [] v [] Q j i .nil n))]
theorem iq(F:pR T)(k:Slot T name g)(j:typeOf (.builtin g)=aj (.type "method_descriptor"))(hm:Ja X g r)(G:PE X o m)(J:PA X (e::es) t)
  (w:ca o name X.env (hB o X.env)=hB o X.env:=by rfl)
  (f:((dt cpos (x0 (e::es) X.env)).all (λx=>!x.1)&&(backToKw cpos (keywordEach [] X.env)).all (λx=>x.1.isSome)
   && decide ((e::es).9+([]:List l8).9+(if([]:List l8).isEmpty then 0 else 1)<30))=true:=by rfl)
  (u:(apos.endLine==cpos.line)=true:=by rfl) (hs:x0 (e::es) X.env=(kn,hB e X.env)::x0 es X.env:=by rfl) (z:(dt cpos (x0 es X.env)).any (·.1)=false:=by rfl) :
  PE X (.Call (.Attribute o name apos) (e::es) [] cpos) (jAX X.K T r m t):=by
 intro y s i H Q I h;refine wpAny_Call_method_late w f u rfl (BB (G y s i H _ I h) λv A #[x,P,p,l,ty,E]=>?_);let#[M,L]:=n5 p l ty;refine#[T,g,F,k,j,M,L,?_];have n:=J cpos y A i P _ p E;rw[hs]at n ⊢;refine Wk (by show(kn||(dt cpos (x0 es X.env)).any (·.1))=kn;rw[z]<;>rfl) (Calls.evalArgs_plain ?_);exact BB n λZ W #[q,O,N,B,C]=>hm y W i O x q v Z Q N l B C
end
def By(X:Cx)(id:String)(r:V->LV->Hp->VK->Prop):Prop :=
 ∀(h:SB) (s:ko) (y:St) (H:Hp) (x:V) (z:LV) (v:kt) (u:LW) (Q:VK),Inv X h y H s->aA x v->nA z u->r x z H Q ->
  k0 (k5 X.prog X.w) X.A (lj (.builtin id) (v::u)) (EP X h y Q) X.xe s
theorem nA.one:∀{x:V}{us:LW},nA [x] us->∃u,us=[u]/\aA x u
 |_,_,.cons r .nil=>#[_,rfl,r]
theorem nA.eraseIdx:∀{xs:LV}{us:LW}(i:Nat),nA xs us->nA (xs.eraseIdx i) (us.eraseIdx i)
 |_,_,_,.nil=>.nil|_,_,0,.cons _ t=>t|_,_,i+1,.cons r t=>.cons r (nA.eraseIdx i t)
theorem nA.reverse{xs:LV}{us:LW}(h:nA xs us):nA xs.reverse us.reverse:=by
 induction h with|nil=>exact .nil|cons r t x=>rw[wj,wj];exact nA.append x (.cons r .nil)
theorem VP{α:Type}:∀(l:List α) (i:Nat),(l.eraseIdx i).9<=l.9
 |[],_=>QZ _|_::_,0=>qz _|_::r,i+1=>W6 (VP r i)
section
variable{X:Cx}{y:SB}{σ:St}{H:Hp}{s:ko}{l b:k4}{xs v w:LV}
theorem Inv.lset{its its':LW}{n:Nat}{f:Array kt->Array kt}{t':Nat}(I:Inv X y σ H s)(a:H l=jr (.lst xs))
  (e:s.1.get? l=jr { cls:=.type "list",data:=.seq its.toArray n }) (k:f its.toArray=its'.toArray) (hv:nA v its') (h:v.9<=ku) :
  Inv X y σ (CA H l (.lst v)) { s with heap:=s.1.update l (Q6 f),toks:=t' }:=by
 have q:=PySem.IsL.update e f;rw[k]at q;refine I.write (x:=l) (e:=l) (by rw[a];exact trivial) (.inl rfl) (λg u hb z=>(Wj s.1 (Q6 f) (Q1 hb)).trans z) #[_,q] ?_;exact#[h,its',_,hv,q]
theorem Inv.lnew{its:LW}{t':Nat}(I:Inv X y σ H s)(hv:nA v its)(h:v.9<=ku) :
  Inv X y σ (CA H s.1.1.size (.lst v)) { s with heap:=s.1.push { cls:=.type "list",data:=.seq its.toArray },toks:=t' } :=
 I.laid (λ_ _ q=>QH _ q) (QZ _) #[h,its,0,hv,QR _ rfl]
theorem Inv.fresh(I:Inv X y σ H s):H s.1.1.size=none:=I.hok.fresh (QZ _)
theorem Inv.lstM(I:Inv X y σ H s)(h:H l=jr (.lst xs)):xs.9<=ku/\∃(its:LW) (n:Nat),nA xs its/\xs.9=its.9/\s.1.get? l=jr { cls:=.type "list",data:=.seq its.toArray n }:=by let#[z,its,n,r,e]:=I.hok l _ h;exact#[z,its,n,r,r.9,e]
theorem B7{n:Nat}(h:n<=ku):WU n=false:=by unfold WU;exact dF ()
end
section
variable{X:Cx}
def NQ:V->LV->Hp->VK->Prop:=λx z H Q=>∃l h y,x=.ref l/\z=[y]/\H l=jr (.lst h)/\h.9<ku/\Q .non (CA H l (.lst (h++[y])))
theorem U2:By X "list.append" NQ:=by intro k s i H x m v o Q I b f h;let#[l,j,y,rfl,rfl,a,p,q]:=h;cases b;let#[u,rfl,g]:=f.one;let#[z,w,n,r,hl,e]:=I.lstM a;refine QCG F.slot_list_append #[_,e,rfl] F.entry_list_append (F.args_list_append_2 _ _) (PySem.list_append l w.toArray n u (by rw[QO];omega)) #[e,?_];refine#[.non,_,I.lset (its':=w++[u]) a e (by simp) (r.append (.cons g .nil)) ?_,rfl,q];rw[QI,qL];omega
def Ib:V->LV->Hp->VK->Prop:=λx z H Q=>∃l b y h,x=.ref l/\z=[.ref b]/\H l=jr (.lst y)/\H b=jr (.lst h)/\y.9+h.9<=ku/\Q .non (CA H l (.lst (y++h)))
theorem V2:By X "list.extend" Ib:=by
 intro f s K H x E v G Q I i j h;let#[l,b,C,A,rfl,rfl,g,Z,J,q]:=h;cases i;let#[u,rfl,m]:=j.one;cases m;let#[z,w,n,r,hl,e]:=I.lstM g;let#[B,y,p,o,Y,W]:=I.lstM Z;have a:w.toArray.size+y.toArray.size<=sizeLine:=by rw[QO,QO];omega
 have k:¬ (!w.toArray.isEmpty&&WU (w.toArray.size+y.toArray.size))=true:=by rw[B7 a,QBd];exact QG
 refine QCG F.slot_list_extend #[_,e,rfl] F.entry_list_extend (F.args_list_extend_2 _ _)
  (AutoSeq1.list_extend_list_list_0 l w.toArray n b y.toArray p k (by rw[QO];omega) ()) #[e,W,?_]
 refine#[.non,_,I.lset (its':=w++y) g e (by simp) (r.append o) ?_,rfl,q];rw[QI];omega
def Uj:V->LV->Hp->VK->Prop:=λx z H Q=>∃l h i k y,x=.ref l/\z=[.int i]/\H l=jr (.lst h)/\-(2 ^ 63)<=i/\i<2 ^ 63/\seqIndex? i h.9=jr k/\h[k]?=jr y/\Q y (CA H l (.lst (h.eraseIdx k)))
theorem A7:By X "list.pop" Uj:=by
 intro f s A H x B v C Q I m o h;let#[l,j,i,k,y,rfl,rfl,g,K,W,hk,Y,q]:=h;cases m;let#[u,rfl,p]:=o.one;let#[t,rfl]:=p;let#[z,a,n,r,hl,e]:=I.lstM g;let#[w,Z,b]:=r.get Y;refine QCG F.slot_list_pop #[_,e,rfl] F.entry_list_pop (F.args_list_pop_2 _ _)
  (MeetsSeq.list_pop_at l a.toArray n i t k w (fitsIndex_both K W) (by rw[QO,<- hl];exact hk) (by rw[<- Wt];exact Z) (by rw[QO];omega)) #[e,?_]
 refine#[y,_,I.lset (its':=a.eraseIdx k) g e ?_ (r.eraseIdx k) ?_,b,q];show a.toArray.eraseIdxIfInBounds k=(a.eraseIdx k).toArray;rw[List.eraseIdxIfInBounds_toArray];have:=VP j k;omega
end
end L2
namespace Att
open PySem PySem.W PySem.Calls PyProof.Rows
theorem KL{P:Params}{h:xk}:∀(ns:LJ) (vs:LW),WellAll P h vs (ns.map WData.int)->a9 vs ns:=by
 intro ns;induction ns with
 |nil=>intro vs w;rw[wT]at w;cases w;exact .nil|cons n ns x =>
  intro vs w;rw[QT]at w;cases w with|cons a b=>cases a;exact .cons _ _ (x _ b)
theorem script_of{l:OpenLaw}{n:Nat}(j:l.most=jr n){P:Params}{h:xk}{args:List WData}{x:LW}
  (y:l.row.toRowW.claim.pre args=kb) (k:WellAll P h x args) :
  ∃a vs ns,x=[kx a]/\args=[WData.list (ns.map WData.int)]/\h.get? a=jr { cls:=.type "list",data:=.seq vs.toArray }/\a9 vs ns/\ns.9<=n:=by
 have b:WShape.hasAll [] args [.list .int]=true:=(pre_splitW y).1;have hc:l.pre.holds [] { args:=args }=true:=(pre_splitW y).2;let#[d,r,rfl,p,o]:=hasAllW_cons b;obtain rfl:=hasAllW_nil o;let#[s,rfl,m]:=hasW_list p;let#[ns,rfl]:=items_int m;have z:ns.9<=n:=by
  unfold OpenLaw.pre at hc;have w:(WTm.not (.lt (.lit (.int (n:Int))) (.len (.arg 0)))).holds [] { args:=[.list (ns.map .int)] }=true:=by have w:=(holds_andW hc).1;rw[j]at w;exact w
  have v:=condW_of w (w_not (w_lt w_lit (w_len_list (w_arg rfl))));rw[QD]at v;refine QCb λq=>?_;have g:(n:Int)<((ns.9:Nat):Int):=()
  first
   | (rw[dT g]at v;exact o2 v (by decide))
   | (simp at v;omega)
 cases k with
 |cons f e =>
  cases e;cases f with|list i u=>exact#[_,_,ns,rfl,rfl,i,KL ns _ u,z]
theorem post_true(l:OpenLaw)(args:List WData):l.row.toRowW.claim.post args (.bool kb) args=kb :=
 postW_of (r:=l.row.toRowW) (X:=(kb==kb))
  (show WShape.has [] (.bool kb) .bool=kb by first|rfl|decide|simp[WShape.has,WShape.arms,WShape.armsAll])
  (show(WTm.eq .res (.lit (.bool kb))).value [] { args:=args,res:=jr (.bool kb),after:=args }=jr (.bool (kb==kb)) from w_eq_bool (w_res rfl) w_lit) rfl
end Att
namespace L2
open PySem PySem.Spec PyProof.Rows
theorem xP:∀{vs:LW}{ns:LJ},a9 vs ns->nA (ns.map V.int) vs
 |_,_,.nil=>.nil|_,_,.cons n t h=>.cons #[t,rfl] (xP h)
def Ot(H:Hp):Prop:=∀b,H b=kd∨(∃o h,H b=jr (.frz o (.lst h)))∨∃q,H b=jr (.tbl q)
theorem r8{P:vb}{w:xb}{K:QC}{mg mb:Str->Option kt}{CX:Da}{k:Nat}{fa a:k4}{fd:g6}{x:Str}{sp:Sp}{y:ko}{vs:LW}{ns:LJ}{T c:k4}{X:Str}(hT:∀f:xk,K.In f->∀P q,kQ mg f P q->P=T/\q=X)(j:y.1.TableAt c T #[])(hKT:K.lookup T=kd)
  (KX:K.In y.1) (Q:y.1.Ns vx mg) (hb:y.1.Ns ln mb) (hbb:∀x:Str,x≠"__name__"->mb x=gp x) (R:y.1.NoLimit) (hg:y.gens=#[])
  (J:y.1.get? a=jr { cls:=.type "list",data:=.seq vs.toArray }) (hi:a9 vs ns) (hl:ns.9<=ku) (hr:Room k nt)
  (F:∀f:xk,K.In f->f.Ns vx mg->FnOk P w K mg f CX k fa fd [x] sp) (B:∀(s:ko) (u:kt),nL s fd #[[u],[]] [(x,u)])
  (hsp:∀H:Hp,Ot H->aC K H a (ns.map V.int)->sp [.ref a] H (λv _=>v=.bl kb) λ_ _ _=>False)
  (hCX:∀H e s',CX [] H y (λ_ _ _=>False) e s'->False) :
  pz (k5 P w) nt (.call (.ref fa) #[[.ref a],[]]) (λr s'=>r=.ok (.ret (.bool kb))/\OldK y.1 s'.1/\s'.os=y.os/\ab s'.gens) y:=by
 have rv:=xP hi;have O:=hi.9;have W:∀H:Hp,Ot H->aC K H a (ns.map V.int)->yM P w H y.1->(∀b,H b≠kd->b=a∨b=T)->(H a≠kd->K.lookup a=kd)->H T=jr (.tbl X) ->
   pz (k5 P w) nt (.call (.ref fa) #[[.ref a],[]]) (λr s'=>r=.ok (.ret (.bool kb))/\OldK y.1 s'.1/\s'.os=y.os/\ab s'.gens) y:=by
  intro H hO hS A hA hK hP;have l:∀{b:k4}{o:Obj},y.1.get? b=jr o->H b=kd->(PR y.1 H).get? b=jr o:=λe n=>S8 e n;have noA:∀{b:k4}{o:Obj}{L:Array lb}{M:Nat},y.1.get? b=jr o->o.data=.dict L M->H b=none:=λ{b o L M} e d=>by
   cases q:H b with|none=>rfl|some u=>rcases hA b (by rw[q];simp) with e'|e';subst e';rw[J]at e;cases e;have d':Data.seq vs.toArray _=Data.dict L M:=d;cases d';subst e';rw[j.2]at e;cases e;have d':Data.fields #[]=Data.dict L M:=d;cases d'
  have Y:∀{b:k4}{m:Str->Option kt},y.1.Ns b m->(PR y.1 H).Ns b m:=λ{b m} #[o,L,M,e,d,r]=>#[o,L,M,l e (noA e d),d,r]
  have G:K.In (PR y.1 H):=λb o e=>l (KX b o e) (by
   cases q:H b with|none=>rfl|some u=>rcases hA b (by rw[q];simp) with e'|e';subst e';rw[hK (by rw[q];simp)]at e;cases e;subst e';rw[hKT]at e;cases e)
  have hM:Mod K mg (PR y.1 H):=#[G,Y Q,#[mb,Y hb,hbb],let#[mc,h1,h2]:=R;#[mc,Y h1,h2]]
  have e0:Env0 P w K mg (PR y.1 H) nt [] y H:=#[rfl,hM,λb o e=>Zd e,wq (U3 _ _),trivial,λb hb=>o2 (show b∈([]:List k4) from hb) (by simp),λP q t=>(by let#[rfl,rfl]:=hT _ G P q t;exact hP),A,.of_eq hg]
  refine QCS ((F _ G (Y Q)).run nt [] y H #[[.ref a],[]] [.ref a] [.ref a] _ _ hr e0 (B y (.ref a)) (.cons rfl .nil) (hsp H hO hS)) λr s' h=>?_;cases r with
  |error e=>exact(hCX H e s' h).elim|ok fl =>
   cases fl with
   |next=>exact Qf h|brk=>exact Qf h|cont=>exact Qf h|ret u =>
    let#[v,H',os,bare,un,Z,r',q]:=h;have q':v=.bl true:=q;subst q';obtain rfl:u=Value.bool true:=r';have nx:∀b,b∉oZ []:=λb z=>o2 (show b∈([]:List k4) from z) (by simp);refine#[rfl,#[λb o e=>?_,λb o e=>un.there b o e (by simp)],os,bare];rcases hO b with z|⟨ob,xs,z⟩| ⟨tq',z⟩
    exact .inl (un.keep b o e z (nx b) (by simp));let#[S,_]:=A b _ z;let#[e2,_]:=Z b _ (un.frzs b ob _ z);rw[e]at S;cases S;exact .inl e2;have hb:b=T:=by rcases hA b (by rw[z];simp) with rfl|h;let#[ps,S,_]:=A b _ z;rw[J]at S;cases S;exact h
    subst hb;let#[ps,e2,_]:=Z b _ (un.tbls b _ z);have e0:=e.symm.trans j.2;cases e0;exact .inr (.inl #[j.isCodeTable,rfl,#[],ps,rfl,by simpa using e2])
 have aT:a≠T:=λz=>by have e:=j.2;rw[<- z,J]at e;cases e
 have N:∀H:Hp,HA P w H y.1 T (.tbl X):=λH=>#[#[],j.2,trivial,λpos cv g=>by cases g]
 cases hk:K.lookup a with
 |some o =>
  have e:=KX a o hk;rw[J]at e;cases e;refine W (λb=>if b=T then jr (.tbl X) else kd) (λb=>?_) (.inr #[_,vs.toArray,_,hk,rfl,rfl,rfl,by rw[QO,O];exact hl,by simpa using rv]) (λb u z=>?_) (λb z=>?_) (λz=>o2 (ot aT) z) (oa rfl);by_cases hb:b=T
  ·exact .inr (.inr #[_,oa hb])
  exact .inl (ot hb);by_cases hb:b=T
  ·have p:=(oa hb).symm.trans z
   cases p;subst hb;exact N _
  have p:=(ot hb).symm.trans z;cases p;by_cases hb:b=T
  ·exact .inr hb
  exact o2 (ot hb) z
 |none =>
  have C:∀b,b=T->(if b=T then jr (.tbl X) else if b=a then jr (.frz { cls:=.type "list",data:=.seq vs.toArray } (.lst (ns.map V.int))) else none:Option HO)=jr (.tbl X):=λb h=>oa h;have I:∀b,b=a->(if b=T then jr (.tbl X) else if b=a then jr (.frz { cls:=.type "list",data:=.seq vs.toArray } (.lst (ns.map V.int))) else none:Option HO)=jr (.frz { cls:=.type "list",data:=.seq vs.toArray } (.lst (ns.map V.int))):=λb h=>(ot (h▸aT)).trans (oa h);have E:∀b,b≠T->b≠a->(if b=T then jr (.tbl X) else if b=a then jr (.frz { cls:=.type "list",data:=.seq vs.toArray } (.lst (ns.map V.int))) else none:Option HO)=none:=λb h h2=>(ot h).trans (ot h2);refine W (λb=>if b=T then jr (.tbl X) else if b=a then jr (.frz { cls:=.type "list",data:=.seq vs.toArray } (.lst (ns.map V.int))) else kd) (λb=>?_) (.inl (.inr #[{ cls:=.type "list",data:=.seq vs.toArray },I a rfl])) (λb u z=>?_) (λb z=>?_) (λ_=>hk) (C T rfl);by_cases hb:b=T
  ·exact .inr (.inr #[_,C b hb])
  by_cases i:b=a
  ·exact .inr (.inl #[_,_,I b i])
  exact .inl (E b hb i);by_cases hb:b=T
  ·have p:=(C b hb).symm.trans z
   cases p;subst hb;exact N _
  by_cases i:b=a
  ·have p:=(I b i).symm.trans z
   cases p;subst i;exact#[J,by rw[QD];exact hl,vs,_,rv,J]
  have p:=(E b hb i).symm.trans z;cases p;by_cases hb:b=T
  ·exact .inr hb
  by_cases i:b=a
  ·exact .inl i
  exact o2 (E b hb i) z
noncomputable def MC(s:g7):Arguments:=match s with
 | .FunctionDef _ a _ _ _ _ _ _ _ _=>a|_=>{ posonlyargs:=[],args:=[],vararg:=kd,kwonlyargs:=[],kw_defaults:=[],kwarg:=kd,defaults:=[] }
noncomputable def vC(s:g7):List Stmt:=match s with
 | .FunctionDef _ _ b _ _ _ _ _ _ _=>b|_=>[]
noncomputable def LA(s:g7):Scope:=match s with
 | .FunctionDef _ _ _ _ _ _ sc _ _ _=>sc|_=>{ kind:=.function,names:=[],isGenerator:=kn,isCoroutine:=kn }
noncomputable abbrev M4:Da:=λ_ _ _ _ _ _=>False
noncomputable abbrev E0:XK:=λ_ _ _=>False
theorem Jq{X:Cx}:zO M4 X E0:=λ_ _ _ _ _ _ _ h=>h.elim
structure Fun(K:QC)(x qual:Str)(st:g7)(f:k4)(fd:g6):Prop where
 ex:∃(oc:kt) (od:Option k4) (kV doc pm:kt) (an:Option k4) (cdv ct:kt) (osl:Array (Option kt)),
  fd=ql x qual (MC st) (vC st) (LA st) .none kV doc pm an cdv ct/\K.lookup f=jr #[oc,od,.func fd,osl]/\Wr K cdv qual=kb
 kp:wW K (.ref f)=kb
section
variable{P:vb}{w:xb}{K:QC}{mg:Str->Option kt}{base:xk}
section
variable{x y:Str}{st:g7}{f:k4}{u:g6}{z:LS}
theorem Fun.ok{N:LS}{k:Nat}{b:Sp}(F:Fun K x y st f u)(S:FnScope N z (LA st))(len:∀vs H Q E,b vs H Q E->vs.9=z.9)
  (a:∀(v:kt) (A:zq) (outer:List Env) (s:ko) (H:Hp) (vs:LV) (Q:VK) (E:XK),Room k (A.deeper (ac y (LA st) s.1.1.size f v))->b vs H Q E ->
   ∃t,zY (sX M4 P w K mg base N y (LA st) f v A outer s H E).nox (vC st) t/\t { nx:=λ_ m=>Q .non m,rt:=Q } (sD N vs) H):FnOk P w K mg base M4 (k+1) f u z b:=by
 let#[p,o,kV,l,n,X,v,r,i,rfl,lk,g]:=F.ex;refine Og lk g S len λA outer s H vs Q E j e=>?_;let#[t,h,q]:=a v A outer s H vs Q E j e;exact#[t,h.nox,q]
theorem Fun.binds(F:Fun K x y st f u)
  (h:∀(kV v a:kt) (b:Option k4) (k ct:kt) (us:LW),us.9=z.9->lv (ql x y (MC st) (vC st) (LA st) .none kV v a b k ct) #[us,[]]=aj (z.zip us)):LH K u z []:=by
 let#[j,i,kV,v,a,b,k,ct,e,rfl,lk,g]:=F.ex;exact .all (h kV v a b k ct)
theorem Km{i:kt}{g e:Option k4}{a:Array (Option kt)}{kV v b h ct:kt}(l:K.lookup f=jr #[i,g,.func (ql x y (MC st) (vC st) (LA st) .none kV v b e h ct),a])
  (c:Wr K h y=kb) (k:wW K (.ref f)=kb):Fun K x y st f (ql x y (MC st) (vC st) (LA st) .none kV v b e h ct):=#[#[i,g,kV,v,b,e,h,ct,a,rfl,l,c],k]
end
end
def Same(H h:Hp):Prop:=∀b o,H b=jr o->h b=jr o
theorem Same.refl(H:Hp):Same H H:=λ_ _ h=>h
theorem Same.trans{H y x:Hp}(a:Same H y)(b:Same y x):Same H x:=λc o h=>b c o (a c o h)
theorem Same.free{H x:Hp}(e:Same H x){l:k4}(h:x l=Option.none):H l=Option.none:=by
 cases q:H l with|none=>rfl|some o=>rw[e l o q]at h;cases h
theorem Same.seq{K:QC}{H x:Hp}{a:k4}{xs:LV}(e:Same H x)(h:aC K H a xs):aC K x a xs:=by rcases h with(h|⟨o,h⟩)|h;exact .inl (.inl (e _ _ h));exact .inl (.inr #[o,e _ _ h]);exact .inr h
noncomputable def DO(env:Env):List (Str×d3)->List (Str×k4)->List (Str×k4)
 |[],cs=>cs|(n,k)::r,cs=>DO env r (if k==.free then(n,(env.cells.lookup n).getD 0)::cs else cs)
theorem iX{u:hQ}{env:Env}(h:∀y∈u.names,y.2=.free->∃c,env.cells.lookup y.1=jr c):nj u env=aj (DO env u.names []):=by
 have key:∀(l:List (Str×d3)) (v:List (Str×k4)),(∀y∈l,y.2=.free->∃c,env.cells.lookup y.1=jr c) ->
   (forIn l v λ(x:Str×d3) (r:List (Str×k4))=>(if(x.2==NameKind.free)=kb then(do let c <- cellOf env x.1;aj (ForInStep.yield ((x.1,c)::r))) else aj (ForInStep.yield r):Sem (ForInStep (List (Str×k4)))))=aj (DO env l v):=by
  intro l;induction l with
  |nil=>intro v _;rfl|cons y l a =>
   intro v hl;let#[n,k]:=y;rw[QAF];by_cases hk:k=.free;subst hk;let#[c,hc]:=hl (n,.free) QE rfl;have hc:env.cells.lookup n=jr c:=hc;simp only[beq_self_eq_true,if_true,cellOf,hc,pure_bind,DO,QCc];exact a _ λz w=>hl z (QF _ w);have hb:(k==NameKind.free)=false:=by simpa using hk
   simp only[hb,Qu,if_false,pure_bind,DO];exact a _ λz w=>hl z (QF _ w)
 have e:=key u.names [] h;unfold nj;exact(QP (· >>= aj) e).trans (pure_bind _ _)
theorem HP{env:Env}{x:Str}{c:k4}:∀(l:List (Str×d3)) (cs:List (Str×k4)),(∀y∈l,y.2=.free->∃c,env.cells.lookup y.1=jr c)->(∀c,cs.lookup x=jr c->env.cells.lookup x=jr c) ->
  (DO env l cs).lookup x=jr c->env.cells.lookup x=jr c
 |[],cs,_,hc,h=>hc c h|(n,k)::r,cs,hl,hc,h=>by
  refine HP r _ (λz a=>hl z (QF _ a)) (λd u=>?_) h;by_cases hk:k=.free;subst hk;let#[e,v]:=hl (n,.free) QE rfl;have v:env.cells.lookup n=jr e:=v;simp only[beq_self_eq_true,if_true,v,QCc,qe]at u;cases w:x==n with|true=>rw[w]at u;cases u;rw[qb w];exact v|false=>rw[w]at u;exact hc d u
  have hb:(k==NameKind.free)=false:=by simpa using hk
  simp only[hb,Qu,if_false]at u;exact hc d u
theorem FN{env:Env}{x:Str}:∀(l:List (Str×d3)) (cs:List (Str×k4)),((∃c,cs.lookup x=jr c)∨(x,NameKind.free)∈l)->∃c,(DO env l cs).lookup x=jr c
 |[],cs,h=>by rcases h with h|h;exact h;cases h
 | (n,k)::r,cs,h=>by
  refine FN r _ ?_;rcases h with⟨c,h⟩| h;refine .inl ?_;split;rw[qe];split;exact#[_,rfl];exact#[c,h];exact#[c,h];rcases QL.mp h with h|h
  ·cases h
   refine .inl ?_;simp
  exact .inr h
noncomputable def VB:List Bool->Nat->LS->LS
 |b::m,j,x::N=>(if b then#[(qG [46,j])] else x)::VB m (j+1) N|_,_,N=>N
noncomputable def PC:List Bool->St->St
 |b::m,v::σ=>(if b then kd else v)::PC m σ|_,σ=>σ
theorem kK:∀(m:List Bool) (σ:St),(PC m σ).9=σ.9
 |[],σ=>by unfold PC;rfl|_::_,[]=>by unfold PC;rfl|b::m,v::σ=>by unfold PC;rw[QM,QM,kK m σ]
theorem DP:∀(m:List Bool) (j:Nat) (N:LS),(VB m j N).9=N.9
 |[],_,N=>by unfold VB;rfl|_::_,_,[]=>by unfold VB;rfl|b::m,j,x::N=>by unfold VB;rw[QM,QM,DP m (j+1) N]
theorem pN:∀(m:List Bool) (j:Nat) (N:LS) (σ:St) (i:Nat) (v:V),(PC m σ)[i]?=jr (jr v)->σ[i]?=jr (jr v)/\(VB m j N)[i]?=N[i]?
 |[],_,N,σ,i,v,h=>by unfold PC at h;unfold VB;exact#[h,rfl]|_::_,_,N,[],i,v,h=>by unfold PC at h;simp at h|b::m,j,[],w::σ,i,v,h=>by
  unfold PC at h;cases i with
  |zero =>
   cases b with|true=>simp at h|false=>simp at h;subst h;exact#[by simp,by unfold VB;rfl]
  |succ i=>have q:=(pN m (j+1) [] σ i v (by simpa using h)).1;exact#[by simpa using q,by unfold VB;rfl]
 |b::m,j,x::N,w::σ,0,v,h=>by
  unfold PC at h;cases b with|true=>simp at h|false=>simp at h;subst h;exact#[by simp,by unfold VB;simp]
 |b::m,j,x::N,w::σ,i+1,v,h=>by unfold PC at h;have q:=pN m (j+1) N σ i v (by simpa using h);unfold VB;exact#[by simpa using q.1,by simpa using q.2]
noncomputable def UM(h sc:hQ):hQ :=
  { h with names:=h.names.map λ(n,k)=>if(k==.free&&sc.kind==.function&&sc.names.lookup n==jr .cell) then(n,.cell) else(n,k) }
theorem HC(sc:hQ)(x:Str):∀(l:List (Str×d3)),
  (l.map λ(n,k)=>if(k==NameKind.free&&sc.kind==.function&&sc.names.lookup n==jr .cell) then(n,NameKind.cell) else(n,k)).lookup x =
   (l.lookup x).map λk=>if(k==NameKind.free&&sc.kind==.function&&sc.names.lookup x==jr .cell) then NameKind.cell else k
 |[]=>rfl|(n,k)::r=>by
  rw[QT];have e:(if(k==NameKind.free&&sc.kind==.function&&sc.names.lookup n==jr .cell)=kb then(n,NameKind.cell) else(n,k)) =
    (n,if(k==NameKind.free&&sc.kind==.function&&sc.names.lookup n==jr .cell)=kb then NameKind.cell else k):=by split<;>rfl
  show WA x ((if(k==NameKind.free&&sc.kind==.function&&sc.names.lookup n==jr .cell)=kb then(n,NameKind.cell) else(n,k))::_)=_;rw[e,qe,qe];cases h:x==n with|true=>rw[qb h];simp|false=>exact HC sc x r
structure CompSt(N:LS)(sc scope:hQ)(tgs:LS)(mask:List Bool):Prop where
 kind:scope.kind=.function
 nocell:∀y∈scope.names,y.2≠.cell
 names:∀y∈scope.names,y.2=.local->scope.names.lookup y.1=jr .local
 free:∀y∈scope.names,y.2=.free->sc.names.lookup y.1=jr .cell∨sc.names.lookup y.1=jr .free
 loc:∀y∈scope.names,y.2=.local->y.1∈tgs∨y.1=(".0":Str)
 nd:(tgs++VB mask 0 N).Nodup
 no0:(".0":Str)∉tgs++VB mask 0 N
def AA(X:Cx)(h:hQ)(y:LS)(x:List Bool)(s:ko)(H:Hp)(ex:List k4):Cx :=
  { X with N:=y++VB x 0 X.N,s₀:=s,H₀:=H,env:=compEnvC h (DO X.env h.names []) s.1.1.size X.env,outer:=X.stack,stack:=X.stack,ex:=ex,fn:=λ_=>kn,pn:=[],xe:=λ_ _=>False }
def nJ(k:Nat)(h:List Bool)(σ:St):St:=QAa k kd++PC h σ
section
variable{X:Cx}{f:SB}{σ:St}{H:Hp}{s:ko}{w:hQ}{d:LS}{a:List Bool}{ex:List k4}
theorem CompSt.cells(C:CompSt X.N X.env.scope w d a)(ok:X.Ok):∀y∈w.names,y.2=.free->∃c,X.env.cells.lookup y.1=jr c:=λy h x =>
 ok.has y.1 (C.free y h x)
theorem CompSt.kindCF(C:CompSt X.N X.env.scope w d a){x:Str}(h:(mx w X.env).names.lookup x=jr .cell∨(mx w X.env).names.lookup x=jr .free):(x,NameKind.free)∈w.names:=by
 have e:=HC X.env.scope x w.names;have z:(mx w X.env).names.lookup x=(w.names.lookup x).map λk=>if(k==NameKind.free&&X.env.scope.kind==.function&&X.env.scope.names.lookup x==jr .cell) then NameKind.cell else k:=e
 rw[z]at h;cases q:w.names.lookup x with
 |none=>rw[q]at h;simp at h|some k =>
  have hm:=qS q;have y:=C.nocell _ hm;cases k with|free=>exact hm|cell=>exact o2 rfl y|«local»=>rw[q]at h;simp at h|_=>rw[q]at h;simp at h
theorem tX(I:Inv X f σ H s)(C:CompSt X.N X.env.scope w d a)(n:∀b∈ex,FJ X f H b/\b<s.1.1.size){h':xk}{t':Nat}
  (hn:h'.Ns s.1.1.size (λ_=>kd)) (hs:qg s.1.1.size (s.1.push { cls:=.type "dict",data:=.dict #[] }) h') :
  Inv (AA X w d a s H ex) [] (nJ d.9 a σ) H { s with heap:=h',toks:=t' }:=by
 have kept:∀b u,s.1.get? b=jr u->h'.get? b=jr u:=λb u e=>hs.extBut b u (Qk (QV e)) (QH _ e);have look:∀x c,(DO X.env w.names []).lookup x=jr c->X.env.cells.lookup x=jr c:=λx c e=>HP w.names [] (C.cells I.ok) (λc z=>by simp at z) e;have nofs:∀b∈ex,b∉oZ X.stack:=λb hb z=>by let#[#[_,f1,f2,_],_]:=n b hb;rcases QL.mp (I.stkSub b z) with e|e;exact f1 e;exact f2 e
 refine#[#[I.ok.mod,C.kind,I.ok.glob,I.ok.blt,QZ _,λx y c E j=>I.ok.inj x y c (look x c E) (look y c j),λx hx=>?_,λx c hf _=>o2 (show kn=kb from hf) QG,I.ok.hd,I.ok.frames,.inl rfl,λb hb=>?_,I.bs,QS I.ok.bsz I.sz,λb o e hb=>?_,nofs,I.stack,I.stkFree,I.tb],
  rfl,I.bare,Un.kept kept,#[_,hn,λi x v E j h3=>?_],λx c h=>?_,I.hok.fresh (QZ _),λx c h=>I.freeC x c (look x c h),λp hp=>o2 (show p∈([]:SB) from hp) (by simp),I.hok.kept kept,?_]
 exact FN w.names [] (.inr (C.kindCF hx));let#[#[_,_,_,_,f4,_],lt]:=n b hb;exact#[Qk lt,λx c e=>f4 x c (look x c e)];let#[#[_,_,_,f3,_],_]:=n b hb;rcases f3 with z|z;exact I.ok.noex b o e z;exact o2 (Qr (QV (I.ok.bs b o e).1) z) (qU _)
 ·
  have S:d.9<=i:=by rcases QBK i d.9 with z|z;unfold nJ at j;rw[qP (by simpa using z),wv]at j;split at j<;>cases j;exact z
  have Z:(VB a 0 X.N)[i - d.9]?=jr x:=by have:(d++VB a 0 X.N)[i]?=jr x:=E;rw[Qy S]at this;exact this
  have M:(PC a σ)[i - d.9]?=jr (jr v):=by unfold nJ at j;rw[Qy (by simpa using S)]at j;simpa using j
  let#[g1,g2]:=pN a 0 X.N σ _ v M;rw[g2]at Z;have A:x∈d++VB a 0 X.N:=qa (show(d++VB a 0 X.N)[i]?=jr x from E);have K:x∉d:=λz=>by have nd:=C.nd;rw[qh]at nd;exact nd.2.2 x z x (qa (by rw[g2];exact Z)) rfl
  have g:(x,NameKind.free)∈w.names:=by
   rcases h3 with z|z|z;exfalso;have e:(mx w X.env).names.lookup x=jr .local:=z;have P:=HC X.env.scope x w.names;have O:(mx w X.env).names.lookup x=(w.names.lookup x).map λk=>if(k==NameKind.free&&X.env.scope.kind==.function&&X.env.scope.names.lookup x==jr .cell) then NameKind.cell else k:=P
   rw[O]at e;cases q:w.names.lookup x with
   |none=>rw[q]at e;cases e|some k =>
    rw[q]at e;have hm:=qS q;have G:k=.local:=by
     cases k with|«local»=>rfl|free=>simp at e;split at e<;>cases e|_=>simp at e
    subst G;rcases C.loc _ hm rfl with z|z;exact K z;exact C.no0 (z▸A)
   exact C.kindCF (.inl z);exact C.kindCF (.inr z)
  let#[m,hnm,hl]:=I.loc;have F:Vo X.env.scope x:=.inr (C.free _ g rfl);let#[u,r,l]:=hl _ x v Z g1 F;refine#[u,r,?_];rcases l with⟨k,_⟩| ⟨_,c,hc,Y⟩
  exfalso;have R:X.env.scope.names.lookup x=jr .local:=k;rcases C.free _ g rfl with z|z;have W:X.env.scope.names.lookup x=jr .cell:=z;rw[R]at W;cases W;have W:X.env.scope.names.lookup x=jr .free:=z;rw[R]at W;cases W;let#[Q,B]:=FN (env:=X.env) w.names [] (.inr g);have:Q=c:=by have:=look x Q B;rw[hc]at this;exact(Ql this).symm
  subst this;refine .inr #[?_,Q,B,?_];rcases h3 with z|z|z
  ·exfalso
   have e:(mx w X.env).names.lookup x=jr .local:=z;have P:=HC X.env.scope x w.names;have O:(mx w X.env).names.lookup x=(w.names.lookup x).map λk=>if(k==NameKind.free&&X.env.scope.kind==.function&&X.env.scope.names.lookup x==jr .cell) then NameKind.cell else k:=P
   rw[O]at e;cases q:w.names.lookup x with
   |none=>rw[q]at e;cases e|some k =>
    rw[q]at e;have hm:=qS q;have G:k=.local:=by
     cases k with|«local»=>rfl|free=>simp at e;split at e<;>cases e|_=>simp at e
    subst G;rcases C.loc _ hm rfl with z|z;exact K z;exact C.no0 (z▸A)
  exact .inl z;exact .inr z;let#[o,J,L]:=Y;exact#[o,kept _ _ J,L]
 let#[v,o,J,L]:=I.cell x c (look x c h);exact#[v,o,kept _ _ J,L];show(nJ d.9 a σ).9=(d++VB a 0 X.N).9;unfold nJ;rw[QI,QI,wB,kK,DP,I.len]
end
section
variable{X:Cx}{h:SB}{σ σ':St}{H k:Hp}{s s':ko}{x:hQ}{a:LS}{w:List Bool}{ex:List k4}{D:k4}{y:LV}{its:LW}
theorem aX(I:Inv X h σ H s)(l:∀b∈ex,FJ X h H b/\b<s.1.1.size)(W:D∈ex)(J:Inv (AA X x a w s H ex) [] σ' k s')(f:k D=kd)(hv:nA y its)(B:y.9<=ku)
  (hl:s'.1.PlainList D its.toArray) {g:xk}(hs:qg s.1.1.size s'.1 g):Inv X h σ (CA k D (.lst y)) { s' with heap:=g }:=by
 have un:Un (oZ X.stack) ex H k s.1 s'.heap:=J.base;have j:∀b o,s.1.get? b=jr o->b≠s.1.1.size:=λb o e=>Qk (QV e);have C:=l D W;have Z:k s.1.1.size=none:=J.free;have M:D≠s.1.1.size:=Qk C.2;have m:∀b u,b≠s.1.1.size->s'.1.get? b=jr u->g.get? b=jr u:=λb u A e=>hs.extBut b u A e;refine I.call' (s':={ s' with heap:=g }) (ch:=ex) J.os #[λb o e n hb i=>?_,λb o e n hb i=>?_,λb o e n i=>?_,λb o e i=>?_,λb p e=>?_,λb o u e=>?_,λb r e=>?_] ?_ J.bare λb hb=>?_;exact m b o (j b o e) (un.keep b o e n hb i);let#[K,q]:=un.slot b o e n hb i;exact#[K,m b _ (j b o e) q];have q:=un.free b o e n i;rw[xA (λ(z:b=D)=>i (by rw[z];exact W))];exact q;let#[Y,q]:=un.there b o e i;exact#[Y,m b Y (j b o e) q];rw[xA (JA (un.tups b p e) f)];exact un.tups b p e;rw[xA (JA (un.frzs b o u e) f)];exact un.frzs b o u e;rw[xA (JA (un.tbls b r e) f)];exact un.tbls b r e;intro b u e;by_cases hb:b=D;subst hb;rw[pA]at e;cases e;let#[n,q]:=hl;exact#[B,its,n,hv,m _ _ M q];rw[xA hb]at e;refine(J.hok b u e).stay (λc v hc q=>m c v ?_ q) (λc q=>?_) λc p q=>?_;rintro rfl;rcases hc with z|z;subst z;rw[Z]at e;cases e;rw[Z]at z;cases z;rw[xA (JA q f)];exact q;rw[xA (JA q f)];exact q;let#[#[O,L,N,G,F,E],_]:=l b hb;exact#[G,L,F,E]
end
section
variable{X:Cx}{s:ko}{V Z K:Expr}{U:List Expr}{d:hQ}{pos:Pos}{B:TI}{g:TG}{tc:TT}{te:TE}{Y:LS}{j:List Bool}{l:SB}
def Nt(X:Cx)(U:List Expr)(t:TT):Prop:=∀(l:SB) (s:ko) (h:St) (H:Hp) (Q:Bool->Hp->Prop),Inv X l h H s->t h H Q ->
 k0 (k5 X.prog X.w) X.A (forIn U kb λc r=>if r=kb then do let ok <- isTrue c X.env (hB c X.env);aj (ForInStep.yield ok) else aj (ForInStep.yield r)) (TP X l h Q) X.xe s
theorem DY:Nt X [] (λ_ H Q=>Q kb H):=λl s x H Q I h=>by rw[QBg];exact QK #[H,I,h]
theorem CY{c:Expr}{t:TT}(hc:PT X c t):Nt X [c] t:=λl s x H Q I h=>by rw[QAF];simp only[if_true];refine QA (QA (BB (hc l s x H Q I h) λb y q=>QK ?_));dsimp only;rw[QBg];exact QK q
theorem pH{prog:vb}{w:xb}{A:zq}{R:Result->ko->Prop}{y:Expr}{it q:kt}{env:Env}(I:Nat->ko->Prop)
  (W:∀n s,I n s->k0 (k5 prog w) A (P0 it) (λr k=>match r with
   |none=>R (.ok .next) k|some v=>k0 (k5 prog w) A (c0 y it v) (λ_ u=>k0 (k5 prog w) A (la y env v) (λ_ f =>
     k0 (k5 prog w) A (forIn U kb λc r=>if r=kb then do let ok <- isTrue c env (hB c env);aj (ForInStep.yield ok) else aj (ForInStep.yield r)) (λok z =>
      if ok=kb then k0 (k5 prog w) A (hB V env) (λx e =>
       k0 (k5 prog w) A (lj (.builtin "list.append") [q,x]) (λ_ b=>∃m,m<n/\I m b) (λ_ _=>False) e) (λ_ _=>False) z
      else ∃m,m<n/\I m z) (λ_ _=>False) f) (λ_ _=>False) u) (λ_ _=>False) k) (λ_ _=>False) s)
  (n:Nat) (h:I n s) :
  pz (k5 prog w) A (.compLoop (.ListComp V [#[y,Z,U,0]] d pos) 0 it q env) R s:=by
 refine codeAny_loop rfl I (λn s G=>?_) n h;show k0 _ A ((compTurn (.ListComp V [#[y,Z,U,0]] d pos) 0 it q env).onRaise (λx=>do noteFrame x env;theTreesLotGoes x)) _ _ s;refine wpAny_noted ?_;rw[compTurn_list];refine QA (QAw (QA (wE (W n s G) (λr k o=>?_) λ_ _ a=>a.elim)));cases r with
 |none=>exact QK o|some v =>
  refine QA (wE o (λ_ u p=>?_) λ_ _ a=>a.elim);refine QA (wE p (λ_ f F=>QA (wE F (λok z i=>?_) λ_ _ a=>a.elim)) λ_ _ a=>a.elim);cases ok with|false=>exact QK #[rfl,i]|true=>exact QA (QA (wE i (λx e E=>QA (wE E (λ_ b C=>QK (QK #[rfl,C])) λ_ _ a=>a.elim)) λ_ _ a=>a.elim))
def V5(B:TI)(g:TG)(tc:TT)(te:TE)(k:Nat)(j:List Bool):TE:=λa H Q=>B a H λJ q=>∃W:Nat->Nat->LV->St->Hp->Prop,(∃m,W 0 m [] (nJ k j a) q) /\
 ∀i m h v u,W i m h v u->(J.stop i u/\h.9<=ku/\∀p,u p=kd->Q (.ref p) (CA u p (.lst h))) ∨
  (J.go i u/\∀x f,J.yld i u x f->g x v f λz o=>tc z o λb e=>if b=kb then te z e λy n=>h.9<ku/\∃w,w < m/\W (i+1) w (h++[y]) z n else ∃w,w < m/\W (i+1) w h z e)
def bu(X:Cx)(l:SB)(H:Hp)(s:ko)(C:k4):Prop :=
 H C=kd/\C≠X.env.locals/\X.s₀.1.1.size<=C/\(∀x c,X.env.cells.lookup x=jr c->c≠C)/\(∀p∈X.pn++l,p.1≠C)/\∃m,s.1.Ns C m
theorem FU{pos':Pos}{use:Option (kt->Sem Unit)}(hc:X.calm=kb)(hi:PI X K Z B)(C:CompSt X.N X.env.scope d Y j)
  (inner:∀s H ex,PG (AA X d Y j s H ex) K g/\Nt (AA X d Y j s H ex) U tc/\PE (AA X d Y j s H ex) V te)
  (hs:∀x,fy Z X.env x=aj x) {σ:St}{H:Hp}{Q:VK}{QQ:fC}(I:Inv X l σ H s) (h:V5 B g tc te Y.9 j σ H Q)
  (fin:∀(D:k4) (f:Hp) (s6:ko) (F:k4),Inv X l σ f s6->bu X l f s6 F->Q (.ref D) f->compPost (k5 X.prog X.w) X.A X.xe use QQ (.ref D) F (.ok .next) s6) :
  k0 (k5 X.prog X.w) X.A (rk (.ListComp V [#[K,Z,U,0]] d pos) d X.env pos' (newList []) kn (hB Z X.env) use) QQ X.xe s:=by
 refine wpAny_comprehension_free (use:=use) rfl hs (iX (C.cells I.ok)) C.kind C.names (BB (hi l s σ H _ I h) λv s1 h1=>BB h1 λitv s2 h2=>?_);let#[it,a,tn,J,E,e,I2,T,st2,f2,W,#[m0,w0],turn]:=h2;subst e;refine Q3 ?_;have I3:Inv X l σ E { s2 with heap:=s2.1.push { cls:=.type "list",data:=.seq ([]:LW).toArray } }:=I2.kept (t':=s2.toks) λb o e=>QH _ e;generalize hS:({ s2 with heap:=s2.1.push { cls:=.type "list",data:=.seq ([]:LW).toArray } }:ko)=s3 at I3;have sz3:s3.1.1.size=s2.1.1.size+1:=by rw[<- hS];exact WN ..
 have lst3:s3.1.PlainList s2.1.1.size ([]:LW).toArray:=#[0,by rw[<- hS];exact QR _ rfl]
 have old3:∀b o,s2.1.get? b=jr o->s3.1.get? b=jr o:=λb o e=>by rw[<- hS];exact QH _ e
 generalize hDd:s2.1.1.size=D at sz3 lst3;have fD:FJ X l E D:=by rw[<- hDd];exact I2.fpOk (QZ _) (I2.hok.fresh (QZ _))
 have fpl:∀b∈a,b<D:=λb hb=>by let#[o,e,_]:=T.obj _ _ st2 b hb;rw[<- hDd];exact QV e
 have hex:∀b∈D::a,FJ X l E b/\b<s3.1.1.size:=λb hb=>by rcases QL.mp hb with z|z;subst z;exact#[fD,by rw[sz3];exact QCW _];exact#[f2 b z,by rw[sz3];exact WF (fpl b z)]
 refine QBX C.nocell (by intro y hy;simp at hy) (λh' hn hsb=>?_) C.kind;have J0:Inv (AA X d Y j s3 E (D::a)) [] (nJ Y.9 j σ) E { s3 with heap:=h',toks:=s3.toks+([]:List (Str×kt)).9 }:=tX I3 C hex hn hsb;have kept:∀b u,s3.1.get? b=jr u->h'.get? b=jr u:=λb u e=>hsb.extBut b u (Qk (QV e)) (QH _ e);let#[pg,pf,pl]:=inner s3 E (D::a);have loop:∀s4:ko,s4={ s3 with heap:=h',toks:=s3.toks+([]:List (Str×kt)).9 } ->
   pz (k5 X.prog X.w) X.A (.compLoop (.ListComp V [#[K,Z,U,0]] d pos) 0 (.ref it) (.ref D) (compEnvC d (DO X.env d.names []) s3.1.1.size X.env))
    (compPost (k5 X.prog X.w) X.A X.xe use QQ (.ref D) s3.1.1.size) s4:=by
  rintro s4 rfl;have exok:∀{f:Hp},(∀b∈D::a,f b=kd)->∀(pp:SB),(∀p∈pp,p.1∉a)->∀b∈a,FJ (AA X d Y j s3 E (D::a)) pp f b:=λ{f} hn pp hpp b hb=>by have g:=J0.ok.exf b (QF _ hb);exact#[hn b (QF _ hb),g.1,J0.ok.exfs b (QF _ hb),.inl (QF _ hb),g.2,λp G z=>hpp p (by simpa[AA]using G) (z▸hb)]
  have DX:=J0.ok.exf D QE;have Dfp:D∉a:=λz=>qU _ (fpl D z);refine pH (λn M=>∃i m f L k,Inv (AA X d Y j s3 E (D::a)) [] m f M/\tn i M.1/\(∀b∈D::a,f b=kd)/\nA L k/\M.1.PlainList D k.toArray/\W i n L m f) ?_ m0
   #[0,_,E,[],[],J0,T.keep _ _ _ (T.keep _ _ _ st2 λb hb o e=>old3 b o e) λb hb o e=>kept b o e,λb hb=>((hex b hb).1).1,.nil,lst3.at λo e=>kept _ _ e,w0]
  rintro n s5 ⟨i,P,H5,L,k,I5,st5,fr5,va5,ls5,w5⟩;let#[R,lo]:=id ls5;have pinD:∀{m:St}{f:Hp}{M:ko},Inv (AA X d Y j s3 E (D::a)) [] m f M->(∀b∈D::a,f b=kd)->M.1.get? D=jr { cls:=.type "list",dict:=kd,data:=.seq k.toArray R } ->
    Inv (AA X d Y j s3 E (D::a)) [(D,{ cls:=.type "list",dict:=kd,data:=.seq k.toArray R })] m f M:=λ{m f M} I' fr' e' =>
   I'.pins_of λp G=>by
    have e:p=(D,{ cls:=.type "list",dict:=kd,data:=.seq k.toArray R }):=by simpa using G
    subst e;exact#[e',fr' D QE,DX.1,J0.ok.exfs D QE,λv z=>by cases z]
  have S:∀p∈[(D,({ cls:=.type "list",dict:=kd,data:=.seq k.toArray R }:Obj))],p.1∉a:=λp G=>by
   have e:p=(D,{ cls:=.type "list",dict:=kd,data:=.seq k.toArray R }):=by simpa using G
   subst e;exact Dfp
  have I5':=pinD I5 fr5 lo;rcases turn i n L P H5 w5 with⟨stop,hz,qn⟩| ⟨go,step⟩
  refine BB (T.done (AA X d Y j s3 E (D::a)) rfl rfl rfl hc i _ s5 P H5 (λ_ _=>False) I5' (exok fr5 _ S) st5 stop) λr s6 #[hr,I6]=>?_;subst hr;let#[m6,hn6,_]:=I6.loc;have l6:s6.1.PlainList D k.toArray:=#[R,(I6.pin _ (QU _ (QJ.mpr rfl))).1]
  have I6':Inv (AA X d Y j s3 E (D::a)) [] P H5 s6:=I6.pins_of λp G=>by simp at G
  have Iout:Inv X l σ (CA H5 D (.lst L)) s6:=aX I3 hex QE I6' (fr5 D QE) va5 hz l6 (qg.refl _ _);have lC:H5 s3.1.1.size=none:=I6'.free;refine fin D _ s6 s3.1.1.size Iout #[?_,w9 I3.lt,I3.sz,λx c e z=>?_,λp G z=>?_,m6,hn6] (qn D (fr5 D QE));rw[xA (λ(z:s3.1.1.size=D)=>o2 (hex D QE).2 (by rw[z];exact qU _))];exact lC;let#[v,q]:=I3.cell x c e;exact o2 q.lt (by rw[z];exact qU _);exact o2 (QV (I3.pin p G).1) (by rw[z];exact qU _);refine BB (T.item (AA X d Y j s3 E (D::a)) rfl rfl rfl hc i _ s5 P H5 (λ_ _=>False) I5' (exok fr5 _ S) st5 go) λr s6 #[u,hr,h6]=>?_;subst hr;refine BB h6 λ_ s7 #[x,H7,I7,r7,y7,st7,fr7]=>?_;have hD7:=(I7.pin _ (QU _ (QJ.mpr rfl)))
  have fr7':∀b∈D::a,H7 b=none:=λb hb=>by rcases QL.mp hb with z|z;subst z;exact hD7.2.1;exact fr7 b z
  have I7':=I7.pinned (exok fr7' _ S) (T.obj _ _ st7);have bk:∀{m:St}{f:Hp}{M:ko},Inv (AA X d Y j s3 E (D::a)) ([(D,{ cls:=.type "list",dict:=kd,data:=.seq k.toArray R })]++IM a s7.1) m f M ->
    M.1.get? D=jr { cls:=.type "list",dict:=kd,data:=.seq k.toArray R }/\tn (i+1) M.1/\(∀b∈D::a,f b=kd):=λ{m f M} I'=>by
   have hD:=I'.pin (D,{ cls:=.type "list",dict:=kd,data:=.seq k.toArray R }) (QU _ (Qn _ (QJ.mpr rfl)));refine#[hD.1,T.keep _ _ _ st7 λb hb o e=>(I'.pin (b,o) (QU _ (QU _ (uF hb e)))).1,λb hb=>?_];rcases QL.mp hb with z|z;subst z;exact hD.2.1;let#[o,e,_]:=T.obj _ _ st7 b z;exact(I'.pin (b,o) (QU _ (QU _ (uF z e)))).2.1
  refine BB (pg _ s7 P H7 x u _ I7' r7 (step x H7 y7)) λ_ s8 #[O,H8,I8,q8]=>?_;refine BB (pf _ s8 O H8 _ I8 q8) λok s9 #[H9,I9,q9]=>?_;cases ok with
  |false=>let#[m',hm,w']:=q9;let#[b1,b2,b3]:=bk I9;exact#[m',hm,i+1,O,H9,L,k,I9.pins_of λp G=>by simp at G,b2,b3,va5,#[R,b1],w']|true =>
   refine BB (pl _ s9 O H9 _ I9 q9) λy s10 #[yv,H10,I10,r10,hz,m',hm,w']=>?_;let#[b1,b2,b3]:=bk I10;have hlen:=va5.9;refine wpAny_list_append_plain (hsz:=by rw[QO];omega) (show s10.1.PlainList D k.toArray from#[R,b1]) λh11 hl11 hs11=>?_;refine#[m',hm,i+1,O,H10,L++[yv],k++[y],?_,T.keep _ _ _ b2 λb hb o e=>(hs11.2 b (λz=>Dfp (z▸hb))).trans e,b3,va5.append (.cons r10 .nil),by simpa using hl11,w'];have I10':Inv (AA X d Y j s3 E (D::a)) [] O H10 s10:=I10.pins_of λp G=>by simp at G
   exact I10'.turned (t':=s10.toks) (λb o hb e=>(hs11.2 b hb).trans e) (b3 D QE) DX.1 (.inl QE) DX.2 λp G=>by simp[AA]at G
 refine codeAny_compStart_list (loop _ rfl) (T.self X.A 0 _ _ _ (T.keep _ _ _ (T.keep _ _ _ st2 λb hb o e=>old3 b o e) λb hb o e=>kept b o e) (loop _ rfl))
theorem ZN{σ:St}{H:Hp}{F:k4}(I:Inv X l σ H s)(f:bu X l H s F){h':xk}(hs:qg F s.1 h'):Inv X l σ H { s with heap:=h' }:=by let#[u,z,y,x,h,_]:=f;exact I.turned (t':=s.toks) (λb o hb e=>(hs.2 b hb).trans e) u z (.inr y) x h
theorem Vc(hc:X.calm=kb)(v:PI X K Z B)(C:CompSt X.N X.env.scope d Y j)
  (y:∀s H ex,PG (AA X d Y j s H ex) K g/\Nt (AA X d Y j s H ex) U tc/\PE (AA X d Y j s H ex) V te)
  (hs:∀x,fy Z X.env x=aj x:=by intro _;rfl):PE X (.ListComp V [#[K,Z,U,0]] d pos) (V5 B g tc te Y.9 j):=by
 intro l s a H Q I h;rw[eval_ListComp];refine FU hc v C y hs I h λD k b F w f q=>?_;let#[m,u]:=f.2.2.2.2.2;exact#[m,u,λe z=>#[.ref D,k,ZN w f z,rfl,q]]
theorem xc{cpos u:Pos}{i:Nat}{x:Str}(hc:X.calm=kb)(R:X.N.Nodup)(n:X.N[i]?=jr x)(p:X.env.scope.names.lookup x=jr .local)
  (P:PI X K Z B) (C:CompSt X.N X.env.scope d Y j)
  (y:∀s H ex,PG (AA X d Y j s H ex) K g/\Nt (AA X d Y j s H ex) U tc/\PE (AA X d Y j s H ex) V te)
  (hs:∀x,fy Z X.env x=aj x) (k:ej (.ListComp V [#[K,Z,U,0]] d cpos) (jr (.Name x u)) pos.line X.env=aj kb) :
  PS X (.Assign [.Name x u] (.ListComp V [#[K,Z,U,0]] d cpos) pos) (X5 (V5 B g tc te Y.9 j) (lZ i)):=by
 intro l s σ H D0 I h;rw[exec_Assign_Name_used _ _ _ _ k];refine QA (QAw (QA ?_));show k0 _ X.A (do let _ <- rk (.ListComp V [#[K,Z,U,0]] d cpos) d X.env _ (newList []) kn (hB Z X.env) (jr (la (.Name x u) X.env))) _ _ s;refine QA (wE (FU (use:=jr (la (.Name x u) X.env)) (QQ:=λ_ o=>SP X l D0 .next o) hc P C y hs I h λD H' J F I6 f q=>?_) (λ_ o M=>QK (QK M)) λ_ _ e=>e);show k0 _ X.A (la (.Name x u) X.env (.ref D)) _ _ J;refine QCB (bP I6 R n (.inl p) (v:=.ref D) rfl (λG I7 #[a,E,Q]=>?_) (.inr p));let#[f0,W,f2,r,S,m,O]:=f;have L:F≠a:=by rcases Q with z|z;rw[z];exact W;exact λe=>r x a z e.symm
 have w:G.1.Ns F m:=O.sameBut E L;exact#[m,w,λh' b=>#[_,H',ZN I7 #[f0,W,f2,r,S,m,w] b,q]]
end
end L2
namespace L2.L3
open PySem PySem.Spec PyProof.Rows
def lq(K:QC):R2:=λx y H Q=>match x,y with
 | .int i,.int j=>Q (.int (i+j)) H|.str a,.str b=>a.9+b.9<=ku/\Q (.str (a++b)) H|.ref a,.ref b=>∃z h,aC K H a z/\aC K H b h/\z.9+h.9<=ku/\∀p,H p=kd->Q (.ref p) (CA H p (.lst (z++h)))|_,_=>False
noncomputable def jq:R2:=λx y H Q=>match x,y with
 | .int i,.int j=>Q (.int (i - j)) H|_,_=>False
noncomputable def xq(K:QC):R2:=λx y H Q=>match x,y with
 | .int i,.int j=>nc i j/\Q (.int (i * j)) H|_,_=>False
noncomputable def Af:R2:=λx y H Q=>match x,y with
 | .int i,.int j=>(0<j/\j<2 ^ 200)/\Q (.int (i / j)) H|_,_=>False
noncomputable def uq:R2:=λx y H Q=>match x,y with
 | .int i,.int j=>0<j/\Q (.int (i % j)) H|_,_=>False
section
variable{X:Cx}
theorem op_add:EE X (fm .Add) (lq X.K):=by
 intro w s n H x y v u Q I g f h;cases x with
 |int i =>
  cases y with|int j=>exact _root_.L2.op_add w s n H _ _ v u Q I g f #[i,j,rfl,rfl,h]|_=>exact Qf h
 |str a =>
  cases y with|str b=>exact sW w s n H _ _ v u Q I g f #[a,b,rfl,rfl,h.1,h.2]|_=>exact Qf h
 |ref a =>
  cases y with
  |ref b =>
   let#[xs,ys,N,M,hz,q]:=h;cases g;cases f;let#[k,r,#[#[S,R,A,G],L,W,E,d1,p],z1]:=I.list N;let#[z,Y,#[#[B,l,m,e],J,Z,C,d2,o],z2]:=I.list M;simp only at E p C o;subst E p C o;have hl:=r.9;have O:=Y.9;refine concat_meets #[_,W,rfl] #[_,Z,rfl] noFill_list_add seq_list_add PySem.F.slot_list_add PySem.F.entry_list_add (PySem.F.args_list_add_2 _ _) (list_addW a b k.toArray z.toArray L J R l G e (by simp;omega)) #[W,Z,?_];have P:k.toArray++z.toArray=(k++z).toArray:=by simp
   rw[P];exact#[.ref _,_,I.lnew (t':=s.toks) (r.append Y) (by rw[QI];omega),rfl,q _ I.fresh]
  |_=>exact Qf h
 |_=>exact Qf h
theorem op_sub:EE X (fm .Sub) jq:=by
 intro z s w H x y v u Q I a k h;cases x with
 |int i =>
  cases y with|int j=>exact _root_.L2.op_sub z s w H _ _ v u Q I a k #[i,j,rfl,rfl,h]|_=>exact Qf h
 |_=>exact Qf h
theorem Hc:EE X (fm .FloorDiv) Af:=by
 intro z s a H x y v u Q I k w h;cases x with
 |int i =>
  cases y with
  |int j =>
   let#[t,rfl]:=k;let#[b,rfl]:=w;let#[#[f,e],q]:=h;refine floordiv_int () ?_ (.inl (PyProof.noPylong_of_log2 ?_));rw[Int.fdiv_eq_ediv_of_nonneg i ()];exact#[.int _,H,I.tok _,#[_,rfl],q];have:j.natAbs<2 ^ 200:=()
   have:=(Nat.log2_lt (show j.natAbs≠0 by omega)).mpr this;omega
  |_=>exact Qf h
 |_=>exact Qf h
theorem op_mod:EE X (fm .Mod) uq:=by
 intro z s w H x y v u Q I a k h;cases x with
 |int i =>
  cases y with|int j=>exact _root_.L2.op_mod z s w H _ _ v u Q I a k #[i,j,rfl,rfl,h.1,h.2]|_=>exact Qf h
 |_=>exact Qf h
theorem nk:EE X (fm .Mult) (xq X.K):=by
 intro z s a H x y v u Q I k w h;cases x with
 |int i =>
  cases y with|int j=>let#[t,rfl]:=k;let#[b,rfl]:=w;exact mul_int #[.int _,H,I.tok _,#[_,rfl],h.2] h.1|_=>exact Qf h
 |_=>exact Qf h
end
end L2.L3
namespace L2
open PySem PySem.Spec PyProof.Rows
section
variable{x:Type}[DecidableEq x]
section
variable{p:x×V}{r kvs:List (x×V)}{vs:List (x×kt)}{u:kt}
noncomputable def fM(kvs:List (x×V))(k:x):Option V:=(kvs.find? λh=>decide (h.1=k)).map (·.2)
noncomputable def fW(kvs:List (x×V))(k:x)(v:V):List (x×V) :=
 if(kvs.any λh=>decide (h.1=k))=kb then kvs.map (λh=>if h.1=k then(h.1,v) else h) else kvs++[(k,v)]
theorem cM{k:x}(e:p.1=k):fM (p::r) k=jr p.2:=by simp[fM,wP,e]
theorem dM{k:x}(e:¬ p.1=k):fM (p::r) k=fM r k:=by simp[fM,wP,e]
theorem MS(k:x):∀kvs:List (x×V),(kvs.any λh=>decide (h.1=k))=(fM kvs k).isSome
 |[]=>rfl|p::r=>by rw[wK];by_cases e:p.1=k;simp only[cM e,dT e,QCR,Option.isSome_some];rw[dM e,dF e,QAv];exact MS k r
theorem vU(kvs:List (x×V))(k:x)(v:V):(fW kvs k v).9<=kvs.9+1:=by unfold fW;split;rw[QD];omega;rw[QI,QM,wO];omega
theorem rV.isSome_eq{o:Option V}{u:Option kt}(r:rV o u):o.isSome=u.isSome:=by
 cases o with
 |none=>cases u with|none=>rfl|some _=>exact(show False from r).elim
 |some _=>cases u with|none=>exact(show False from r).elim|some _=>rfl
theorem KV.val(r:KV kvs vs)(k:x):rV (fM kvs k) (me vs k):=by
 unfold KV at r;induction r with
 |nil=>exact True.intro|@cons p q g y h t a =>
  let#[w,f]:=h;by_cases e:p.1=k;have v:q.1=k:=w.symm.trans e;have b:me (q::y) k=jr q.2:=by simp[me,wP,v]
  rw[cM e,b];exact f;have v:¬ q.1=k:=λz=>e (w.trans z);have b:me (q::y) k=me y k:=by simp[me,wP,v]
  rw[dM e,b];exact a
theorem KV.any(r:KV kvs vs)(k:x):(kvs.any λy=>decide (y.1=k))=vs.any λy=>decide (y.1=k):=by
 unfold KV at r;induction r with|nil=>rfl|cons h t z=>rw[wK,wK,z,h.1]
theorem KV.repl(r:KV kvs vs)(k:x){y:V}(a:aA y u) :
  KV (kvs.map λv=>if v.1=k then(v.1,y) else v) (vs.map λv=>if v.1=k then(v.1,u) else v):=by
 unfold KV at r ⊢;induction r with|nil=>exact .nil|@cons p q i g h t b=>rw[QT,QT];refine .cons ?_ b;let#[w,f]:=h;by_cases e:p.1=k;rw[oa e,oa (w.symm.trans e)];exact#[w,a];rw[ot e,ot (λz=>e (w.trans z))];exact#[w,f]
theorem KV.put(r:KV kvs vs)(k:x){y:V}(h:aA y u):KV (fW kvs k y) (stored vs k u):=by unfold fW stored;rw[r.any k];by_cases e:(vs.any λz=>decide (z.1=k))=kb;rw[oa e,oa e];exact r.repl k h;rw[ot e,ot e];exact Paired.snoc r #[rfl,h]
theorem KV.length(r:KV kvs vs):kvs.9=vs.length:=qM r
end
end
theorem eN{P:vb}{w:xb}{k:Key}{u:kt}(r:aA (kV k) u):(zE P w).is k u=true:=by
 cases k with|inl i=>let#[t,e]:=(show ∃t,u=Value.int i t from r);subst e;exact RT P w i t|inr x=>let#[t,e]:=(show ∃t,u=Value.str x t from r);subst e;exact OT P w x t
end L2
namespace L2.L3
open PySem PySem.Spec PyProof.Rows
section
variable{r kvs:List KE}{xs:List (NK×k4×kt)}
noncomputable abbrev KE:=NK×k4×V
noncomputable def fH(kvs:List KE)(k:NK):Option V:=(kvs.find? λp=>decide (p.1=k)).map (·.2.2)
def CM(kvs:List KE)(k:NK)(b:k4)(v:V):List KE :=
 if(fH kvs k).isSome=kb then kvs.map (λp=>if p.1=k then(p.1,p.2.1,v) else p) else kvs++[(k,b,v)]
noncomputable abbrev KD:List KE->List (NK×k4×kt)->Prop:=y1 λ(p:NK×k4×V) (q:NK×k4×kt)=>p.1=q.1/\p.2.1=q.2.1/\aA p.2.2 q.2.2
theorem NS{p:KE}{k:NK}(e:p.1=k):fH (p::r) k=jr p.2.2:=by simp[fH,wP,e]
theorem OS{p:KE}{k:NK}(e:¬ p.1=k):fH (p::r) k=fH r k:=by simp[fH,wP,e]
theorem KD.val(r:KD kvs xs)(k:NK):rV (fH kvs k) ((lr xs k).map (·.2)):=by
 induction r with
 |nil=>exact True.intro|@cons p q a x h t v =>
  let#[u,_,w]:=h;by_cases e:p.1=k;have y:q.1=k:=u.symm.trans e;have b:lr (q::x) k=jr q.2:=by simp[lr,wP,y]
  rw[NS e,b];exact w;have y:¬ q.1=k:=λz=>e (u.trans z);have b:lr (q::x) k=lr x k:=by simp[lr,wP,y]
  rw[OS e,b];exact v
theorem KD.put(r:KD kvs xs)(k:NK)(b:k4){y:V}{u:kt}(v:aA y u):KD (CM kvs k b y) (ti xs k b u):=by
 have e:(fH kvs k).isSome=(lr xs k).isSome:=by rw[(r.val k).isSome_eq,QAk]
 unfold CM ti;rw[e];by_cases q:(lr xs k).isSome=kb;rw[oa q,oa q];clear e q;induction r with|nil=>exact .nil|@cons p q i g h t a=>rw[QT,QT];refine .cons ?_ a;let#[x,w,f]:=h;unfold putAt;by_cases e:p.1=k;rw[oa e,oa (x.symm.trans e)];exact#[x,w,v];rw[ot e,ot (λz=>e (x.trans z))];exact#[x,w,f]
 rw[ot q,ot q];exact Paired.snoc r #[rfl,rfl,v]
theorem xU(kvs:List KE)(k:NK)(b:k4)(v:V):(CM kvs k b v).9<=kvs.9+1:=by unfold CM;split;rw[QD];omega;rw[QI,QM,wO];omega
end
mutual
def Rn(K:QC)(H:Hp):NK->V->Prop
 | .s x,v=>v=.str x|.t ks,v=>∃a h,v=.ref a/\yD K H a h/\KyVs K H ks h
def KyVs(K:QC)(H:Hp):List NK->LV->Prop
 |[],xs=>xs=[]|k::ks,xs=>∃x r,xs=x::r/\Rn K H k x/\KyVs K H ks r
end
def jP(K:QC)(H:Hp)(b:k4)(k:NK):Prop:=Rn K H k (.ref b)/\G7 k<=6
theorem II{P:vb}{w:xb}{A:zq}(h:A.units+60<hZ):(xF P w).room A.in1:=by show A.in1.units+8<hZ;rw[QA5];omega
def HG(K:QC)(H:Hp)(kvs:List KE):Prop:=∀p∈kvs,jP K H p.2.1 p.1
theorem Inv.big{X:Cx}{x:SB}{σ:St}{H:Hp}{s:ko}(I:Inv X x σ H s):gl<s.1.1.size:=by have h:vx<s.1.1.size:=(I.mod.glob.keeps I.bk).lt;exact QAU (by decide) h
section
variable{X:Cx}{y:SB}{σ:St}{H:Hp}{s:ko}{a b:k4}
mutual
theorem Dr(I:Inv X y σ H s):∀{k:NK}{x:V}{u:kt},Rn X.K H k x->aA x u->C4 s.1 k u
 | .s z,x,u,e,r=>by cases(show x=.str z from e);exact r|.t ks,x,u,#[a,xs,e,q,p],r=>by subst e;cases r;let#[h,v,#[o,g,f,n,w],_]:=I.tuple q;exact#[a,h.toArray,rfl,#[o,g,f,n,w],by simpa using ky_vs I p v]
theorem ky_vs(I:Inv X y σ H s):∀{ks:List NK}{xs:LV}{us:LW},KyVs X.K H ks xs->nA xs us->NKvs s.1 ks us
 |[],xs,us,e,r=>by cases(show xs=[] from e);cases r;rfl|k::ks,xs,us,#[x,r,e,p,q],rv=>by
  subst e;cases rv with|cons h t=>exact#[_,_,rfl,Dr I p h,ky_vs I q t]
end
theorem dU{k:NK}(I:Inv X pins σ H s)(h:jP X.K H b k):(xF X.prog X.w).is s.1 k b:=#[Dr I h.1 rfl,h.2]
theorem xL{ep:Nat}{kvs:List KE}(I:Inv X pins σ H s)(e:H a=jr (.dT ep kvs))(hk:HG X.K H kvs):kvs.9<=ku/\(a==gl)=kn/\∃xs,KD kvs xs/\s.1.DictOfH (xF X.prog X.w) a xs:=by
 let#[z,y,xs,r,o,l,j,i,g,k,v]:=(show HA X.prog X.w H s.1 a (.dT ep kvs) from I.hok a _ e)
 refine#[z,y,xs,r,o,l,ep,j,i,g,k,?_,v];clear k v z e;induction r with
 |nil=>intro x h;exact nomatch h
 |@cons p q n m u t b=>intro x h;rcases QL.mp h with e|h;subst e;rw[<- u.1,<- u.2.1];exact dU I (hk p QE);exact b (λp f=>hk p (QF _ f)) x h
theorem BU{kvs:List (Key×V)}(I:Inv X pins σ H s)(e:H a=jr (.dK kvs)):kvs.9<=ku/\(a==gl)=kn/\∃vs,KV kvs vs/\s.1.DictOf (zE X.prog X.w) a vs :=
 show HA X.prog X.w H s.1 a (.dK kvs) from I.hok a _ e
end
theorem i9{X:Cx}{h:SB}{σ:St}{H:Hp}{s:ko}{a:k4}{ep:Nat}(I:Inv X h σ H s)(e:H a=jr (.dT ep [])):(a==gl)=kn/\s.1.DictOf (zE X.prog X.w) a []:=by
 let#[z,y,g,r,o,f,b,k,v,u,i]:=(show HA X.prog X.w H s.1 a (.dT ep []) from I.hok a _ e)
 cases r;have x:f=#[]:=by apply WP.mp;simpa using u
 subst x;exact#[y,o,#[],ep,b,k,v,λe x=>by simp at x,.nil,Q4]
def kD:Key->gV
 | .inl i=>.int i|.inr x=>.str x
mutual
def tD:NK->gV
 | .s x=>.str x|.t h=>.tuple (tDs h)
def tDs:List NK->List gV
 |[]=>[]|k::ks=>tD k::tDs ks
end
theorem X8{a b:Key}(e:kD a=kD b):a=b:=by
 cases a with
 |inl i=>cases b with|inl j=>injection e with e;rw[e]|inr y=>exact nomatch (show j1 i=j0 y from e)
 |inr x=>cases b with
  |inl j=>exact nomatch (show j0 x=j1 j from e)
  |inr y=>injection e with e;rw[e]
mutual
theorem EV:∀{a b:NK},tD a=tD b->a=b
 | .s x,.s y,e=>by rw[PyData.str.inj e]|.s x,.t l,e=>QB2 e|.t k,.s y,e=>QB2 e|.t k,.t l,e=>by rw[tDs_inj (PyData.tuple.inj e)]
theorem tDs_inj:∀{a b:List NK},tDs a=tDs b->a=b
 |[],[],_=>rfl|[],_::_,e=>(nomatch e)
 |_::_,[],e=>(nomatch e)
 |x::xs,y::ys,e=>by have e:tD x::tDs xs=tD y::tDs ys:=e;injection e with e1 e2;rw[EV e1,tDs_inj e2]
end
def DK(K:QC)(H:Hp)(b:Bool)(o:HO)(ks:List gV)(vs:LV):Prop:=match b with
 |true=>∃x,∃h:List KE,o=.dT x h/\ks=h.map (λp=>tD p.1)/\vs=h.map (·.2.2)/\HG K H h/\(h.map (·.1)).Nodup|false=>(∃h:List (Key×V),h≠[]/\o=.dK h/\ks=h.map (λp=>kD p.1)/\vs=h.map (·.2)/\(h.map (·.1)).Nodup)∨∃x,o=.dT x []/\ks=[]/\vs=[]
theorem DK.len{K:QC}{H:Hp}{b:Bool}{o:HO}{ks:List gV}{vs:LV}(h:DK K H b o ks vs):ks.9=vs.length:=by
 cases b with|true=>let#[y,x,_,rfl,rfl,_]:=h;simp|false=>rcases h with⟨x,_,_,rfl,rfl,_⟩| ⟨_,_,rfl,rfl⟩<;>simp
def YS(K:QC)(H:Hp)(a:k4)(y:V)(r:Option V):Prop:=match y with
 | .str z=>(∃h,H a=jr (.dK h)/\r=fM h (.inr z))∨∃x,H a=jr (.dT x [])/\r=kd|.ref b=>∃x h k,H a=jr (.dT x h)/\HG K H h/\jP K H b k/\r=fH h k|_=>False
def yo(K:QC)(H:Hp)(a:k4)(y v:V)(Q:Hp->Prop):Prop:=match y with
 | .str z=>(∃h,H a=jr (.dK h)/\h.9<ku/\Q (CA H a (.dK (fW h (.inr z) v))))∨∃u,H a=jr (.dT u [])/\Q (CA H a (.dK [(.inr z,v)]))|.ref b=>∃u h k,H a=jr (.dT u h)/\HG K H h/\jP K H b k/\h.9<ku/\∀x,Q (CA H a (.dT x (CM h k b v)))|_=>False
theorem oP{v:V}{o:Option kt}(r:rV (jr v) o):∃w,o=jr w/\aA v w:=by
 cases o with|none=>exact(show False from r).elim|some w=>exact#[w,rfl,r]
section
variable{X:Cx}
section
variable{c:SB}{s:ko}{σ:St}{H:Hp}{a:k4}{u:kt}{o:Option V}{h':xk}{pos:Pos}
theorem ue(O:X.A.units+66<hZ):Va X (λx y H Q=>∃a v,x=.ref a/\YS X.K H a y (jr v)/\Q v H):=by
 intro n Y c s σ H x y v u Q I G C h hs;let#[a,r,rfl,g,q]:=h;cases G;cases y with
 |str z =>
  rcases g with⟨W,e,l⟩| ⟨M,e,l⟩
  rotate_left
  cases l;let#[_,L,F,f,m]:=BU I e;let#[i,B,w]:=oP (v:=r) (o:=me F (.inr z)) (by rw[l];exact f.val _);exact qt (x:=i) m.typeIs QAb.lookup
   (wpAny_getItem_of (Q:=λr Z=>r=i/\EP X c σ Q r Z) (eN (k:=.inr z) C) m.mapOf B #[rfl,r,H,I.tok _,w,q]) hs
 |ref b =>
  let#[M,W,k,e,hk,N,l]:=g;cases C;let#[_,L,E,f,m]:=xL I e hk;let#[i,B,w]:=oP (v:=r) (o:=(lr E k).map (·.2)) (by rw[l];exact f.val _);let#[p,J,j]:=Option.map_eq_some_iff.mp B;refine qt (x:=i) m.typeIs QAb.lookup
   (wpAny_getItem_heap (Q:=λr Z=>r=i/\EP X c σ Q r Z) (II ()) (dU I N) m J ?_) hs
  exact#[j,r,H,I.tok _,by rw[j];exact w,q]
 |_=>exact Qf g
theorem oe(r:X.A.units+66<hZ){y:V}{Q:VK}(I:Inv X c σ H s)(f:aA y u)(g:YS X.K H a y o)(q:Q (.bl o.isSome) H) :
  k0 (k5 X.prog X.w) X.A (vu .In u (.ref a)) (EP X c σ Q) X.xe s:=by
 cases y with
 |str z =>
  rcases g with⟨i,e,l⟩| ⟨j,e,l⟩
  rotate_left
  subst l;let#[x,v]:=i9 I e;exact wpAny_in_of (eN (k:=.inr z) f) x v.mapOf #[.bl kn,H,I.tok _,rfl,q];let#[_,x,p,h,v]:=BU I e;refine wpAny_in_of (eN (k:=.inr z) f) x v.mapOf #[.bl o.isSome,H,I.tok _,?_,q];rw[<- (h.val (.inr z)).isSome_eq,<- l];rfl
 |ref b=>let#[j,i,k,e,hk,m,l]:=g;cases f;let#[_,x,n,h,v]:=xL I e hk;refine wpAny_in_heap (II ()) (dU I m) x v #[.bl o.isSome,H,I.tok _,?_,q];have q:=(h.val k).isSome_eq;rw[QAk]at q;rw[<- q,<- l];rfl|_=>exact Qf g
theorem VW(r:X.A.units+66<hZ){y:V}{Q:VK}(I:Inv X c σ H s)(f:aA y u)(g:YS X.K H a y o)(q:Q (.bl (!o.isSome)) H) :
  k0 (k5 X.prog X.w) X.A (vu .NotIn u (.ref a)) (EP X c σ Q) X.xe s:=by
 cases y with
 |str z =>
  rcases g with⟨i,e,l⟩| ⟨j,e,l⟩
  rotate_left
  subst l;let#[x,v]:=i9 I e;exact pu (eN (k:=.inr z) f) x v.mapOf #[.bl kb,H,I.tok _,rfl,q];let#[_,x,p,h,v]:=BU I e;refine pu (eN (k:=.inr z) f) x v.mapOf #[.bl (!o.isSome),H,I.tok _,?_,q];rw[<- (h.val (.inr z)).isSome_eq,<- l];rfl
 |ref b=>let#[j,i,k,e,hk,m,l]:=g;cases f;let#[_,x,n,h,v]:=xL I e hk;refine wpAny_notIn_heap (II ()) (dU I m) x v #[.bl (!o.isSome),H,I.tok _,?_,q];have q:=(h.val k).isSome_eq;rw[QAk]at q;rw[<- q,<- l];rfl|_=>exact Qf g
theorem vS{t':Nat}{ob:HO}(I:Inv X c σ H s)(h:Xo (H a))(hs:qg a s.1 h')(y:∃q,h'.get? a=jr q)(new:HA X.prog X.w (CA H a ob) h' a ob) :
  Inv X c σ (CA H a ob) { s with heap:=h',toks:=t' } :=
 I.write (x:=a) (e:=a) h (.inl rfl) (λb q hb z=>(hs.2 b hb).trans z) y new
theorem CN{t':Nat}{kvs:List KE}{xs:List (NK×k4×kt)}(I:Inv X c σ H s)(y:Xo (H a))(v:(a==gl)=kn)(z:kvs.9<=ku)(h:KD kvs xs)
  (i:h'.DictOfH (xF X.prog X.w) a xs) (hs:qg a s.1 h'):∃ep,Inv X c σ (CA H a (.dT ep kvs)) { s with heap:=h',toks:=t' }:=by
 let#[q,g,ep,x,f,e,b,_,k]:=i;exact#[ep,vS I y hs #[q,x] #[z,v,xs,h,q,g,x,f,e,b,k]]
def setD(K:QC)(o y v:V)(H:Hp)(Q:Hp->Prop):Prop:=match o with
 | .ref a=>yo K H a y v Q|_=>False
theorem xT(L:X.A.units+66<hZ):tf X (setD X.K):=by
 intro c s σ H o y v G J u Q I Z m j h;cases o with
 |ref a =>
  cases Z;cases y with
  |str z =>
   rcases h with⟨f,e,l,q⟩| ⟨W,e,q⟩
   rotate_left
   let#[g,i]:=i9 I e;refine QBo (hsz:=Qs _) (eN (k:=.inr z) m) i λh' x hs=>#[_,?_,q]
   have r:∃q,h'.get? a=jr q:=let#[q,_,_,p,_]:=x;#[q,p]
   exact vS I (by rw[e];exact True.intro) hs r #[by simp;decide,g,_,.cons #[rfl,j] .nil,x];let#[n,g,F,w,i]:=BU I e;have hl:(fW f (.inr z) v).9<=sizeLine:=by have:=vU f (.inr z) v;omega
   refine QBo (hsz:=by rw[<- w.9];exact n) (eN (k:=.inr z) m) i λh' x hs=>#[_,?_,q]
   have r:∃q,h'.get? a=jr q:=let#[q,_,_,p,_]:=x;#[q,p]
   exact vS I (by rw[e];exact True.intro) hs r #[hl,g,_,w.put _ j,x]
  |ref b =>
   let#[W,f,k,e,hk,B,l,q]:=h;cases m;let#[n,g,E,w,i]:=xL I e hk;have hl:(CM f k b v).9<=sizeLine:=by have:=xU f k b v;omega
   refine wpAny_setItem_heap (hsz:=by rw[<- qM w];exact n) (II ()) (dU I B) i λh' x hs=>?_;let#[Y,C]:=CN (t':=_) I (by rw[e];exact True.intro) g hl (w.put k b j) x hs;exact#[_,C,q Y]
  |_=>exact Qf h
 |_=>exact Qf h
theorem Ig{P:vb}{w:xb}(h:xk)(hb:gl<h.1.size):HA P w H (h.push { cls:=.type "dict",data:=.dict #[] }) h.1.size (.dT 0 []) :=
 #[Qs _,beq_eq_false_iff_ne.mpr (Q1 (Qk hb)),[],.nil,_,#[],QR _ rfl,#[rfl,rfl,rfl],rfl,rfl,Q4]
theorem Kc:PE X (.Dict [] [] pos) (λ_ H Q=>∀p,H p=kd->Q (.ref p) (CA H p (.dT 0 []))):=λc s σ H Q I h =>
 wpAny_Dict_empty #[.ref s.1.1.size,_,I.laid (a:=s.1.1.size) (o:=.dT 0 []) (t':=s.toks) (λ_ _ q=>QH _ q) (QZ _) (Ig s.1 (Inv.big I)),rfl,h _ (I.hok.fresh (QZ _))]
theorem Zc(S:X.A.units+66<hZ){k v:Expr}{l j:TE}(hk:PE X k l)(hv:PE X v j) :
  PE X (.Dict [jr k] [v] pos) (λσ H Q=>∀p,H p=kd->l σ (CA H p (.dT 0 [])) λy i=>j σ i λv h=>h p=jr (.dT 0 [])/\∃b ks,y=.ref b/\jP X.K h b ks/\∀ep,Q (.ref p) (CA h p (.dT ep [(ks,b,v)]))):=by
 intro c s σ H Q I q;have C:=I.hok.fresh (QZ s.1.1.size);have M:=I.laid (a:=s.1.1.size) (o:=.dT 0 []) (h':=s.1.push { cls:=.type "dict",data:=.dict #[] }) (t':=s.toks) (λ_ _ q=>QH _ q) (QZ _) (Ig s.1 (Inv.big I));refine wpAny_Dict_any rfl rfl (by simp) (by simp) (pairTrees_cons_walk (BB (hk c _ σ _ _ M (q _ C)) λu n #[y,i,L,Y,W]=>BB (hv c n σ i _ L W) λm P #[z,h,g,r,e,b,ks,F,G,Z]=>pairTrees_nil_walk ?_));subst F;cases Y;let#[R,E,O,x,J]:=xL g e (λp B=>nomatch B);cases x;show k0 _ _ (forIn [(kx b,m)] PUnit.unit _) _ _ _;rw[QAF];refine QA (QA (wpAny_dictSet_heap (hsz:=Qs _) (show X.A.units+8<hZ by omega) (dU g G) J λh' f hs=>QK ?_));show k0 _ _ (forIn ([]:List (kt×kt)) _ _) _ _ _;rw[QBg];let#[w,N]:=CN (t':=_) (kvs:=[(ks,b,z)]) g (by rw[e];exact True.intro) E (by simp;decide) (.cons #[rfl,rfl,r] .nil) f hs;exact QK #[.ref _,_,N,rfl,Z w]
end
end
mutual
inductive Rep(K:QC)(H:Hp):V->gV->Prop where
 |non:Rep K H .non .none
 |bl (b:Bool):Rep K H (.bl b) (.bool b)
 |int (i:Int):Rep K H (.int i) (.int i)
 |str (x:Str):Rep K H (.str x) (.str x)
 |lst {a:k4}{xs:LV}{ds:List gV}:aC K H a xs->Reps K H xs ds->Rep K H (.ref a) (.list ds)
 |tup {a:k4}{xs:LV}{ds:List gV}:yD K H a xs->Reps K H xs ds->Rep K H (.ref a) (.tuple ds)
 |dct {b:Bool}{a:k4}{o:HO}{ks:List gV}{xs:LV}{ds:List gV}:H a=jr o->DK K H b o ks xs->Reps K H xs ds->Rep K H (.ref a) (.dict (ks.zip ds))
inductive Reps(K:QC)(H:Hp):LV->List gV->Prop where
 |nil:Reps K H [] []
 |cons {x:V}{d:gV}{xs:LV}{ds:List gV}:Rep K H x d->Reps K H xs ds->Reps K H (x::xs) (d::ds)
end
section
variable{K:QC}{H:Hp}{R:LV->List gV->Prop}{xs:LV}{ds:List gV}
theorem Rep.both{P:V->gV->Prop}(z:P .non .none)(v:∀b,P (.bl b) (.bool b))(int:∀i,P (.int i) (.int i))(str:∀x,P (.str x) (.str x))
    (lst:∀{a:k4}{xs:LV}{ds:List gV},aC K H a xs->Reps K H xs ds->R xs ds->P (.ref a) (.list ds))
    (tup:∀{a:k4}{xs:LV}{ds:List gV},yD K H a xs->Reps K H xs ds->R xs ds->P (.ref a) (.tuple ds))
    (dct:∀{b:Bool}{a:k4}{o:HO}{ks:List gV}{xs:LV}{ds:List gV},H a=jr o->DK K H b o ks xs->Reps K H xs ds->R xs ds->P (.ref a) (.dict (ks.zip ds)))
    (u:R [] []) (y:∀{x:V}{d:gV}{xs:LV}{ds:List gV},Rep K H x d->Reps K H xs ds->P x d->R xs ds->R (x::xs) (d::ds)) :
    (∀{x:V}{d:gV},Rep K H x d->P x d)/\∀{xs:LV}{ds:List gV},Reps K H xs ds->R xs ds :=
  #[λh=>Rep.rec (motive_1:=λx d _=>P x d) (motive_2:=λx d _=>R x d) z v int str @lst @tup @dct u @y h,
   λh=>Reps.rec (motive_1:=λx d _=>P x d) (motive_2:=λx d _=>R x d) z v int str @lst @tup @dct u @y h]
theorem Reps.ind(z:R [] [])(y:∀{x:V}{d:gV}{xs:LV}{ds:List gV},Rep K H x d->R xs ds->R (x::xs) (d::ds))(h:Reps K H xs ds):R xs ds :=
 (Rep.both (P:=λ_ _=>True) trivial (λ_=>trivial) (λ_=>trivial) (λ_=>trivial) (λ_ _ _=>trivial) (λ_ _ _=>trivial) (λ_ _ _ _=>trivial) z λh _ _ r=>y h r).2 h
theorem Reps.length(h:Reps K H xs ds):xs.9=ds.length:=Reps.ind (R:=λxs ds=>xs.9=ds.9) rfl (λ_ e=>QP Nat.succ e) h
end
section
variable{X:Cx}{y:SB}{σ:St}{H:Hp}{s:ko}
mutual
theorem UT{h:xk}:∀{k:NK}{u:kt},C4 h k u->∃z,Reads h u (tD k) z
 | .s x,u,#[t,e]=>by subst e;exact#[_,.str x t]|.t ks,u,#[a,its,e,#[o,e1,c,n,d],q]=>by subst e;let#[z,v]:=nks_reads q;exact#[_,.tuple e1 c d v]
theorem nks_reads{h:xk}:∀{ks:List NK}{us:LW},NKvs h ks us->∃x,li h us (tDs ks) x
 |[],us,e=>by cases(show us=[] from e);exact#[_,.nil]|k::ks,us,#[v,r,e,p,q]=>by subst e;let#[x,u]:=UT p;let#[bs,z]:=nks_reads q;exact#[_,.cons u z]
end
section
variable{kvs:List (Key×V)}{xs:List (NK×k4×kt)}{vs:List (Key×kt)}
theorem c6(I:Inv X pins σ H s){kvs:List KE}(r:KD kvs xs)(hk:HG X.K H kvs):∃z,li s.1 (xs.map λx=>.ref x.2.1) (kvs.map λp=>tD p.1) z:=by
 induction r with|nil=>exact#[_,.nil]|@cons p x _ _ h t u=>let#[z,q]:=u λp v=>hk p (QF _ v);let#[bs,y]:=UT (dU I (hk p QE)).1;rw[h.2.1]at y;exact#[_,.cons y q]
theorem lT{P:vb}{w:xb}{es:List lb}(hk:KV kvs vs)(u:Pairs (zE P w) es vs):(∃v,li s.1 (es.map (·.key)) (kvs.map λp=>kD p.1) v)/\es.map (·.val)=vs.map (·.2):=by
 unfold KV at hk;induction hk generalizing es with
 |nil=>cases u;exact#[#[_,.nil],rfl]|cons h t e =>
  cases u with
  |cons a b c =>
   let#[#[v,q],k]:=e c;refine#[?_,by rw[QT,QT,k,b]];rw[QT,QT];rw[<- h.1]at a;rcases IA a with⟨i,t,z,y⟩| ⟨x,t,z,y⟩
   rw[z,y];exact#[_,.cons (.int i t) q];rw[z,y];exact#[_,.cons (.str x t) q]
theorem Jb{kvs:List KE}(r:KD kvs xs):nA (kvs.map (·.2.2)) (xs.map (·.2.2)):=by
 induction r with|nil=>exact .nil|cons h _ x=>exact .cons h.2.2 x
theorem gb(r:KV kvs vs):nA (kvs.map (·.2)) (vs.map (·.2)):=by
 induction r with|nil=>exact .nil|cons h _ x=>exact .cons h.2 x
theorem R3(I:Inv X pins σ H s){b:Bool}{a:k4}{o:HO}{ks:List gV}{xs:LV}(h:H a=jr o)(q:DK X.K H b o ks xs):∃ob es ep us,s.1.get? a=jr ob/\ob.cls=.type "dict"/\ob.dict=kd/\ob.data=.dict es ep/\(a==gl)=kn /\
  (∃j,li s.1 (es.toList.map (·.key)) ks j)/\nA xs us/\es.toList.map (·.val)=us:=by
 cases b with
 |true=>let#[e,kvs,rfl,rfl,rfl,hk,_]:=q;let#[_,v,f,x,ob,es,ep,k,y,w,u,_]:=xL I h hk;refine#[ob,es,ep,_,k,y.1,y.2.1,w,v,?_,Jb x,?_];rw[u,Qc];exact c6 I x hk;rw[u,Qc];rfl|false =>
  rcases q with⟨kvs,_,rfl,rfl,rfl,_⟩| ⟨e,rfl,rfl,rfl⟩
  rotate_left
  let#[_,v,f,x,ob,es,ep,k,y,w,u,_]:=xL I h λ_ z=>nomatch z;cases x;exact#[ob,es,ep,[],k,y.1,y.2.1,w,v,#[_,by rw[u];exact .nil],.nil,by rw[u];rfl];let#[_,v,vs,x,ob,es,ep,k,y,w,_,u,_]:=BU I h;let#[i,g]:=lT (s:=s) x u;exact#[ob,es,ep,_,k,y.1,y.2.1,w,v,i,gb x,g]
theorem Rep.reads2(I:Inv X pins σ H s):(∀{x:V}{d:gV},Rep X.K H x d->∀u,aA x u->∃y,Reads s.1 u d y)/\∀{xs:LV}{ds:List gV},Reps X.K H xs ds->∀us,nA xs us->∃y,li s.1 us ds y:=by
 refine Rep.both (P:=λx d=>∀u,aA x u->∃y,Reads s.1 u d y) (R:=λxs ds=>∀us,nA xs us->∃y,li s.1 us ds y) (λu r=>?_) (λb u r=>?_) (λi u r=>?_) (λx u r=>?_) (λh q v u r=>?_) (λh q v u r=>?_) (λ{b a o w xs ds} h q r v u l=>?_) (λus r=>?_) λ_ _ p m us r=>?_;cases r;exact#[_,.none];cases r;exact#[_,.bool b];let#[t,rfl]:=r;exact#[_,.int i t];let#[t,rfl]:=r;exact#[_,.str x t];cases r;let#[g,k,#[o,n,e,c,_,d],_]:=I.list h;let#[y,z]:=v _ k;exact#[_,.list e c d (by simpa using z)];cases r;let#[g,k,#[o,e,c,n,d],_]:=I.tuple h;let#[y,z]:=v _ k;exact#[_,.tuple e c d (by simpa using z)];cases l;let#[ob,L,M,us,C,B,J,A,G,#[y,W],Z,Y]:=R3 I h q;let#[bs,f]:=v _ Z;have hl:w.9=ds.length:=by rw[q.len,Reps.length r]
 have F:(w.zip ds).map (λx=>x.1)=w:=W7 (wq hl);have E:(w.zip ds).map (λx=>x.2)=ds:=WQ (wq hl.symm);exact#[_,.dict C B A (by rw[F];exact W) (by rw[E,Y];exact f)];cases r;exact#[_,.nil];cases r with|cons r j=>let#[y,z]:=p _ r;let#[bs,f]:=m _ j;exact#[_,.cons z f]
theorem Rep.reads(I:Inv X pins σ H s){x:V}{d:gV}{u:kt}(h:Rep X.K H x d)(r:aA x u):∃y,Reads s.1 u d y:=(Rep.reads2 I).1 h u r
def AE(d:gV):Prop:=d.canLay0=kb/\d.depth<=64
noncomputable def rEq(K:QC)(neg:Bool):R2:=λx y H Q=>match x,y with
 | .int i,.int j=>Q (.bl (if neg then !decide (i=j) else decide (i=j))) H|.str a,.str b=>Q (.bl (if neg then !decide (a=b) else decide (a=b))) H|.bl a,.bl b=>Q (.bl (if neg then !decide (a=b) else decide (a=b))) H|x,y=>∃z h,Rep K H x z/\Rep K H y h/\AE z/\AE h/\Q (.bl (if neg then !PyData.eqv z h else Qp z h)) H
theorem op_eq(C:X.A.units+64<hZ):EE X (vu .Eq) (rEq X.K kn):=by
 intro z s g H x y v u Q I o n h;have k:(∃f e,Rep X.K H x f/\Rep X.K H y e/\AE f/\AE e/\Q (.bl (if kn=kb then !PyData.eqv f e else Qp f e)) H)->k0 (k5 X.prog X.w) X.A (vu .Eq v u) (EP X z g Q) X.xe s:=by rintro⟨f,e,m,l,⟨Z,B⟩,⟨Y,W⟩,q⟩;let#[E,r]:=m.reads I o;let#[bs,p]:=l.reads I n;exact SeqAt.compareEq_reads r p Z Y () #[.bl _,H,I,rfl,q]
 have sc:Rb x y=kb->Q (.bl (decide (x=y))) H->k0 (k5 X.prog X.w) X.A (vu .Eq v u) (EP X z g Q) X.xe s:=λm l=>_root_.L2.op_eq z s g H x y v u Q I o n #[m,l];cases x with
 |int i =>
  cases y with|int j=>exact sc rfl (by simpa[rEq]using h)|_=>exact k h
 |str a =>
  cases y with|str b=>exact sc rfl (by simpa[rEq]using h)|_=>exact k h
 |bl a =>
  cases y with|bl b=>exact sc rfl (by simpa[rEq]using h)|_=>exact k h
 |_=>exact k h
theorem op_ne(C:X.A.units+64<hZ):EE X (vu .NotEq) (rEq X.K kb):=by
 intro z s g H x y v u Q I o n h;have k:(∃f e,Rep X.K H x f/\Rep X.K H y e/\AE f/\AE e/\Q (.bl (if kb=kb then !PyData.eqv f e else Qp f e)) H)->k0 (k5 X.prog X.w) X.A (vu .NotEq v u) (EP X z g Q) X.xe s:=by rintro⟨f,e,m,l,⟨Z,B⟩,⟨Y,W⟩,q⟩;let#[E,r]:=m.reads I o;let#[bs,p]:=l.reads I n;exact SeqAt.compareNe_reads r p Z Y () #[.bl _,H,I,rfl,q]
 have sc:Rb x y=kb->Q (.bl (!decide (x=y))) H->k0 (k5 X.prog X.w) X.A (vu .NotEq v u) (EP X z g Q) X.xe s:=λm l=>_root_.L2.op_ne z s g H x y v u Q I o n #[m,l];cases x with
 |int i =>
  cases y with|int j=>exact sc rfl (by simpa[rEq]using h)|_=>exact k h
 |str a =>
  cases y with|str b=>exact sc rfl (by simpa[rEq]using h)|_=>exact k h
 |bl a =>
  cases y with|bl b=>exact sc rfl (by simpa[rEq]using h)|_=>exact k h
 |_=>exact k h
noncomputable def B0(f:Int->Int->Bool):R2:=λx y H Q=>match x,y with
 | .int i,.int j=>Q (.bl (f i j)) H|_,_=>False
theorem jR{w:bb}{f:Int->Int->Bool}(h0:EE X (vu w) (Eb λi j=>.bl (f i j))):EE X (vu w) (B0 f):=by
 intro z s k H x y v u Q I b a h;cases x with
 |int i =>
  cases y with|int j=>exact h0 z s k H _ _ v u Q I b a #[i,j,rfl,rfl,h]|_=>exact Qf h
 |_=>exact Qf h
noncomputable def inStr(b a:Str):Bool:=match a.cps.toList with
 |[c]=>decide (c∈b.cps.toList)|_=>!(qE b a 0 b.9 1).isEmpty
theorem tU(b a:Str):inStr b a=!(qE b a 0 b.9 1).isEmpty:=by
 unfold inStr;split;rename_i c e;have x:a=#[(qG [c])]:=by
  let#[h]:=a;have:h=(qG [c]):=by apply WP.mp;simpa using e
  rw[this]
 rw[x];exact(StrLaws.found_one b c).symm;rfl
def oT(K:QC)(neg:Bool):R2:=λx y H Q=>match y with
 | .str b=>match x with
  | .str a=>Q (.bl (if neg then !inStr b a else inStr b a)) H|_=>False
 | .ref p=>iw K neg x (.ref p) H Q∨(∃d h,Rep K H x d/\(Rep K H (.ref p) (.list h)∨Rep K H (.ref p) (.tuple h))/\AE d/\AE (.list h)/\Q (.bl (if neg then !(h.any λy=>Qp y d) else h.any λy=>Qp y d)) H)∨(∃o,YS K H p x o/\Q (.bl (if neg then !o.isSome else o.isSome)) H)|_=>False
theorem eP{ds:List gV}(h:AE (.list ds)):q0 ds=kb/\wk ds<=63:=by let#[x,y]:=h;simp only[QAc]at x;simp only[QBL]at y;exact#[x,()]
theorem Kq(Y:X.A.units+66<hZ):EE X (vu .In) (oT X.K kn):=by
 intro z s i H x y v u Q I e w h;cases y with
 |str b =>
  cases x with|str a=>refine R0 z s i H _ _ v u Q I e w #[a,b,rfl,rfl,?_];rw[<- tU];simpa[oT]using h|_=>exact Qf h
 |ref p =>
  rcases h with h|⟨d,Z,r,k,l,n,q⟩| ⟨o,g,q⟩
  rotate_left 2
  cases w;exact oe Y I e g q;exact T0 z s i H _ _ v u Q I e w h;let#[B,j]:=r.reads I e;let#[m,W]:=eP n;rcases k with k|k;let#[bs,f]:=k.reads I w;exact SeqAt.in_list_reads f j m l.1 () #[.bl _,H,I,rfl,q];let#[bs,f]:=k.reads I w;exact SeqAt.in_tuple_reads f j m l.1 () #[.bl _,H,I,rfl,q]
 |_=>exact Qf h
theorem A6(Y:X.A.units+66<hZ):EE X (vu .NotIn) (oT X.K kb):=by
 intro z s i H x y v u Q I e w h;cases y with
 |str b =>
  cases x with|str a=>refine yR z s i H _ _ v u Q I e w #[a,b,rfl,rfl,?_];rw[<- tU];simpa[oT]using h|_=>exact Qf h
 |ref p =>
  rcases h with h|⟨d,Z,r,k,l,n,q⟩| ⟨o,g,q⟩
  rotate_left 2
  cases w;exact VW Y I e g q;exact zR z s i H _ _ v u Q I e w h;let#[B,j]:=r.reads I e;let#[m,W]:=eP n;rcases k with k|k;let#[bs,f]:=k.reads I w;exact SeqAt.notIn_list_reads f j m l.1 () #[.bl _,H,I,rfl,q];let#[bs,f]:=k.reads I w;exact SeqAt.notIn_tuple_reads f j m l.1 () #[.bl _,H,I,rfl,q]
 |_=>exact Qf h
end
end
section
variable{X:Cx}
theorem xV:∀{bs:List Bool}{us:LW},nA (bs.map V.bl) us->∀(i:Nat) (v:kt),us[i]?=jr v->∃b,bs[i]?=jr b/\v=Value.bool b
 |[],_,.nil,i,v,h=>by simp at h|b::bs,_,.cons r t,0,v,h=>by simp at h;subst h;exact#[b,by simp,r]|b::bs,_,.cons r t,i+1,v,h=>by let#[c,y,x]:=xV (bs:=bs) t i v (by simpa using h);exact#[c,by simpa using y,x]
theorem U0(bs:List Bool):(Qm bs.9).any (λi=>bs.getD i kn)=bs.any id:=by
 rw[Q8,w4,w4];constructor;rintro⟨i,x,e⟩;have h:i<bs.length:=by simpa using x
 exact#[bs[i],WR h,by simpa[QCw,h]using e];rintro⟨b,hb,e⟩;let#[i,x,y]:=List.getElem_of_mem hb;exact#[i,by simpa using x,by simp[QCw,x,y];simpa using e]
def gq(K:QC):LV->Hp->VK->Prop:=λh H Q=>match h with
 |[.ref a]=>∃bs:List Bool,aC K H a (bs.map V.bl)/\Q (.bl (bs.any id)) H|_=>False
theorem C9(l:X.calm=kb):IC X (.builtin "any") (gq X.K):=by
 intro k s Z H f W Q I r h
 match f,h with
 |[.ref a],#[bs,hq,q] =>
  let#[u,rfl,j]:=GK r;cases j;let#[x,w,p,C]:=I.list hq;have hl:=w.9;rw[QD]at hl;refine call_any_walk (QAl p.isList ?_);have y:a<s.1.1.size:=by let#[o,n,e,_]:=p;exact QV e
  refine#[s.1.1.size,_,_,_,_,_,λi=>bs.getD i kn,rfl,Walks.list (A:=X.A.in1) (I.ok.hd l) s.1.1.size a (Qk y) x.toArray,#[#[_,QR _ rfl,rfl,rfl],?_],?_,?_];let#[o,n,e,c,d,sq]:=p;exact#[o,QH _ e,c,n,sq];intro i v B F G m z;let#[b,hb,rfl]:=xV w i v (by simpa using m);refine wc ?_;have:bs.getD i kn=b:=by simp[QCw,hb]
  rw[<- this];exact z;intro E g hk;have Y:(Qm x.toArray.size).any (λi=>bs.getD i kn)=bs.any id:=by rw[QO,<- hl,U0]
  rw[Y];exact#[.bl _,H,I.kept (t':=g) (λb o e=>hk b o (by simp;exact Qk (QV e)) (QH _ e)),rfl,q]
def bq(K:QC):LV->Hp->VK->Prop:=λx H Q=>(∃z,x=[.str z]/\z.9<=ku/\Q (.int z.9) H)∨∃a h,x=[.ref a]/\(aC K H a h∨yD K H a h)/\Q (.int h.9) H
theorem U9:IC X (.builtin "len") (bq X.K):=λx s y H z u Q I r h=>h.elim (mS x s y H z u Q I r) (rJ x s y H z u Q I r)
noncomputable def cV:V->Option kt
 | .ty n=>jr (.type n)|.ref C=>jr (.ref C)|_=>kd
def tz(K:QC)(H:Hp)(x:V)(t:kt):Prop:=(∃a h,x=.ref a/\aC K H a h/\t=.type "list")∨∃a h,x=.ref a/\yD K H a h/\t=.type "tuple"
def Bj(K:QC):LV->Hp->VK->Prop:=λy H Q=>match y with
 |[x,c]=>∃t h b,(TyOf K H x t∨tz K H x t)/\cV c=jr h/\QBf K t h=jr b/\Q (.bl b) H|_=>False
theorem B9:IC X (.builtin "isinstance") (Bj X.K):=by
 intro m s Y H w Z Q I r h
 match w,h with
 |[x,c],#[t,cv,b,ty,hc,hk,q] =>
  let#[u,k,rfl,f,v]:=c5 r;have e:k=cv:=by
   cases c with|ty n=>have l:k=Value.type n:=v;have j:jr (Value.type n)=jr cv:=hc;rw[l];exact Ql j|ref C=>have l:k=kx C:=v;have j:jr (kx C)=jr cv:=hc;rw[l];exact Ql j|_=>cases hc
  subst e;rcases ty with ty|⟨a,w,rfl,i,rfl⟩| ⟨a,w,rfl,i,rfl⟩
  exact v3 I f ty hk λy=>#[.bl b,H,I.tok y,rfl,q]
  cases f;let#[g,p,#[o,n,e,c,_,d],_]:=I.list i;exact qN QAj I.kIn #[o,e,c] hk (λz=>nomatch z) λy=>#[.bl b,H,I.tok y,rfl,q]
  cases f;let#[g,p,#[o,e,c,n,d],_]:=I.tuple i;exact qN QB0 I.kIn #[o,e,c] hk (λz=>nomatch z) λy=>#[.bl b,H,I.tok y,rfl,q]
def aw(K:QC):V->Option Int->Option Int->Hp->VK->Prop:=λx h y H Q=>match x with
 | .str z=>z.9<=ku/\Q (.str (WB z h y)) H|.ref a=>kq K (.ref a) h y H Q∨yq K (.ref a) h y H Q|_=>False
theorem rj:Fh X (aw X.K):=by
 intro y s m H x v C B Y W b Q I p hs r e h;cases x with
 |str z =>
  let#[t,rfl]:=p;let#[G,q]:=h;refine#["str",_,F.slot_str_getitem.lookup,QCu _ _ _,?_];have fin:∀l u:Option (Int×Tok),l.map (·.1)=Y->u.map (·.1)=W->s.1.IsSlice b l u kd->k0 (k5 X.prog X.w) X.A (nP (.str z t) (.ref b)) (EP X y m Q) X.xe s:=λl u L J Z=>by refine wpAny_getItem_str_slice Z rfl ?_;subst L J;exact post_val_or_str #[QS (Txt.slice_le z _ _) G,λM k=>#[.str (WB z _ _),H,I.tok k,#[_,rfl],q]]
  let#[o,f,hc,g]:=hs;cases r with
  |none =>
   cases e with|none=>exact fin kd kd rfl rfl #[o,f,hc,g]|int j n=>exact fin kd (jr (j,n)) rfl rfl #[o,f,hc,g]
  |int i E =>
   cases e with|none=>exact fin (jr (i,E)) kd rfl rfl #[o,f,hc,g]|int j n=>exact fin (jr (i,E)) (jr (j,n)) rfl rfl #[o,f,hc,g]
 |ref a=>rcases h with h|h;exact Nb y s m H _ v C B Y W b Q I p hs r e h;exact pj y s m H _ v C B Y W b Q I p hs r e h
 |_=>exact Qf h
end
section
variable{h h':xk}{j:k4}{z:Src}{k:Nat}{xs:Array kt}
inductive Src where
 |l (a:k4)|t (a:k4)
def Src.adr:Src->k4
 | .l a=>a|.t a=>a
def cE(h:xk)(j:k4):Src->Nat->Prop
 | .l a,k=>h.IsListIter j a k|.t a,k=>h.IsTupleIter j a k
def MB(h:xk):Src->Array kt->Prop
 | .l a,xs=>h.IsList a xs|.t a,xs=>h.IsTuple a xs
theorem cE.keep(x:cE h j z k)(e:∀o,h.get? j=jr o->h'.get? j=jr o):cE h' j z k:=by
 cases z with|l a=>let#[o,u,y]:=x;exact#[o,e o u,y]|t a=>let#[o,u,y]:=x;exact#[o,e o u,y]
theorem cE.obj(x:cE h j z k):∃o,h.get? j=jr o/\∀v,o.data≠.cell v:=by
 cases z with|l a=>let#[o,u,w,y]:=x;exact#[o,u,λv q=>by rw[y]at q;cases q]|t a=>let#[o,u,w,y]:=x;exact#[o,u,λv q=>by rw[y]at q;cases q]
theorem MB.ext{b:k4}(x:MB h z xs)(e:QAH b h h')(n:z.adr≠b):MB h' z xs:=by
 cases z with|l a=>exact QCi.extBut x e n|t a=>exact Heap.IsTuple.extBut x e n
theorem MB.lt(x:MB h z xs):z.adr<h.1.size:=by
 cases z with|l a=>let#[o,y,_]:=x;exact QV y|t a=>let#[o,y,_]:=x;exact QV y
theorem cE.lt(x:cE h j z k):j<h.1.size:=by let#[o,y,_]:=x.obj;exact QV y
end
section
variable{prog:vb}{w:xb}{A:zq}{E:fC}{s:ko}
section
variable{j t:k4}{k:Nat}{xs:Array kt}{x:kt}{Q:fC}{z:Src}
theorem Yl(p:s.1.IsTupleIter j t k)(pt:s.1.IsTuple t xs)(a:xs[k]?=jr x)
  (q:∀h',h'.IsTupleIter j t (k+1)->qg j s.1 h'->Q x { s with heap:=h' }):k0 (k5 prog w) A (qd (.ref j)) Q E s:=by
 let#[ob,y,b,h]:=id p;let#[e,v,_,f,u]:=pt;unfold qd;refine QA (qV (name:=QY "__next__") p.typeIs qm (qO qm p.typeIs WZ ?_ (WV _)));show k0 _ _ (u3 (.ref j) 0 >>= _) _ _ _;refine QA (wY y h (x:=.ref t) rfl ?_);show k0 _ _ (if(kx t==j2)=kb then _ else _) _ _ _;rw[ot (show ¬ (kx t==j2)=kb from QG)];show k0 _ _ (u3 (.ref j) 1 >>= _) _ _ _;refine QA (wY y h (x:=.int k 0) rfl ?_);show k0 _ _ (seqItems? (.ref t) >>= _) _ _ _;refine QA (QAZ v u ?_);simp only[qX,a];refine QA (QAd y h (by simp) (QK #[x,rfl,QK (q _ ?_ (Q9 ..))]));refine#[_,wU _ y (QBM (Wa h _)),(QCH ..).trans b,?_];rw[Wa h];simp[fv]
theorem ZW(u:A.handled=kd)(p:s.1.IsTupleIter j t k)(pt:s.1.IsTuple t xs)(f:xs[k]?=kd)
  (q:∀h' e,QAH j s.1 h'->(∃o,h'.get? e=jr o/\o.cls=.type "StopIteration")->E (.ref e) { s with heap:=h' }):k0 (k5 prog w) A (qd (.ref j)) Q E s:=by
 let#[ob,y,l,h]:=id p;let#[g,b,_,i,v]:=pt;unfold qd;refine QA (qV (name:=QY "__next__") p.typeIs qm (qO qm p.typeIs WZ ?_ (WV _)));show k0 _ _ (u3 (.ref j) 0 >>= _) _ _ _;refine QA (wY y h (x:=.ref t) rfl ?_);show k0 _ _ (if(kx t==j2)=kb then _ else _) _ _ _;rw[ot (show ¬ (kx t==j2)=kb from QG)];show k0 _ _ (u3 (.ref j) 1 >>= _) _ _ _;refine QA (wY y h (x:=.int k 0) rfl ?_);show k0 _ _ (seqItems? (.ref t) >>= _) _ _ _;refine QA (QAZ b v ?_);simp only[qX,f];refine QA (QBU (QA (QAd y h (by simp) ?_)));refine QA (m:=p0 (.type "StopIteration") []) ?_;simp only[p0,p5];refine QA (Q3 ?made (by size_fits));refine QA (m:=fb _ _) (QCj (a:=j2) (by first|rfl | (rw[fb];rfl)) ?arg);refine Q3 ?made2 (by size_fits);simp only[Ar];refine QA (QB3 ?_);first|rw[show A.in1.handled=kd from u]|rw[u]
 refine QA (QK (QCk (q _ _ (((Q9 ..).extBut.push _).push _) #[_,QR _ rfl,rfl])))
theorem Ud(p:cE s.1 j z k)(pt:MB s.1 z xs)(h:xs[k]?=jr x)
  (q:∀h',cE h' j z (k+1)->qg j s.1 h'->Q x { s with heap:=h' }):k0 (k5 prog w) A (qd (.ref j)) Q E s:=by
 cases z with|l a=>exact wpAny_nextOf_list_item p pt h q|t a=>exact Yl p pt h q
theorem X7(y:A.handled=kd)(p:cE s.1 j z k)(pt:MB s.1 z xs)(h:xs[k]?=kd)
  (q:∀h' e,QAH j s.1 h'->(∃o,h'.get? e=jr o/\o.cls=.type "StopIteration")->E (.ref e) { s with heap:=h' }):k0 (k5 prog w) A (qd (.ref j)) Q E s:=by
 cases z with|l a=>exact wpAny_nextOf_list_end y p pt h q|t a=>exact ZW y p pt h q
noncomputable def Src.it:Src->Obj
 | .l a=>{ cls:=.type "list_iterator",data:=.fields (qG [.ref a,.int 0 0]) }|.t a=>{ cls:=.type "tuple_iterator",data:=.fields (qG [.ref a,.int 0 0]) }
theorem yT(pt:MB s.1 z xs)(q:Q (.ref s.1.1.size) { s with heap:=s.1.push z.it }):k0 (k5 prog w) A (mA (.ref z.adr)) Q E s:=by
 cases z with|l a=>exact QAl pt q|t a=>exact QB4 pt q
theorem Db(h:xk)(z:Src):cE (h.push z.it) h.1.size z 0:=by
 cases z with|l a=>exact#[_,QR _ rfl,rfl,rfl]|t a=>exact#[_,QR _ rfl,rfl,rfl]
end
end
section
variable{prog:vb}{w:xb}{A:zq}{E:fC}{s:ko}
theorem Yj{h h':xk}{b:k4}{z:Src}{xs:Array kt}(x:MB h z xs)(e:qg b h h')(n:z.adr≠b):MB h' z xs:=x.ext e.extBut n
end
section
variable{X:Cx}{w:SB}{σ:St}{H:Hp}{s:ko}{h':xk}
theorem _root_.L2.Inv.turnedL{t':Nat}{ch:List k4}(I:Inv X w σ H s)(k:∀b o,b∉ch->s.1.get? b=jr o->h'.get? b=jr o)(f:∀b∈ch,FJ X w H b):Inv X w σ H { s with heap:=h',toks:=t' }:=by
 have h:∀b u,H b=jr u->b∉ch:=λb u e z=>by rw[(f b z).1]at e;cases e
 have y:X.env.locals∉ch:=λz=>(f _ z).2.1 rfl;refine I.step (g':=s.gens) (d':=s.drawn) (ch:=ch) (λb hb=>?_) (λb o _ _ hc e _=>k b o hc e) (λb o _ _ hc e _=>#[o.slots,k b o hc e]) (λ_ _ _ _ n=>n)
  (λb o hc e=>#[o,k b o hc e]) (λ_ _ e=>e) (λ_ _ _ e=>e) (λ_ _ e=>e) (λm hm=>?_) (λb u e=>?_) I.bare
 let#[_,j,_,i,g,a]:=f b hb;exact#[i,j,g,a];let#[o,l,p,x,r]:=hm;exact#[o,l,p,k _ o y x,r];refine(I.hok b u e).stay (λc v hc q=>k c v ?_ q) (λ_ q=>q) λ_ _ q=>q;rcases hc with z|z;rw[z];exact h b u e;exact h c _ z
def B4(K:QC)(H:Hp):Src->LV->Prop
 | .l a,xs=>aC K H a xs|.t a,xs=>yD K H a xs
theorem _root_.L2.Inv.src(I:Inv X w σ H s){z:Src}{xs:LV}(h:B4 X.K H z xs):∃its:LW,nA xs its/\MB s.1 z its.toArray/\xs.9<=sizeLine:=by
 cases z with|l a=>let#[its,x,p,y]:=I.list h;exact#[its,x,p.isList,y]|t a=>let#[its,x,p,y]:=I.tuple h;exact#[its,x,p,y]
theorem _root_.L2.Inv.src_inj(I:Inv X w σ H s){z:Src}{xs x:LV}(h:B4 X.K H z xs)(h':B4 X.K H z x):xs=x:=by
 cases z with|l a=>exact I.list_inj h h'|t a=>exact I.tuple_inj h h'
theorem _root_.L2.Inv.pair{p:k4}{a b:kt}{x y:V}{t':Nat}(I:Inv X w σ H s)(k:∀b u,s.1.get? b=jr u->h'.get? b=jr u)(v:s.1.1.size<=p)(e:h'.get? p=jr { cls:=.type "tuple",data:=.seq (qG [a,b]) })(z:aA x a)(h:aA y b) :
  Inv X w σ (CA H p (.tup [x,y])) { s with heap:=h',toks:=t' } :=
 I.laid k v #[by rw[qC];show 2<=_;decide,[a,b],.cons z (.cons h .nil),_,e,rfl,_,rfl]
end
section
variable{prog:vb}{w:xb}{A:zq}{E:fC}{s:ko}
section
variable{it d:k4}{z:Obj}{es:Array lb}{i ep:Nat}{c u:kt}{Q:Option kt->ko->Prop}
theorem eD:QAC "dict_itemiterator"=true:=by decide +kernel
theorem IJ(l:List String)(h:(l.contains "dict_itemiterator" || l.contains "object")=kn):(l.any λt=>[Value.type "dict_itemiterator",Value.type "object"].contains (.type t))=false:=by
 rw[QCC];intro t x;rw[Bool.or_eq_false_iff]at h;have v:t≠"dict_itemiterator":=λe=>by subst e;rw[Qo.mpr x]at h;cases h.1
 have y:t≠"object":=λe=>by subst e;rw[Qo.mpr x]at h;cases h.2
 simp[v,y]
theorem V7{e:lb}
  (m:lp s.1 it d i es.size ep c u) (X:s.1.get? d=jr z) (B:z.data=.dict es ep) (I:es[i]?=jr e)
  (q:∀h',rn h' it d (i+1) es.size ep e.key e.val s.1.1.size->h'.get? s.1.1.size=jr { cls:=.type "tuple",data:=.seq (qG [e.key,e.val]) } ->
   h'.1.size=s.1.1.size+1->(∀b o,b≠it->s.1.get? b=jr o->h'.get? b=jr o)->Q (jr (.ref s.1.1.size)) { s with heap:=h' }) :
  k0 (k5 prog w) A (P0 (.ref it)) Q E s:=by
 have F:s.TypeIs (.ref it) "dict_itemiterator":=#[_,m,rfl]
 show k0 _ _ (bind _ _) _ _ _;refine QA (QAD (qV F qf (qO qf F Wu ?_ (Wn _))));show k0 _ _ (bind _ _) _ _ _;refine QA (QK (QA (QA (QA (wC F (QK (QA (QAe m rfl ?_))))))));rw[eD];show k0 _ _ (if(kx d==j2)=kb then _ else _) _ _ _;rw[ot (show ¬ (kx d==j2)=kb from QG)];show k0 _ _ (wZ (.ref d) >>= _) _ _ _;refine QA (QK (QA (wM X B ?_)));rw[ot (show ¬ (((es.size:Nat):Int) != ((es.size:Nat):Int))=kb by simp)];refine QA (QK (QA (WC X B ?_)));rw[ot (show ¬ (((ep:Nat):Int) != ((ep:Nat):Int))=kb by simp)];refine QK ?_;have h0:(if((i:Nat):Int)<0 then kd else es[((i:Nat):Int).toNat]?)=jr e:=by rw[ot (),qX];exact I
 simp only[h0];refine QA ?_;show k0 _ _ (Er (.ref it) >>= _) _ _ _;refine QA (wC F (QK (QA (Wl F ?_))));rw[eD,oa rfl];rw[show(List.any _ λt=>[Value.type "dict_itemiterator",Value.type "object"].contains (.type t))=kn from IJ _ (by decide +kernel),ot QG];refine QA (wV m (by simp) λa h r=>?_);have h:lp a it d (i+1) es.size ep c u:=h;refine QA (qk ?_);have C:({ s with heap:=a }:ko).TypeIs (.ref it) "dict_itemiterator":=#[_,h,rfl]
 show k0 _ _ (Builtin.Dict_items.isOneOf (.ref it) _ >>= _) _ _ _;refine QA (Wl C ?_);rw[IJ _ (by decide +kernel),ot QG];refine QA (Wl C ?_);rw[IJ _ (by decide +kernel),ot QG];show k0 _ _ (p5 [e.key,e.val] >>= _) _ _ _;refine QA (QBh ?_);have p:a.1.size=s.1.1.size:=r.1;have y:lp (a.push { cls:=.type "tuple",data:=.seq (qG [e.key,e.val]) }) it d (i+1) es.size ep c u:=QH _ h;show k0 _ _ (Builtin.Dict_items.ownedTupleIsFree (.ref it) >>= _) _ _ _;refine QA ?_;show k0 _ _ (u3 (.ref it) 0 >>= _) _ _ _;refine QA (wY y rfl (x:=.none) rfl (QK ?_));rw[oa rfl];show k0 _ _ (u3 (.ref it) 6 >>= _) _ _ _;refine QA (wY y rfl (x:=c) rfl ?_);refine QA (wY y rfl (x:=u) rfl ?_);refine QA (wV y (by simp) λM K l=>?_);refine QA (wV K (by simp) λL W j=>?_);refine QA (wV W (by simp) λJ Z g=>?_);refine QA (wV Z (by simp) λG Y f=>?_);refine QA (QCl (QK ?_));refine QK #[_,rfl,QK ?_];have k:it<a.1.size:=QV h;have pt:G.get? a.1.size=jr { cls:=.type "tuple",data:=.seq (qG [e.key,e.val]) } :=
  f.extBut _ _ (w9 k) (g.extBut _ _ (w9 k) (j.extBut _ _ (w9 k) (l.extBut _ _ (w9 k) (QR _ rfl))))
 have n:G.1.size=a.1.size+1:=by rw[f.1,g.1,j.1,l.1,WN]
 have v:rn G it d (i+1) es.size ep e.key e.val a.1.size:=Y;rw[p]at pt n v;have:=q G v pt n λb o hb x=>f.extBut _ _ hb (g.extBut _ _ hb (j.extBut _ _ hb (l.extBut _ _ hb (QH _ (r.extBut _ _ hb x)))));show Q (jr (.ref a.1.size)) _;rw[p];exact this
theorem bR(f:A.handled=kd)
  (h:lp s.1 it d i es.size ep c u) (x:s.1.get? d=jr z) (y:z.data=.dict es ep) (g:es[i]?=kd)
  (q:∀h',QAH it s.1 h'->Q kd { s with heap:=h' }) :
  k0 (k5 prog w) A (P0 (.ref it)) Q E s:=by
 have v:s.TypeIs (.ref it) "dict_itemiterator":=#[_,h,rfl]
 show k0 _ _ (bind _ _) _ _ _;refine QA (QAD (qV v qf (qO qf v Wu ?_ (Wn _))));show k0 _ _ (bind _ _) _ _ _;refine QA (QK (QA (QA (QA (wC v (QK (QA (QAe h rfl ?_))))))));rw[eD];show k0 _ _ (if(kx d==j2)=kb then _ else _) _ _ _;rw[ot (show ¬ (kx d==j2)=kb from QG)];show k0 _ _ (wZ (.ref d) >>= _) _ _ _;refine QA (QK (QA (wM x y ?_)));rw[ot (show ¬ (((es.size:Nat):Int) != ((es.size:Nat):Int))=kb by simp)];refine QA (QK (QA (WC x y ?_)));rw[ot (show ¬ (((ep:Nat):Int) != ((ep:Nat):Int))=kb by simp)];refine QK ?_;have h0:(if((i:Nat):Int)<0 then kd else es[((i:Nat):Int).toNat]?)=none:=by rw[ot (),qX];exact g
 simp only[h0];refine QA ?_;show k0 _ _ (Er (.ref it) >>= _) _ _ _;refine QA (wC v (QK ?_));rw[eD,oa rfl];refine QA (wV h (by simp) λj e k=>?_);refine QA (m:=p0 (.type "StopIteration") []) ?_;simp only[p0,p5];refine QA (Q3 ?made (by size_fits));refine QA (m:=fb _ _) (QCj (a:=j2) (by first|rfl | (rw[fb];rfl)) ?arg);refine Q3 ?made2 (by size_fits);simp only[Ar];refine QA (QB3 ?_);first|rw[show A.in1.handled=kd from f]|rw[f]
 refine QA (QK (QCk ?_));refine QA (W4 (T:="StopIteration") (b:=kb) #[_,QR _ rfl,rfl] (by kernel_rfl) ?_);rw[oa rfl];exact QK (q _ ((k.extBut.push _).push _))
theorem D8{v:k4}{Q:fC}(hv:s.1.IsItemsView v d)(h:s.1.get? d=jr z)(x:z.data=.dict es ep)
  (q:Q (.ref s.1.1.size) { s with heap:=s.1.push { cls:=.type "dict_itemiterator",data:=.fields (qG [.none,.bool kn,.ref d,.int 0 0,.int es.size 0,.int ep 0,.none,.none]) } }) :
  k0 (k5 prog w) A (mA (.ref v)) Q E s:=by
 have a:=Heap.IsItemsView.typeIs hv;let#[u,y,b,k]:=id hv;refine QCI a QA9 (qO QA9 a F.entry_dict_items_iter ?_ (F.args_dict_items_iter_1 _));show k0 _ _ (bind _ _) _ _ _;refine QA (QK (QA ?_));show k0 _ _ (bind _ _) _ _ _;refine QA (wY y k rfl (QK (QA ?_)));show k0 _ _ (bind _ _) _ _ _;refine QA (wM h x (QA (WC h x ?_)));simp only[eD,if_true];refine Q3 (QK #[_,rfl,"dict_itemiterator",_,#[_,QR _ rfl,rfl],qf.lookup,q]) (show _<=ku+2 by simp[Builtin.Dict_items.ownedTupleFields,qC])
theorem LX{Q:fC}(h:s.1.get? d=jr z)(x:z.cls=.type "dict")(v:(d==gl)=kn)
  (q:Q (.ref s.1.1.size) { s with heap:=s.1.push { cls:=.type "dict_items",data:=.fields (qG [.ref d]) } }):k0 (k5 prog w) A (lj (.builtin "dict.items") [.ref d]) Q E s:=by
 have y:s.TypeIs (.ref d) "dict":=#[_,h,x]
 refine qO F.slot_dict_items y F.entry_dict_items ?_ (F.args_dict_items_1 _);show k0 _ _ (bind _ _) _ _ _;refine QA ?_;show k0 _ _ (bind _ _) _ _ _;refine QA (Wv y ?_);refine QK ?_;show k0 _ _ ((if(d==gl)=kb then _ else _) >>= _) _ _ _;rw[v,ot QG];exact QA (QK (QA (Q3 (QK #[_,rfl,q]) (show _<=ku+2 by simp[qC]))))
theorem NZ{X:Type}[DecidableEq X]{h:u0 prog w X}{d a:k4}{xs:List (X×k4×kt)}{k:X}{v:kt}{Q:fC}(K:h.room A)(f:h.is s.1 k a)(hm:s.1.DictOfH h d xs)(hsz:xs.9<=ku)
  (F:∀p,lr xs k=jr p->Q p.2 { s with toks:=s.toks+h.draws k })
  (C:lr xs k=kd->∀h',h'.DictOfH h d (ti xs k a v)->qg d s.1 h'->Q v { s with heap:=h',toks:=s.toks+h.draws k }) :
  k0 (k5 prog w) A (p6 d (.ref a) v) Q E s:=by
 let#[o,es,ep,m,hc,l,Y,r,Z]:=id hm;have G:es.size=xs.length:=by have:=QP qR Y;simpa using this
 unfold p6;refine qk (QA (h.pyHash K f (QA (wpAny_dictFind_heap K f m l Y r Z (λq=>?_) λj p B=>?_))));have b:=atKey_none_of_get q;have n:=not_mem_keys_of_get q;refine QA (QBU (QA (wpAny_updateDictKeys m l (QK (C b _ ?_ (Q9 ..))) () (by simp))));refine#[_,_,ep+1,wU _ m (Obj.isFreed_of_dict (QBY l _)),Obj.ExactDict.mapDictKeys hc _,QBY l _,?_,?_,?_];rw[QCm b];simp[Y,DC];rw[QCm b];intro x g;rcases Qd.mp g with g|g;exact h.keeps (r x g) m l (Q9 ..);rw[QJ.mp g];exact h.keeps f m l (Q9 ..);rw[QCm b,QN];exact qh.mpr #[Z,by simp,λx g y W e=>by rw[QT,wT,QJ]at W;rw[e,W]at g;exact n g];have b:=atKey_of_get Z B;have I:es[j]?=jr (DC h (k,p)):=by
  have:es.toList[j]?=jr (DC h (k,p)):=by rw[Y,Qa,B];rfl
  simpa using this
 refine QA (wM m l ?_);rw[I];exact QA (QBU (QK (F p b)))
theorem vV{y:Type}[DecidableEq y]{h:u0 prog w y}{d a:k4}{xs:List (y×k4×kt)}{k:y}{v:kt}{Q:fC}(e:h.room A.in1)(x:h.is s.1 k a)(hm:s.1.DictOfH h d xs)(hsz:xs.9<=ku)(j:(d==gl)=kn)
  (m:∀p,lr xs k=jr p->Q p.2 { s with toks:=s.toks+h.draws k })
  (l:lr xs k=kd->∀h',h'.DictOfH h d (ti xs k a v)->qg d s.1 h'->Q v { s with heap:=h',toks:=s.toks+h.draws k }) :
  k0 (k5 prog w) A (lj (.builtin "dict.setdefault") [.ref d,.ref a,v]) Q E s:=by
 have b:s.TypeIs (.ref d) "dict":=Heap.DictOfH.typeIs hm;refine qO F.slot_dict_setdefault b F.entry_dict_setdefault ?_ (F.args_dict_setdefault_3 _ _ _);show k0 _ _ (bind _ _) _ _ _;refine QA ?_;show k0 _ _ (bind _ _) _ _ _;refine QA (Wv b ?_);refine QK ?_;show k0 _ _ (if(d==gl)=kb then _ else _) _ _ _;rw[j,ot QG];exact QA (NZ e x hm hsz (λp f=>QK #[_,rfl,m p f]) λg h' o n=>QK #[_,rfl,l g h' o n])
end
end
def ML(K:QC):V->LV->Hp->VK->Prop:=λx z H Q=>∃a b v w h k,x=.ref a/\z=[.ref b,v]/\H a=jr (.dT w h)/\HG K H h/\jP K H b k/\h.9<ku /\
   (∀u,fH h k=jr u->Q u H)/\(fH h k=kd->∀y,Q v (CA H a (.dT y (CM h k b v))))
theorem K2{X:Cx}(P:X.A.units+66<hZ):Ja X "dict.setdefault" (ML X.K):=by
 intro m s J H x M v O Q I o r h;let#[a,b,y,S,f,k,rfl,rfl,e,hk,E,l,Z,Y]:=h;cases o;let#[u,N,rfl,q,g]:=c5 r;cases q;let#[W,n,L,w,F]:=xL I e hk;have hl:(CM f k b y).9<=sizeLine:=by have:=xU f k b y;omega
 refine vV (II ()) (dU I E) F (by rw[<- qM w];exact W) n (λp B=>?_) λC R j hs=>?_;have z:=w.val k;rw[B]at z;cases ev:fH f k with|none=>rw[ev]at z;exact(show False from z).elim|some u=>rw[ev]at z;exact#[u,H,I.tok _,z,Z u ev]
 have z:=w.val k;rw[C]at z;cases ev:fH f k with|some u=>rw[ev]at z;exact(show False from z).elim|none=>let#[i,G]:=CN (t':=_) I (by rw[e];exact True.intro) n hl (w.put k b g) j hs;exact#[y,_,G,g,Y ev i]
def jAD(ep n:Nat)(a:k4):It :=
  #[λi H=>∃h p,H a=jr (.dT ep h)/\h.9=n/\h[i]?=jr p,
   λi H v x=>∃q p,H q=kd/\v=.ref q/\x=CA H q (.tup [.ref p.2.1,p.2.2])/\∀h,H a=jr (.dT ep h)->h[i]?=jr p,
   λi H=>∃h,H a=jr (.dT ep h)/\h.9=n/\n<=i]
theorem SH{α h:Type}{R:α->h->Prop}:∀{l:List α}{m:List h}{i:Nat}{x:α},y1 R l m->l[i]?=jr x->∃y,m[i]?=jr y/\R x y
 |_,_,i,_,.nil,e=>by simp at e|_,_,0,_,.cons r _,e=>by simp at e;subst e;exact#[_,rfl,r]|_,_,i+1,x,.cons _ t,e=>by let#[y,u,z]:=SH (i:=i) (x:=x) t (by simpa using e);exact#[y,by simpa using u,z]
theorem PV{P:vb}{w:xb}{K:QC}{es:List Expr}{kk:Nat}{pp:Pos}{a it:k4}{n ep:Nat}:Turn0 P w K (.Tuple es kk pp) (jAD ep n a) [it] it (λi h=>∃ok Y,lp h it a i n ep ok Y) where
 mem:=by simp
 obj:=λi h st b hb=>by let#[ok,Y,st]:=st;rw[QJ]at hb;subst hb;exact#[_,st,λv q=>by cases(show Data.fields _=Data.cell v from q)]
 keep:=λi h h' st k=>by let#[ok,Y,st]:=st;exact#[ok,Y,k it (by simp) _ st]
 item:=by
  intro X J C L hc i Z s σ H E I A st G;subst J C L;let#[j,p,e,F,ep]:=G;let#[ok,Y,st]:=st;let#[z,y,xs,r,o,u,N,h2,M,B,h5]:=(show HA X.prog X.w H s.1 a (.dT _ j) from I.hok a _ e)
  have l:u.size=n:=by have:=QP qR B;rw[QD,Q0]at this;rw[this,<- qM r,F]
  let#[q,hq,rq]:=SH r ep;have he:u[i]?=jr (DC (xF X.prog X.w) q):=by
   have:u.toList[i]?=jr (DC (xF X.prog X.w) q):=by rw[B,Qa,hq];rfl
   simpa using this
  subst l;refine V7 st N M he λh' b1 b3 b4 b5=>#[_,rfl,wpAny_letOwnedTupleGo_items b1 λm c1 sb=>?_]
  have hp:=I.hok.fresh (QZ s.1.1.size);have W:it<s.1.1.size:=QV st;have g:∀b∈[it],b<s.1.1.size:=λb hb=>by rw[QJ]at hb;subst hb;exact W
  have kept:∀b o,b∉[it]->s.1.get? b=jr o->m.get? b=jr o:=λb o hb q=>by rw[QJ]at hb;exact(sb.2 b hb).trans (b5 b o hb q)
  have f:m.get? s.1.1.size=jr { cls:=.type "tuple",data:=.seq (qG [.ref q.2.1,q.2.2]) }:=(sb.2 _ (w9 W)).trans b3;have I1:=I.pair (x:=.ref p.2.1) (y:=p.2.2) (h':=s.1.push { cls:=.type "tuple",data:=.seq (qG [.ref q.2.1,q.2.2]) }) (t':=s.toks) (λb o e=>QH _ e) (QZ _) (QR _ rfl) (show kx q.2.1=kx p.2.1 by rw[rq.2.1]) rq.2.2;have I2:=I1.turnedL (h':=m) (t':=s.toks) (ch:=[it]) (λb o hb e=>by
   rcases QBZ e with⟨q1,q2⟩| q;subst q1 q2;exact f;exact kept b o hb q) λb hb=>by
   let#[f0,S,f2,R,Q,O]:=A b hb;exact#[by rw[xA (Qk (g b hb))];exact f0,S,f2,R,Q,O]
  refine#[.ref s.1.1.size,_,I2,rfl,#[s.1.1.size,p,hp,rfl,rfl,λkvs' g1=>?_],#[_,_,c1],λb hb=>?_];rw[e]at g1;cases g1;exact ep;rw[xA (Qk (g b hb))];exact(A b hb).1
 done:=by
  intro X J C L hc i Z s σ H E I A st G;subst J C L;let#[j,e,F,ep]:=G;let#[ok,Y,st]:=st;let#[z,y,xs,r,o,u,N,h2,M,B,h5]:=(show HA X.prog X.w H s.1 a (.dT _ j) from I.hok a _ e)
  have l:u.size=n:=by have:=QP qR B;rw[QD,Q0]at this;rw[this,<- qM r,F]
  subst l;let#[f0,S,f2,R,Q,O]:=A it (by simp);exact bR (I.ok.hd hc) st N M (QBA ep) λh' eb=>#[rfl,I.turned (t':=s.toks) (λb o hb e=>eb b o hb e) f0 S R Q O]
section
variable{prog:vb}{w:xb}{A:zq}{E:fC}{s:ko}
section
variable{d it:k4}{h:Obj}{es:Array lb}{ep i:Nat}{Q:Option kt->ko->Prop}
theorem jH:QAC "dict_keyiterator"=false:=by decide +kernel
theorem de{Q:fC}(u:(d==gl)=kn)(x:s.1.get? d=jr h)(hc:h.cls=.type "dict")(y:h.data=.dict es ep)
  (q:Q (.ref s.1.1.size) { s with heap:=s.1.push { cls:=.type "dict_keyiterator",data:=.fields (qG [.ref d,.int 0 0,.int es.size 0,.int ep 0]) } }) :
  k0 (k5 prog w) A (mA (.ref d)) Q E s:=by
 have z:s.TypeIs (.ref d) "dict":=#[_,x,hc]
 refine QCI z QCd (qO QCd z F.entry_dict_iter ?body (F.args_dict_iter_1 _))
 case body =>
  show k0 _ _ (bind _ _) _ _ _;refine QA ?sl
  case sl =>
   show k0 _ _ (bind _ _) _ _ _;refine QA (Wv z (QK ?go))
   case go =>
    have e:Ww d=aj PUnit.unit:=by unfold Ww;rw[u];rfl
    show k0 _ _ (Ww d >>= _) _ _ _;rw[e];refine QA (QK (QA (wM x y (QA (WC x y (QA (Q3 (QK #[_,rfl,"dict_keyiterator",_,#[_,QR _ rfl,rfl],qj.lookup,?_]))))))));simpa[fv]using q
theorem Xd{e:lb}
  (u:s.1.IsKeyIter it d i es.size ep) (z:s.1.get? d=jr h) (v:h.data=.dict es ep) (f:es[i]?=jr e)
  (q:∀h',h'.IsKeyIter it d (i+1) es.size ep->qg it s.1 h'->Q (jr e.key) { s with heap:=h' }) :
  k0 (k5 prog w) A (P0 (.ref it)) Q E s:=by
 have k:=u.typeIs;let#[g,a,b,x]:=id u;show k0 _ _ (bind _ _) _ _ _;refine QA (QAD (qV k qj (qO qj k W8 ?_ (Wx _))));show k0 _ _ (bind _ _) _ _ _;refine QA (QK (QA (QA (QA (wH k (QK (QA (QAe a x ?_))))))));rw[jH];show k0 _ _ (if(kx d==j2)=kb then _ else _) _ _ _;rw[ot (show ¬ (kx d==j2)=kb from QG)];show k0 _ _ (wZ (.ref d) >>= _) _ _ _;refine QA (QK (QA (wM z v ?_)));rw[ot (show ¬ (((es.size:Nat):Int) != ((es.size:Nat):Int))=kb by simp)];refine QA (QK (QA (WC z v ?_)));rw[ot (show ¬ (((ep:Nat):Int) != ((ep:Nat):Int))=kb by simp)];refine QK ?_;have h0:(if((i:Nat):Int)<0 then kd else es[((i:Nat):Int).toNat]?)=jr e:=by rw[ot (),qX];exact f
 simp only[h0];refine QA ?_;show k0 _ _ (Er (.ref it) >>= _) _ _ _;refine QA (wH k (QK (QA (QBN k ?_))));rw[jH];show k0 _ _ (setField (.ref it) 1 _ >>= _) _ _ _;refine QA (QAd a x (by simp) ?_);have y:(s.1.update it (Obj.mapFields (·.setIfInBounds 1 (fv ((i:Int)+1))))).IsKeyIter it d (i+1) es.size ep :=
  #[_,wU _ a (QBM (Wa x _)),(QCH ..).trans b,by rw[Wa x];simp[fv]]
 refine QA (qk (QA (QBN (s:={ s with heap:=s.1.update it (Obj.mapFields (·.setIfInBounds 1 (fv ((i:Int)+1)))) }) y.typeIs ?_)));show k0 _ _ (aj e.key) _ _ _;exact QK (QK #[_,rfl,QK (q _ y (Q9 ..))])
theorem KT(e:A.handled=kd)
  (y:s.1.IsKeyIter it d i es.size ep) (x:s.1.get? d=jr h) (u:h.data=.dict es ep) (f:es[i]?=kd)
  (q:∀h',QAH it s.1 h'->Q kd { s with heap:=h' }) :
  k0 (k5 prog w) A (P0 (.ref it)) Q E s:=by
 have v:=y.typeIs;let#[j,k,g,z]:=id y;show k0 _ _ (bind _ _) _ _ _;refine QA (QAD (qV v qj (qO qj v W8 ?_ (Wx _))));show k0 _ _ (bind _ _) _ _ _;refine QA (QK (QA (QA (QA (wH v (QK (QA (QAe k z ?_))))))));rw[jH];show k0 _ _ (if(kx d==j2)=kb then _ else _) _ _ _;rw[ot (show ¬ (kx d==j2)=kb from QG)];show k0 _ _ (wZ (.ref d) >>= _) _ _ _;refine QA (QK (QA (wM x u ?_)));rw[ot (show ¬ (((es.size:Nat):Int) != ((es.size:Nat):Int))=kb by simp)];refine QA (QK (QA (WC x u ?_)));rw[ot (show ¬ (((ep:Nat):Int) != ((ep:Nat):Int))=kb by simp)];refine QK ?_;have h0:(if((i:Nat):Int)<0 then kd else es[((i:Nat):Int).toNat]?)=none:=by rw[ot (),qX];exact f
 simp only[h0];refine QA ?_;show k0 _ _ (Er (.ref it) >>= _) _ _ _;refine QA (wH v (QK ?_));rw[jH];show k0 _ _ (setField (.ref it) 0 .none >>= _) _ _ _;refine QA (QAd k z (by simp) ?_);refine QA (m:=p0 (.type "StopIteration") []) ?_;simp only[p0,p5];refine QA (Q3 ?made (by size_fits));refine QA (m:=fb _ _) (QCj (a:=j2) (by first|rfl | (rw[fb];rfl)) ?arg);refine Q3 ?made2 (by size_fits);simp only[Ar];refine QA (QB3 ?_);first|rw[show A.in1.handled=kd from e]|rw[e]
 refine QA (QK (QCk ?_));refine QA (W4 (T:="StopIteration") (b:=kb) #[_,QR _ rfl,rfl] (by kernel_rfl) ?_);rw[oa rfl];exact QK (q _ (((Q9 ..).extBut.push _).push _))
end
end
noncomputable def jAF(ep n:Nat)(a:k4):It :=
  #[λi H=>∃h p,H a=jr (.dT ep h)/\h.9=n/\h[i]?=jr p,
   λi H v x=>x=H/\∀h,H a=jr (.dT ep h)->∃p,h[i]?=jr p/\v=.ref p.2.1,
   λi H=>∃h,H a=jr (.dT ep h)/\h.9=n/\n<=i]
theorem TZ{P:vb}{w:xb}{K:QC}{S:Expr}{a it:k4}{n ep:Nat}:Turn P w K S (jAF ep n a) [it] it (λi h=>h.IsKeyIter it a i n ep) where
 mem:=by simp
 obj:=λi h st b hb=>by let#[o,e,c,d]:=st;rw[QJ]at hb;subst hb;exact#[o,e,λv z=>by rw[d]at z;cases z]
 keep:=λi h Y st k=>st.at λo e=>k it (by simp) o e
 item:=by
  intro X B Z C hc i u s Q H E I l st A;subst B Z C;let#[f,p,e,W,ep]:=A;let#[z,y,R,r,o,x,G,h2,F,m,h5]:=(show HA X.prog X.w H s.1 a (.dT _ f) from I.hok a _ e)
  have g:x.size=n:=by have:=QP qR m;rw[QD,Q0]at this;rw[this,<- qM r,W]
  let#[q,hq,rq]:=SH r ep;have he:x[i]?=jr (DC (xF X.prog X.w) q):=by
   have:x.toList[i]?=jr (DC (xF X.prog X.w) q):=by rw[m,Qa,hq];rfl
   simpa using this
  subst g;let#[O,N,f2,M,L,J]:=l it (by simp);refine Xd st G F he λY j sb=>?_;have I1:Inv X u Q H { s with heap:=Y }:=I.turned (t':=s.toks) (λb o hb e=>(sb.2 b hb).trans e) O N M L J;let#[oi,ei,ci,di]:=id j;exact#[_,rfl,go_of (s:={ s with heap:=Y }) ei ci di (by decide) #[.ref p.2.1,H,I1,show kx q.2.1=kx p.2.1 by rw[rq.2.1],#[rfl,λks hk=>by rw[e]at hk;cases hk;exact#[p,ep,rfl]],j,λb hb=>(l b hb).1]]
 done:=by
  intro X B Z C hc i u s Q H E I l st A;subst B Z C;let#[f,e,W,ep]:=A;let#[z,y,R,r,o,x,G,h2,F,m,h5]:=(show HA X.prog X.w H s.1 a (.dT _ f) from I.hok a _ e)
  have g:x.size=n:=by have:=QP qR m;rw[QD,Q0]at this;rw[this,<- qM r,W]
  subst g;let#[O,N,f2,M,L,J]:=l it (by simp);exact KT (I.ok.hd hc) st G F (QBA ep) λY eb=>#[rfl,I.turned (t':=s.toks) (λb o hb e=>eb b o hb e) O N M L J]
 self:=λ_ _ _ _ _ st h=>wpAny_pyIter_keyiter st h
open PySem.SeqAt
open AutoSeq1 (wpAny_loadPart')
open MeetsSeq MeetsSeq2 MeetsSeq3
noncomputable def so:LS->LS->Bool
 |[],[]=>kn|[],_::_=>kb|_::_,[]=>kn|x::a,y::b=>if(x==y)=kb then so a b else decide (x.cps.toList<y.cps.toList)
theorem tQ{vs:LW}{z:LS}(h:ah vs z):vs.9=z.9/\∀(i:Nat) (x:Str),z[i]?=jr x->∃t:Tok,vs[i]?=jr (Value.str x t):=by
 induction h with
 |nil=>exact#[rfl,λi x e=>by simp at e]|cons y t _ u =>
  refine#[by rw[QM,QM,u.1],λi x e=>?_];cases i with|zero=>simp at e;subst e;exact#[t,rfl]|succ i=>simp at e;simpa using u.2 i x e
theorem D2(l b:k4)(items x:Array kt)(n K:Nat)(J p:Option k4)(Z m:Array (Option kt))(v ts:LS)(G:ah items.toList v)(F:ah x.toList ts)(k:Nat) :
  ∀i:Nat,items.size - i=k->i<=items.size->i<=x.size->Meets (Builtin.«list.__eq__.loop» #[[.ref l,.ref b,fv i,fv 0],[]])
   (λA R s=>s.1.get? l=jr { cls:=.type "list",dict:=J,data:=.seq items n,slots:=Z }/\s.1.get? b=jr { cls:=.type "list",dict:=p,data:=.seq x K,slots:=m } /\
    R (.ok (.ret (.bool (so (v.drop i) (ts.drop i))))) s):=by
 let#[Q,O]:=tQ G;let#[N,M]:=tQ F;rw[Q0]at Q N;induction k with
 |zero =>
  intro i hk E o a w A R s h;let#[C,g,d,Y,W]:=s;let#[hl,hb,h]:=h;wp_walk using qJ hl,qJ hb;have j:items[((i:Nat):Int).toNat]?=none:=by simp;omega
  rw[j];wp_walk using qJ hl,qJ hb;have X:v.drop i=[]:=by simp;omega
  rw[X]at h;have e:so [] (ts.drop i)=decide (items.size<x.size):=by
   cases z:ts.drop i with
   |nil =>
    have:ts.9<=i:=by simpa using z
    exact(dF ()).symm
   |cons y r =>
    have:i<ts.length:=by by_cases c:i<ts.9;exact c;rw[Wm ()]at z;cases z
    exact(dT ()).symm
  rw[e]at h;exact h
 |succ k B =>
  intro i hk E o a w A R s h;let#[C,g,d,Y,W]:=s;let#[hl,hb,h]:=h;wp_walk using qJ hl,qJ hb;have f:i<v.length:=()
  let#[t,ev]:=O i v[i] (Qi f);have j:items[((i:Nat):Int).toNat]?=jr (.str v[i] t):=by simpa using ev
  rw[j];have X:v.drop i=v[i]::v.drop (i+1):=QAf f;rw[X]at h;by_cases c:i<ts.9;let#[u,I]:=M i ts[i] (Qi c);have e:x[((i:Nat):Int).toNat]?=jr (.str ts[i] u):=by simpa using I
  have L:ts.drop i=ts[i]::ts.drop (i+1):=QAf c;rw[L]at h;have h:R (.ok (.ret (.bool (if(v[i]==ts[i])=kb then so (v.drop (i+1)) (ts.drop (i+1)) else decide (v[i].cps.toList<ts[i].cps.toList))))) _:=h;rw[e];refine QA (EqAt.str_str v[i] t ts[i] u a w _ _ ?_);have hc:((i:Int)+1)=((i+1:Nat):Int):=by push_cast;rfl
  cases q:(v[i]==ts[i]) with|true=>rw[q,oa rfl]at h;wp_walk;rw[hc];exact#[QAz plain_eq_loop _,QAI entry_eq_loop (by rw[WI plain_eq_loop _];exact B (i+1) () () () a w A R _ #[hl,hb,h])]|false=>rw[q,ot QG]at h;wp_walk using qJ hl,qJ hb;rw[j,e];show k0 _ _ (vu .Lt (.str v[i] t) (.str ts[i] u) >>= _) _ _ _;refine QA (PySem.P.lt_str ?_);exact QK h
  have e:x[((i:Nat):Int).toNat]?=none:=by simp;omega
  rw[e];wp_walk using qJ hl,qJ hb;rw[Wm (show ts.9<=i by omega)]at h;have:decide (items.size<x.size)=false:=dF ();have h:R (.ok (.ret (.bool kn))) _:=h;rw[<- this]at h;exact h
theorem O2(l b:k4)(items x:Array kt)(n a:Nat)(e u:Option k4)(k y:Array (Option kt))(v ts:LS)(i:ah items.toList v)(f:ah x.toList ts) :
  Meets (Builtin.«list.__lt__» #[[.ref l,.ref b],[]])
   (λA R s=>s.1.get? l=jr { cls:=.type "list",dict:=e,data:=.seq items n,slots:=k }/\s.1.get? b=jr { cls:=.type "list",dict:=u,data:=.seq x a,slots:=y } /\
    R (.ok (.ret (.bool (so v ts)))) s):=by
 intro z w A R s h;let#[o,g,d,j,m]:=s;let#[hl,hb,h]:=h;have p:=AutoSeq1.sub_list_list;wp_walk using qJ hl,qJ hb;exact#[QAz plain_eq_loop _,QAI entry_eq_loop (by rw[WI plain_eq_loop _];exact D2 l b items x n a e u k y v ts i f _ 0 rfl (Qs _) (Qs _) z w A R _ #[hl,hb,h])]
section
variable{prog:vb}{w:xb}{A:zq}{E:fC}{s:ko}
theorem tW{l b:k4}{items x:Array kt}{n k:Nat}{a z:Option k4}{v y:Array (Option kt)}{u ts:LS}{Q:Bool->ko->Prop}(e:A.units<hZ)(hl:s.1.get? l=jr { cls:=.type "list",dict:=a,data:=.seq items n,slots:=v })(hb:s.1.get? b=jr { cls:=.type "list",dict:=z,data:=.seq x k,slots:=y })
  (g:ah items.toList u) (f:ah x.toList ts) (h:Q (so u ts) s):k0 (k5 prog w) A (keyLt' ak (.ref l) (.ref b)) Q E s:=by
 rw[keyLt'_oneType,oneLt'_eq];simp only[if_true];refine QA (wpAny_cRoomFor e (QA (wpAny_callSpecialIfBound?_slot (T:="list") #[_,hl,rfl] F.slot_list_lt ?_)));refine QCG F.slot_list_lt #[_,hl,rfl] F.entry_list_lt (F.args_list_lt_2 _ _) (O2 l b items x n k a z v y u ts g f) #[hl,hb,?_];exact wc h
end
end L2.L3
namespace L2.L3
open PySem PySem.Spec PyProof.Rows PySem.W
def yC{α:Type}(n:Nat)(P:α->Prop):KasT α->Prop
 | .ret a=>P a|.ask i j k=>i<n/\j<n/\∀b,yC n P (k b)
theorem yC.bnd{α x:Type}{n:Nat}{P:α->Prop}{R:x->Prop}{f:α->KasT x}(y:∀a,P a->yC n R (f a)):∀{t:KasT α},yC n P t->yC n R (t.bind f)
 | .ret a,h=>y a h|.ask i j k,#[h1,h2,h]=>#[h1,h2,λb=>yC.bnd y (h b)]
theorem yC.wp{α:Type}{n:Nat}{P:α->Prop}{x:Nat->Nat->(Bool->ko->Prop)->ko->Prop}{Q:α->ko->Prop}{s:ko}(y:∀i j,i<n->j<n->∀C:Bool->ko->Prop,(∀b,C b s)->x i j C s)(z:∀a,P a->Q a s):∀{t:KasT α},yC n P t->t.kasWp x Q s
 | .ret a,h=>z a h|.ask i j k,#[h1,h2,h]=>y i j h1 h2 _ λb=>yC.wp y z (h b)
def Pm(n:Nat)(p:Array Nat):Prop:=p.Perm (qG (Qm n))
section
variable{n:Nat}
section
variable{p:Array Nat}
theorem Pm.lt(h:Pm n p)(h0:0<n)(i:Nat):p.getD i 0<n:=by
 by_cases c:i<p.size;have e:p.getD i 0=p[i]:=by simp[Array.getD,c]
 rw[e];have m:p[i]∈p.toList:=by simp
 have:=(qY.mp h).mem_iff.mp m;simpa using this;have e:p.getD i 0=0:=by simp[Array.getD,c]
 rw[e];exact h0
theorem Pm.rev(h:Pm n p)(i j:Nat):Pm n (kas_rev p i j):=(mirror_perm _ _ _ _).trans h
theorem aS{p:Array Nat}(h:Pm n p)(h0:0<n):∀(f m:Nat),yC n (λ_=>True) (kas_asc p f m)
 |0,m=>trivial|f+1,m=>#[h.lt h0 _,h.lt h0 _,λb=>by
  cases b with|true=>exact trivial|false=>exact aS h h0 f (m+1)]
theorem JJ(h0:0<n):∀(f:Nat) {p:Array Nat}(h:Pm n p) (m q:Nat),yC n (λr=>Pm n r.1) (kas_desc f p m q)
 |0,p,h,m,q=>h|f+1,p,h,m,q=>#[h.lt h0 _,h.lt h0 _,λb=>by
  cases b with
  |true=>show yC n _ (if q > 0 then _ else _);split;exact JJ h0 f (h.rev _ _) _ _;exact JJ h0 f h _ _|false =>
   refine#[h.lt h0 _,h.lt h0 _,λb=>?_];cases b with|true=>exact h|false=>exact JJ h0 f h _ _]
theorem zQ(h0:0<n)(h:Pm n p)(a b:Nat):yC n (λr=>Pm n r.2) (kas_tail3 a b p):=by refine yC.bnd (f:=λm=>.ret (m,kas_rev p 0 a)) (λm _=>?_) (aS (h.rev _ _) h0 _ _);exact h.rev _ _
theorem iJ(h0:0<n)(h:Pm n p)(a b:Nat):yC n (λr=>Pm n r.2) (kas_descPart a b p):=by refine yC.bnd (λr x=>?_) (JJ h0 _ h _ _);split;exact zQ h0 (Pm.rev x _ _) _ _;exact zQ h0 x _ _
theorem i4(h0:0<n)(h:Pm n p)(b:Nat):yC n (λr=>Pm n r.2) (kas_count b p):=by
 refine yC.bnd (λm _=>?_) (aS h h0 _ _);split;exact h;split
 ·refine#[h.lt h0 _,h.lt h0 _,λc=>?_]
  cases c with|true=>exact h|false=>exact iJ h0 (h.rev _ _) _ _
 exact iJ h0 h _ _
theorem UK(h0:0<n){p:Array Nat}(h:Pm n p)(k:Nat):∀(f l r:Nat),yC n (λ_=>True) (kas_place p k f l r)
 |0,l,r=>trivial|f+1,l,r=>by
  show yC n _ (if l ≥ r then _ else _);split;exact trivial;refine#[h.lt h0 _,h.lt h0 _,λb=>?_];cases b with|true=>exact UK h0 h k f _ _|false=>exact UK h0 h k f _ _
theorem CZ(h0:0<n):∀(f:Nat) {p:Array Nat}(h:Pm n p) (k:Nat),yC n (Pm n) (kas_bin f p k)
 |0,p,h,k=>h|f+1,p,h,k=>yC.bnd (λl _=>CZ h0 f ((bubble_perm _ _ _).trans h) _) (UK h0 h _ _ _ _)
theorem IN(h0:0<n):yC n (Pm n) (kas_sort n):=by refine yC.bnd (λr h=>?_) (i4 h0 (QCn _) _);split;exact CZ h0 _ h _;exact h
end
end
theorem pP{α:Type}(vs:List α)(d:α):(Qm vs.9).map (λi=>vs.getD i d)=vs:=by apply qw;intro i;rw[Qa];by_cases c:i<vs.9;rw[ww c];simp[c];rw[Q2 (by simp;omega),Q2 ()];rfl
section
variable{prog:vb}{w:xb}{A:zq}{E:fC}{s:ko}
theorem Lr{M:Model}{vs:LW}{Q:SortKind->ko->Prop}(k:2<=vs.9)(z:∀v∈vs,s.TypeIs v "list")(h:Q ak s):k0 M A (keyKind' vs.toArray) Q E s:=by
 cases vs with
 |nil=>simp at k|cons v r =>
  rw[keyKind'_eq,QCJ,map_eq_pure_bind];refine QA (QA (kas_mapM (r:=kd) _ (λu y e q=>?_) (QK ?_)));rw[kas_first_eq];exact QA (QBJ (z u y) (QK q));rw[ot (by simp),ot (by simp),oneTypeOnly'_eq,QCJ,map_eq_pure_bind];refine QA (QA (QA (kas_mapM (r:=.type "list") _ (λu y e q=>QBJ (z u y) q) (QK ?_))));have b:((v::r).map λ_=>Value.type "list").toArray[0]?=jr (.type "list"):=by simp
  have a:(((v::r).map λ_=>Value.type "list").toArray.all λx=>x==Value.type "list")=true:=by simp only[List.all_toArray,List.all_map,Qw];intro _ _;rfl
  rw[b];simp only[a,if_true];exact QK (QK h)
theorem Ll{a:k4}{vs:LW}{n:Nat}{P:PySem.Fin->ko->Prop}(Y:s.1.get? a=jr (ax "list" vs.toArray n))(K:vs.9<64)(S:∀v∈vs,∃b o,v=.ref b/\b≠a/\s.1.get? b=jr o/\o.cls=.type "list")
  (G:∀B:xk,(∀b o,b≠a->s.1.get? b=jr o->B.get? b=jr o)->∀x∈vs,∀y∈vs,∀C:Bool->ko->Prop,(∀k,C k { s with heap:=B })->k0 (k5 prog w) A (keyLt' ak x y) C (λ_ _=>False) { s with heap:=B })
  (k:∀out:LW,out.Perm vs->P (.done (.ret .none)) { s with heap:=sortedHeap s.1 a vs out.toArray }):k0 (k5 prog w) A (Builtin.«list.sort» #[[.ref a],[]]) P E s:=by
 have ha:a<s.1.1.size:=QV Y;have J:=Q9 s.1 a (Q6 λ_=>(#[]:Array kt));obtain⟨Z,X⟩:∃Z,(s.1.update a (Q6 λ_=>(#[]:Array kt))).get? a=jr (ax "list" #[] Z):=#[_,QAJ Y λ_=>#[]]
 have r:(((s.1.update a (Q6 λ_=>(#[]:Array kt))).push (ax "tuple" vs.toArray 0)).push (ax "list" #[] 0)).get? a=jr (ax "list" #[] Z):=QH _ (QH _ X);have kept:∀b o,b≠a->s.1.get? b=jr o->(((s.1.update a (Q6 λ_=>(#[]:Array kt))).push (ax "tuple" vs.toArray 0)).push (ax "list" #[] 0)).get? b=jr o:=λb o hb e=>QH _ (QH _ ((J.2 b hb).trans e));rw[list_sort_plain];refine QA (QCU Y rfl (QA (Wb Y rfl ?_ (by rw[QO];omega) (Qs _))));refine QA (QBp X rfl (QA (QBh ?_ (by show vs.9<=_;omega))));refine QA (QA0 (qk ?_) (Qs _));show k0 (k5 prog w) A _ P E { s with heap:=((s.1.update a (Q6 λ_=>(#[]:Array kt))).push (ax "tuple" vs.toArray 0)).push (ax "list" #[] 0) };dsimp only;have fin:∀out:LW,out.Perm vs->k0 (k5 prog w) A (do
   let h:=(<- seqEpoch a) != Z
   QA1 (.ref a) λ_=>out.toArray
   if h then rule "list.sort.modified";raiseError "ValueError" "list modified during sort"
   ret .none) P E { s with heap:=((s.1.update a (Q6 λ_=>(#[]:Array kt))).push (ax "tuple" vs.toArray 0)).push (ax "list" #[] 0) }:=λout m=>by
  have hl:=m.length_eq;refine QA (QBp r rfl (QA (Wb r rfl ?_ (Qs _) (by rw[QO];omega))));simp only[bne_self_eq_false,Qu,if_false];exact QK (k out m)
 by_cases I:vs.9<2;have u:vs.toArray.size<2:=by rw[QO];exact I
 rw[oa u,oa u];refine QA (QK ?_);rw[QCo];refine QA (QK ?_);have e:(arrOf (QCK general' (vs.toArray.zip vs.toArray) #[] 7 kd)).map (·.2)=vs.toArray:=by show(vs.toArray.zip vs.toArray).map (·.2)=_;apply WP.mp;simp[WQ]
 dsimp only;rw[e];exact fin vs (QBi _);have u:¬ vs.toArray.size<2:=by rw[QO];exact I
 rw[ot u,ot u];refine QA (Lr () (λv hv=>?_) ?_);let#[b,o,rfl,hb,e,c]:=S v hv;exact#[o,kept b o hb e,c];have F:QCK ak (vs.toArray.zip vs.toArray) #[] 7 kd=kas_st ak (ai vs) (qG (Qm vs.9)):=by have e:=kas_range (ai vs);rw[pairsOf_size]at e;show QCK ak (ai vs) #[] 7 kd=QCK ak ((qG (Qm vs.9)).map (kas_item (ai vs))) #[] 7 kd;rw[e]
 have all:=IN (n:=vs.9) ();have f:(kas_sort vs.9).kasWp (kas_cmp prog w A ak (ai vs)) (λp g=>g={ s with heap:=((s.1.update a (Q6 λ_=>(#[]:Array kt))).push (ax "tuple" vs.toArray 0)).push (ax "list" #[] 0) }/\Pm vs.9 p) { s with heap:=((s.1.update a (Q6 λ_=>(#[]:Array kt))).push (ax "tuple" vs.toArray 0)).push (ax "list" #[] 0) }:=by
  rw[<- kas_ask_eq];refine yC.wp (λi j O N C H=>?_) (λp m=>#[rfl,m]) all;have gi:vs.getD i j2∈vs:=by
   have:vs.getD i j2=vs[i]:=by simp[O]
   rw[this];exact WR _
  have gj:vs.getD j j2∈vs:=by
   have:vs.getD j j2=vs[j]:=by simp[N]
   rw[this];exact WR _
  exact G _ kept _ gi _ gj C H
 have l:=kas_runs (prog:=prog) (w:=w) (A:=A) (E:=E) (Q:=λ_ z g=>∃p:Array Nat,p.size=vs.9/\arrOf z=p.map (kas_item (ai vs))/\i3 z=kd/\g={ s with heap:=((s.1.update a (Q6 λ_=>(#[]:Array kt))).push (ax "tuple" vs.toArray 0)).push (ax "list" #[] 0) }/\Pm vs.9 p)
  () K (λM z g a1 a2 a3 a4=>#[M,a1,a2,a3,a4]) f
 rw[<- F]at l;refine QA (wE l ?_ λ_ _ e=>e);rintro⟨⟨⟩,z⟩ g ⟨p,m,W,R,rfl,L⟩;dsimp only;have q:(arrOf z).map (·.2)=qG (p.toList.map λi=>vs.getD i j2):=by apply WP.mp;rw[W,Array.map_map,Array.toList_map];exact wQ λi _=>by show(kas_item (ai vs) i).2=_;rw[kas_item_eq]
 rw[q,R];refine fin _ ?_;have:=(qY.mp L).map λi=>vs.getD i j2;refine this.trans ?_;show((Qm vs.9).map λi=>vs.getD i j2).Perm vs;rw[pP]
theorem Gb{l:k4}{vs:LW}{Q:fC}(hl:s.1.IsList l vs.toArray)(g:vs.9<64)(X:∀v∈vs,∃b o,v=.ref b/\s.1.get? b=jr o/\o.cls=.type "list")
  (i:∀f:xk,(∀b o,s.1.get? b=jr o->f.get? b=jr o)->∀x∈vs,∀y∈vs,∀C:Bool->ko->Prop,(∀k,C k { s with heap:=f })->k0 (k5 prog w) A.in1.in1 (keyLt' ak x y) C (λ_ _=>False) { s with heap:=f })
  (k:∀out:LW,out.Perm vs->Q (.ref (s.1.1.size+1)) { s with heap:=sortedAll s.1 vs out.toArray }):k0 (k5 prog w) A (lj (.builtin "sorted") [.ref l]) Q E s:=by
 refine Calls.call_function_entry kind_sorted plain_sorted entry_sorted (args_sorted1 _) ?_;unfold Builtin.«sorted»;refine QA (m:=checkCount "sorted" 1 1 _) (QK (QA (collect_list hl ?_ ())));refine QA (QA0 ?_ (by show vs.9<=_;omega));have u:((s.1.push (ax "list" #[] 0)).update s.1.1.size (Q6 (·++vs.toArray))).1.size=s.1.1.size+1:=by rw[QCe,size_push']
 have a:(((s.1.push (ax "list" #[] 0)).update s.1.1.size (Q6 (·++vs.toArray))).push (ax "list" vs.toArray 0)).get? (s.1.1.size+1)=jr (ax "list" vs.toArray 0):=by rw[<- u];exact QR _ rfl
 have z:∀b o,s.1.get? b=jr o->(((s.1.push (ax "list" #[] 0)).update s.1.1.size (Q6 (·++vs.toArray))).push (ax "list" vs.toArray 0)).get? b=jr o:=λb o q=>by have h:b<s.1.1.size:=QV q;refine QH _ ?_;rw[Heap.get?_update_ne _ _ _ _ (Qk h)];exact QH _ q
 show k0 _ _ _ _ _ { s with heap:=((s.1.push (ax "list" #[] 0)).update s.1.1.size (Q6 (·++vs.toArray))).push (ax "list" vs.toArray 0) };rw[u];refine QA (qk (qO i0 #[_,a,rfl] ir ?body (args_list_sort _)))
 case body =>
  refine Ll (s:={ s with heap:=((s.1.push (ax "list" #[] 0)).update s.1.1.size (Q6 (·++vs.toArray))).push (ax "list" vs.toArray 0) }) a g (λv hv=>?_) (λf j x p y n C Y=>?_) λout r=>#[_,rfl,QK #[_,rfl,k out r]]
  let#[b,o,e,q,c]:=X v hv;have h:b<s.1.1.size:=QV q;exact#[b,o,e,Qk (WF h),z b o q,c];refine i f (λb o q=>?_) x p y n C Y;have h:b<s.1.1.size:=QV q;exact j b o (Qk (WF h)) (z b o q)
end
section
variable{prog:vb}{w:xb}{A:zq}
theorem Lm(Y:A.handled=kd)(j:k4)(z:Src)(g:z.adr≠j)(items:Array kt)(c:Nat) :
  Draws prog w A j [j,z.adr] (c+items.size) (λi v=>∃k,i=c+k/\items[k]?=jr v) (λi h=>∃k,i=c+k/\cE h j z k/\MB h z items) where
 live:=λ_ _ #[_,_,p,_]=>let#[o,e,_]:=p.obj;#[o,e]
 frame:=λ_ h b #[k,e,p,q] y=>#[k,e,p.keep λo x=>y j (by simp) o x,by
  cases z with|l a=>exact QCi.at q λo x=>y a (by simp[Src.adr]) o x|t a=>let#[o,X,r]:=q;exact#[o,y a (by simp[Src.adr]) o X,r]]
 item:=λi s Q E Z #[k,e,p,q] m=>by
  have hk:k<items.size:=()
  exact Ud p q (x:=items[k]) (by simp[hk]) λb f u=>m _ b s.toks #[k,e,by simp[hk]] #[k+1,(),f,Yj q u g] u
 done:=λs Q E #[k,e,p,q] n=>by
  have hk:k=items.size:=()
  exact X7 Y p q (by simp[hk]) n
theorem Mm(m:A.handled=kd)(j:k4)(z:Src)(items:Array kt)(n k:Nat)(u:items[k]?=kd) :
  Draws prog w A j [j,z.adr] n (λ_ _=>False) (λi h=>i=n/\cE h j z k/\MB h z items) where
 live:=λ_ _ #[_,p,_]=>let#[o,e,_]:=p.obj;#[o,e]
 frame:=λ_ h X #[e,p,q] y=>#[e,p.keep λo x=>y j (by simp) o x,by
  cases z with|l a=>exact QCi.at q λo x=>y a (by simp[Src.adr]) o x|t a=>let#[o,g,f]:=q;exact#[o,y a (by simp[Src.adr]) o g,f]]
 item:=λi s Q E v #[e,_,_] r=>o2 v ()
 done:=λs Q E #[_,p,q] b=>X7 m p q u b
def jAG(K:QC)(z:Src)(c:Nat):It :=
  #[λi H=>∃h x,B4 K H z h/\h[i]?=jr x,
   λi H v y=>∃p x,H p=kd/\v=.ref p/\y=CA H p (.tup [.int ((c+i:Nat):Int),x])/\∀h,B4 K H z h->h[i]?=jr x,
   λi H=>∃h,B4 K H z h/\h.9<=i]
def vY(e j:k4)(z:Src)(c i:Nat)(h:xk):Prop:=(∃x,IsEnum h e j ((c+i:Nat):Int) x)/\cE h j z i
theorem AZ{P:vb}{K:QC}{es:List Expr}{kk:Nat}{pp:Pos}{e j:k4}{z:Src}{c:Nat}(L:e≠j)(n2:z.adr≠e)(n3:z.adr≠j) :
  Turn P w K (.Tuple es kk pp) (jAG K z c) [e,j] e (vY e j z c) where
 mem:=by simp
 obj:=λi h st b hb=>by let#[#[a,g],n]:=st;simp only[QL,WS,or_false]at hb;rcases hb with rfl|rfl;exact#[_,g,λv q=>by cases(show Data.fields _=Data.cell v from q)];exact n.obj
 keep:=λi h h' st k=>by let#[#[a,g],n]:=st;exact#[#[a,k e (by simp) _ g],n.keep λo x=>k j (by simp) o x]
 item:=by
  intro X O M Q hc i r s σ H E I B st N;subst O M Q;let#[xs,x,C,ex]:=N;let#[f,J,F,_]:=I.src C;let#[u,hu,ru]:=J.get ex;let#[#[a,g],n]:=st;have hi:i<f.toArray.size:=by have:=(Qg.mp hu).1;simpa using this
  refine wpAny_pyNext_enum_itemD (Lm (show X.A.in1.handled=kd from I.ok.hd hc) j z n3 f.toArray c) g #[i,rfl,n,F] () L (by simp[L,Q1 n2]) λy h' W #[k,ek,hy] b1 b2 b3 b4 b5=>?_;have ek:k=i:=()
  subst ek;have ey:y=u:=by
   have:f.toArray[k]?=jr u:=by simpa using hu
   rw[this]at hy;exact(Ql hy).symm
  subst ey;refine#[_,rfl,wpAny_letOwnedTupleGo_enum b1 λp c1 G=>?_];let#[k2,Z,b2,b2']:=b2;have Z:k2=k+1:=()
  subst Z;have hp:=I.hok.fresh (QZ s.1.1.size);have Y:e<s.1.1.size:=QV g;have m:∀b∈[e,j],b<s.1.1.size:=λb hb=>by simp only[QL,WS,or_false]at hb;rcases hb with rfl|rfl;exact Y;exact n.lt
  have kept:∀b o,b∉[e,j]->s.1.get? b=jr o->p.get? b=jr o:=λb o hb q=>by simp only[QL,WS,or_false,not_or]at hb;exact(G.2 b hb.1).trans (b5 b o hb.1 hb.2 q)
  have l:p.get? s.1.1.size=jr { cls:=.type "tuple",data:=.seq (qG [.int ((c+k:Nat):Int) W,y]) }:=(G.2 _ (w9 Y)).trans b3;have I1:=I.pair (x:=.int ((c+k:Nat):Int)) (h':=s.1.push { cls:=.type "tuple",data:=.seq (qG [.int ((c+k:Nat):Int) W,y]) }) (t':=W+1) (λb o e=>QH _ e) (QZ _) (QR _ rfl) #[_,rfl] ru;have I2:=I1.turnedL (h':=p) (t':=W+1) (ch:=[e,j]) (λb o hb e=>by
   rcases QBZ e with⟨q1,q2⟩| q;subst q1 q2;exact l;exact kept b o hb q) λb hb=>by
   let#[f0,f1,f2,f3,S,R]:=B b hb;exact#[by rw[xA (Qk (m b hb))];exact f0,f1,f2,f3,S,R]
  refine#[.ref s.1.1.size,_,I2,rfl,#[s.1.1.size,x,hp,rfl,rfl,λxs' g1=>?_],#[#[y,?_],b2.keep λo q=>(G.2 _ (Q1 L)).trans q],λb hb=>?_];rw[I.src_inj g1 C];exact ex;have:(((c+(k+1):Nat)):Int)=((c+k:Nat):Int)+1:=()
  rw[this];exact c1;rw[xA (Qk (m b hb))];exact(B b hb).1
 done:=by intro X O M Q hc i r s σ H E I B st N;subst O M Q;let#[xs,C,en]:=N;let#[f,J,F,_]:=I.src C;let#[#[a,g],n]:=st;have l1:=J.9;let#[f0,f1,f2,f3,S,R]:=B j (by simp);exact wpAny_pyNext_enum_endD (Mm (show X.A.in1.handled=kd from I.ok.hd hc) j z f.toArray 0 i (by simp;omega)) g #[rfl,n,F] λh' eb=>#[rfl,I.turned (t':=s.toks) (λb o hb e=>eb b o hb e) f0 f1 f3 S R]
 self:=λ_ _ _ _ _ st h=>by let#[#[a,g],_]:=st;exact QCL g h
end
theorem O3(z:Src)(xs:Array kt):Meets (Builtin.«enumerate.__new__» #[[.type "enumerate",.ref z.adr],[]]) (λ_ R s=>MB s.1 z xs /\
   R (.ok (.ret (.ref (s.1.push z.it).1.size))) { s with heap:=(s.1.push z.it).push { cls:=.type "enumerate",data:=.fields (qG [.none,.bool kn,.ref s.1.1.size,fv 0,.none,.none]) } }) :=
 .of_wp λy w A R s h=>by
  let#[b,g,d,v,a]:=s;let#[k,h]:=h;have u:=sub_enumerate;have x:MB (Shared.heap #[b,g,d,v,a]) z xs:=k;wp_walk;refine wpAny_stack_any λst=>QK ?_;split;rename_i cl _ _ _ _ _;cases(cl==Value.type "enumerate")<;>(wp_walk using yT x;exact#[_,rfl,h])
  wp_walk using yT x;exact#[_,rfl,h]
section
variable{prog:vb}{w:xb}{A:zq}{E:fC}{s:ko}
theorem sZ{h:xk}{z:Src}{n:Int}:IsEnum ((h.push z.it).push { cls:=.type "enumerate",data:=.fields (qG [.none,.bool kn,.ref h.1.size,fv n,.none,.none]) }) (h.1.size+1) h.1.size n .none:=by have:=QR (h.push z.it) (o:={ cls:=.type "enumerate",data:=.fields (qG [.none,.bool kn,.ref h.1.size,fv n,.none,.none]) }) rfl;rw[WN]at this;exact this
theorem MX{z:Src}{xs:Array kt}{Q:fC}(y:MB s.1 z xs)
  (h:∀h',vY (s.1.1.size+1) s.1.1.size z 0 0 h'->(∀c o,s.1.get? c=jr o->h'.get? c=jr o)->Q (.ref (s.1.1.size+1)) { s with heap:=h' }):k0 (k5 prog w) A (lj (.type "enumerate") [.ref z.adr]) Q E s:=by
 refine callType_new PySem.F.called_enumerate (by decide) (PySem.F.typeCall_enumerate_1 _) (PySem.F.newCall_enumerate_1 _) (λobj=>PySem.F.args_object_init_2 obj _) PySem.F.entry_enumerate_new (O3 z xs) #[y,?_];show _/\_;rw[WN];exact#[#[_,sZ,rfl],h _ #[#[.none,sZ],(Db s.1 z).keep λo e=>QH _ e] λc o x=>QH _ (QH _ x)]
end
theorem jAd{a b:Nat}(h:a≠b):((a:k4)≠(b:k4)):=h
theorem B1:pL (.type "list_reverseiterator") "__len__"=aj none:=by rw[px,QBO];kernel_rfl
theorem R8:pL (.type "list_reverseiterator") "__length_hint__"=aj (jr (.builtin "list_reverseiterator.__length_hint__")):=by rw[px,QBO];kernel_rfl
section
variable{d:vb}{a:xb}{u:zq}{g:fC}{h:ko}{f:fC}
noncomputable abbrev Fd:Obj:={ cls:=.type "list",data:=.seq #[] }
theorem EO{j l:k4}{xs:Array kt}(Q:u.handled=kd)(N:l≠j)(J:h.1.IsRevIter j l ((xs.size:Int) - 1))(B:h.1.IsList l xs)(P:xs.size<=ku)
  (k:∀s' r c,(∀b o,b≠j->h.1.get? b=jr o->s'.1.get? b=jr o)->s'.gens=h.gens->s'.drawn=h.drawn->s'.os=h.os ->
   s'.1.get? h.1.1.size=jr { cls:=.type "list",dict:=kd,data:=.seq r c,slots:=#[] }->ItemsOf (λi v=>xs[xs.size - 1 - i]?=jr v) r xs.size->f (.ref h.1.1.size) s') :
  k0 (k5 d a) u (lj (.type "list") [.ref j]) f g h:=by
 have W:=(Walks.listRev (prog:=d) (w:=a) (A:=u.in1.in1) Q j l N xs).toS;have ty:∀{i:Nat}{q:ko},(i<=xs.size/\q.1.IsRevIter j l ((xs.size:Int) - 1 - (i:Int))/\q.1.IsList l xs)->q.TypeIs (.ref j) "list_reverseiterator":=λz=>z.2.1.typeIs;let#[oj,H,_]:=id J;let#[ol,S,_]:=id B;have E:=QV H;have C:=QV S;generalize hn:h.1.1.size=n at E C k;have K:n∉[j,l]:=λz=>by rcases QL.mp z with z|z;exact qU _ (z▸E);exact qU _ (QJ.mp z▸C)
 have O:n≠j:=λz=>K (z▸QE);refine callType_codes (Q₁:=λp q=>p=.ref n/\q={ h with heap:=h.1.push Fd }) F.called_list (F.typeCall_list_1 _) F.entry_list_init (code_list_new _ #[by rw[hn],rfl]) ?_;rintro p q ⟨rfl,rfl⟩;have Y:(h.1.push Fd).get? n=jr Fd:=hn▸QR _ rfl;refine#[#[_,Y,rfl],F.args_list_init_2 _ _,?_];show k0 _ u.in1.in1 (do let Z <- QBB (.ref n);QA1 (.ref n) (λ_=>#[]);letGo Z.toList.reverse;WD (.ref n) (.ref j) .none) _ _ _;unfold QBB;refine QA (QA (QAZ Y rfl (QK (QA (m:=updateSeq n λ_=>#[]) (wpAny_updateSeq Y rfl (QA (QCl ?_)))))));have e1:=wU (Q6 λ_=>(#[]:Array kt)) Y rfl;have I:∀b o,b≠n->h.1.get? b=jr o->((h.1.push Fd).update n (Q6 λ_=>(#[]:Array kt))).get? b=jr o:=λb o z e=>(Wj _ _ (Q1 z)).trans (QH _ e);have L:0<=xs.size/\h.1.IsRevIter j l ((xs.size:Int) - 1 - ((0:Nat):Int))/\h.1.IsList l xs:=#[Qs _,by simpa using J,B]
 have s:=W.frame 0 h _ h.toks L (QZ _) λb hb o e=>I b o (λz=>K (z▸hb)) e;have M:Builtin.List.listSameRef (.ref n) (.ref j)=false:=beq_eq_false_iff_ne.mpr O;unfold WD Builtin.List.listLengthHint;refine QA (QBJ (ty s) ?_);rw[ot (by simp only[M];decide)];refine QA (W.self 0 _ _ _ s (QA (qk (QA (QBG (ty s) B1 ?_)))));show k0 _ _ (specialOf (.ref j) (QY "__length_hint__") >>= _) _ _ _;refine QA (QBG (ty s) R8 ?_);generalize hx:("list_reverseiterator.__length_hint__":String)=x
 wp_delta
 rw[show splitId x=jr ("list_reverseiterator","__length_hint__") by rw[<- hx];decide +kernel];subst hx;refine QA (W4 (b:=kb) (ty s) (by rw[isSubtype_type];kernel_rfl) (QK ?_));rw[ot (by decide)];refine QK #[QAz F.plain_extend_loop _,codeAny_extend_loopS W P _ K _ xs.size 0 _ _ _ rfl (Qs _) s e1 (ItemsOf.nil _) ?_];intro s' r c X R it;refine#[rfl,k s' r c (λb o z e=>?_) X.gens X.drawn X.os R it];have G:b<n:=hn▸QV e;exact X.1 b o (λm=>(QL.mp m).elim (λy=>qU _ (y▸G)) λy=>z (QJ.mp y)) (I b o (Qk G) e)
end
def cW(K:QC)(x:V)(H:Hp)(Q:VK):Prop:=∃p h,x=.ref p/\aC K H p h/\∀l,H l=kd->Q (.ref l) (CA H l (.lst h.reverse))
theorem y3{its:LW}{x:Array kt}(h:ItemsOf (λi v=>its.toArray[its.toArray.size - 1 - i]?=jr v) x its.toArray.size):x.toList=its.reverse:=by
 let#[y,z]:=h;have y:x.toList.9=its.length:=y;refine List.ext_getElem (by rw[y,wx]) λi a b=>?_;have:=z i x[i] (Array.getElem?_eq_getElem a);have e:its[its.9 - 1 - i]?=jr x[i]:=by simpa only[List.getElem?_toArray,QO]using this
 rw[Qi ()]at e;rw[List.getElem_reverse];exact(Ql e).symm
section
variable{X:Cx}{a:Expr}{ta:TE}{v p2 pos y:Pos}
theorem zk(hc:X.calm=kb)(g1:Gl X "list")(g2:Gl X "reversed")(P:X.mg "list"=kd)(O:X.mg "reversed"=kd)(ha:PE X a ta)(st:x0 [a] X.env=(kn,hB a X.env)::x0 [] X.env) :
  PE X (.Call (.Name "list" v) [.Call (.Name "reversed" p2) [a] [] y] [] pos) λσ H Q=>ta σ H λx E=>cW X.K x E Q:=by
 intro g s σ H Q I h;refine wG (nE I g1 P PyProof.Rows.boot_list ?_);refine qT ?_ rfl rfl;show k0 _ _ (l5 ((kn,hB (.Call (.Name "reversed" p2) [a] [] y) X.env)::[])) _ _ s;refine wR ?_;refine wG (nE I g2 O QAR ?_);refine qT ?_ st rfl;rw[st];show k0 _ _ (l5 ((kn,hB a X.env)::[])) _ _ s;refine wR (BB (ha g s σ H _ I h) λu f #[x,E,l,J,p,F,e,hq,q]=>WE ?_);subst e;cases J;let#[k,W,L,S]:=l.list hq;have C:=W.9;have hl:=L.isList;refine QB5 hl (WE ?_);let#[ol,n,_]:=id hl;have lt:=QV n;have M:p≠f.1.1.size:=Qk lt;have hd:X.A.handled=none:=l.ok.hd hc;have r:(f.1.push (p7 p ((k.toArray.size:Int) - 1))).IsList p k.toArray:=hl.at λo e=>QH _ e;have m:(f.1.push (p7 p ((k.toArray.size:Int) - 1))).IsRevIter f.1.1.size p ((k.toArray.size:Int) - 1 - ((0:Nat):Int)):=#[_,QR _ rfl,rfl,by simp[p7]]
 refine EO hd (by exact M) (by simpa using m) r (by rw[QO];omega) λZ j c' N e1 e2 e3 Y i=>?_;have ea:=y3 i;have R:∀b o,f.1.get? b=jr o->Z.1.get? b=jr o:=λb o e=>N b o (λz=>qU _ (z▸QV e)) (QH _ e);let#[B,gs,dr,G,oo]:=Z;cases e1;cases e2;cases e3;refine#[.ref (f.1.push (p7 p ((k.toArray.size:Int) - 1))).1.size,_,l.laid (t':=G) (h':=B) R (by rw[WN];omega) (show HA X.prog X.w _ B _ (.lst F.reverse) from#[by rw[wx];exact S,j.toList,c',by rw[ea];exact W.reverse,Y]),rfl,q _ (l.hok.fresh (by rw[WN];omega))]
end
noncomputable def jAB(K:QC)(a:k4)(n:Nat):It :=
 #[λi H=>i<n/\∃h x,aC K H a h/\h[n - 1 - i]?=jr x,λi H x y=>y=H/\∀h,aC K H a h->h[n - 1 - i]?=jr x,λi _=>n<=i]
theorem J5{P:vb}{w:xb}{K:QC}{L:Expr}(a it:k4)(n:Nat):Turn P w K L (jAB K a n) [it] it (λi h=>i<=n/\h.IsRevIter it a ((n:Int) - 1 - (i:Int))) where
 mem:=by simp
 obj:=λi h st b hb=>by
  have e:b=it:=by simpa using hb
  subst e;let#[_,o,e,c,d]:=st;exact#[o,e,λv z=>by rw[d]at z;cases z]
 keep:=λi h m st k=>#[st.1,st.2.at λo e=>k it (by simp) o e]
 item:=by intro X r q Y hc i f s F H E I l st j;subst r q Y;let#[hi,xs,x,J,G]:=j;let#[Q,N,p,hz]:=I.list J;let#[u,S,O]:=N.get G;let#[C,B,f2,A,W,Z]:=l it (by simp);have y:=st.2;rw[show(n:Int) - 1 - (i:Int)=((n - 1 - i:Nat):Int) by omega]at y;refine wpAny_pyNext_rev_item y p.isList (x:=u) (by simpa using S) λm g M=>?_;have I1:Inv X f F H { s with heap:=m }:=I.turned (t':=s.toks) (λb o hb e=>(M.2 b hb).trans e) C B A W Z;let#[o,e,c,d]:=id g;rw[show((n - 1 - i:Nat):Int) - 1=(n:Int) - 1 - ((i+1:Nat):Int) by omega]at g;exact#[u,rfl,go_of (s:={ s with heap:=m }) e c d (by decide) #[x,H,I1,O,#[rfl,λys R=>by rw[I.list_inj R J];exact G],#[hi,g],λb hb=>(l b hb).1]]
 done:=by intro X r q Y hc i f s F H E I l st j;subst r q Y;let#[C,B,f2,A,W,Z]:=l it (by simp);have j:n<=i:=j;have y:=st.2;rw[show(n:Int) - 1 - (i:Int)=-1 by have:=st.1;omega]at y;exact wpAny_pyNext_rev_end (I.ok.hd hc) y λm eb=>#[rfl,I.turned (t':=s.toks) (λb o hb e=>eb b o hb e) C B A W Z]
 self:=λ_ _ _ _ _ st h=>QBa st.2 h
inductive Bi where
 |len|any|min|sorted|tuple
 deriving DecidableEq
inductive Mt where
 |append|pop|setd|extend|index
 deriving DecidableEq
inductive ItK where
 |val|rng1|enum|itm|rev
 deriving DecidableEq
inductive Tg where
 |nm (i:Nat)|tp (is:LN)
 deriving DecidableEq
set_option genSizeOf false in
set_option genInjectivity false in
inductive PX where
 |var (i:Nat)|int (i:Int)|str (x:Str)|bl (b:Bool)|non
 |glo (x:Str)|bty (x:Str) (n:String)
 |bin (op:hE) (a b:PX)
 |cmp (op:bb) (a b:PX)
 |and (a b:PX)|or (a b:PX)|not (a:PX)|ife (c a b:PX)
 |call (f:Str) (as:PX)
 |bi (f:Bi) (as:PX)|isi (a c:PX)
 |mt (m:Mt) (o as:PX)
 |idx (a b:PX)|slc (a lo hi:PX)|nop
 |lst (as:PX)|tup (as:PX)|dnew (b:Bool)|dsp (a b:PX)
 |comp (mask:List Bool) (tgs:LS) (tg:Tg) (ik:ItK) (its cond elt:PX)
 |anil|acons (a as:PX)|mv (i:Nat)|ng (i:Int)|lrv (a:PX)
structure Ev where
 sp:Str->Sp
 va:Str->V
structure W3 where
 e:TE
 t:TT
 a:TA
def never:W3:=#[λ_ _ _=>False,λ_ _ _=>False,λ_ _ _=>False]
def OF(K:QC)(x:V)(H:Hp)(Q:Bool->Hp->Prop):Prop:=match x with
 | .bl b=>Q b H|.int i=>Q (i != 0) H|.non=>Q kn H|.str z=>z.9<=ku/\Q ((z.9:Int) != 0) H|x=>∃k,On K x H k/\Q k H
def U4(x:V)(H:Hp)(Q:Bool->Hp->Prop):Prop:=match x with
 | .bl b=>Q b H|_=>False
def xf(K:QC):hE->R2
 | .Add=>lq K|.Sub=>jq|.Mult=>xq K|.FloorDiv=>Af|.Mod=>uq|_=>λ_ _ _ _=>False
noncomputable def bZ(neg:Bool):R2:=λx y H Q=>match y with
 | .non=>Q (.bl (if neg then !decide (x=.non) else decide (x=.non))) H|.bl c=>∃b,x=.bl b/\Q (.bl (if neg then !decide (b=c) else decide (b=c))) H|_=>False
def V9(K:QC):bb->R2
 | .Eq=>rEq K kn|.NotEq=>rEq K kb|.Lt=>B0 λi j=>decide (i<j)|.LtE=>B0 λi j=>decide (i<=j)|.Gt=>B0 λi j=>decide (j<i)|.GtE=>B0 λi j=>decide (j<=i)|.In=>oT K kn|.NotIn=>oT K kb|.Is=>bZ kn|.IsNot=>bZ kb
def dW(K:QC):R2:=λx y H Q=>match x,y with
 | .str z,.int i=>z.9<=ku/\∃c,NC z.cps.toList i=jr c/\Q (.str #[(qG [c])]) H|.ref a,.int i=>∃h v,(aC K H a h∨yD K H a h)/\NC h i=jr v/\Q v H|.ref a,.str z=>∃v,YS K H a (.str z) (jr v)/\Q v H|.ref a,.ref b=>∃v,YS K H a (.ref b) (jr v)/\Q v H|_,_=>False
def KY(K:QC):LV->Hp->VK->Prop:=λk H Q=>∃p,k=[.ref p]/\((∃z:LS,aC K H p (z.map V.str)/\z.9<64/\∀l h,H l=kd->h.Perm z->Ia h=kb->Q (.ref l) (CA H l (.lst (h.map V.str)))) ∨
   (∃u,aC K H p u/\u.9<64/\(∀x∈u,∃a,∃z:LS,x=.ref a/\aC K H a (z.map V.str))/\∀l w,H l=kd->w.Perm u->Q (.ref l) (CA H l (.lst w))) ∨
   (∃v:LJ,aC K H p (v.map V.int)/\v.9<64/\∀l (y:LJ),H l=kd->y.Perm v->y.Pairwise (·<=·)->Q (.ref l) (CA H l (.lst (y.map V.int)))))
def f6(K:QC):LV->Hp->VK->Prop:=λx H Q=>∃p h,x=[.ref p]/\aC K H p h/\∀l,H l=kd->Q (.ref l) (CA H l (.tup h))
def gt(K:QC):Bi->LV->Hp->VK->Prop
 | .len=>bq K|.any=>gq K|.sorted=>KY K|.min=>λh H Q=>∃i j,h=[.int i,.int j]/\Q (.int (if j<i then j else i)) H|.tuple=>f6 K
def Tf:V->LV->Hp->VK->Prop:=λx y H Q=>∃l i h k v,x=.ref l/\y=[.int i]/\H l=jr (.lst h)/\FR h.9 i=jr k/\h[k]?=jr v/\Q v (CA H l (.lst (h.eraseIdx k)))
def Ef:V->LV->Hp->VK->Prop:=λx z H Q=>∃l b y h,x=.ref l/\z=[.ref b]/\H l=jr (.lst y)/\H b=jr (.lst h)/\y.9+h.9<=ku/\Q .non (CA H l (.lst (y++h)))
def n6:V->LV->Hp->VK->Prop:=λx u H Q=>∃z y i h,x=.str z/\u=[.str y]/\qE z y 0 z.9 1=i::h/\Q (.int (i:Int)) H
def Pd(K:QC):Mt->V->LV->Hp->VK->Prop
 | .append=>NQ|.pop=>Tf|.setd=>ML K|.index=>n6|.extend=>Ef
noncomputable def Mt.ty:Mt->String
 | .append=>"list"|.pop=>"list"|.setd=>"dict"|.index=>"str"|.extend=>"list"
def kN(x:V)(H:Hp)(Q:Option Int->Hp->Prop):Prop:=match x with
 | .int i=>Q (jr i) H|_=>False
inductive Item where
 |one (v:V)|tup (vs:LV)
def uC(K:QC):ItK->LV->Hp->(List Item->(Hp->Prop)->Hp->Prop)->Prop
 | .val,[.ref a],H,R=>(∃h,aC K H a h/\R (h.map .one) (λH=>aC K H a h) H)∨(∃h,yD K H a h/\R (h.map .one) (λH=>yD K H a h) H)∨(∃y,∃x:List KE,H a=jr (.dT y x)/\R (x.map λp=>.one (.ref p.2.1)) (λH=>H a=jr (.dT y x)) H)|.rng1,[.int j],H,R=>(-(2 ^ 62)<=j/\j<2 ^ 62)/\R ((Qm j.toNat).map λ(i:Nat)=>.one (.int (i:Int))) (λ_=>True) H|.enum,[.ref a],H,R=>∃z h,Src.adr z=a/\B4 K H z h/\R (h.zipIdx.map λp=>.tup [.int (p.2:Int),p.1]) (λH=>B4 K H z h) H|.rev,[.ref a],H,R=>∃h,aC K H a h/\R (h.reverse.map .one) (λH=>aC K H a h) H|.itm,[.ref a],H,R=>∃y,∃x:List KE,H a=jr (.dT y x)/\R (x.map λp=>.tup [.ref p.2.1,p.2.2]) (λH=>H a=jr (.dT y x)) H|_,_,_,_=>False
noncomputable def cB:LN->LV->St->Option St
 |[],[],σ=>jr σ|i::is,v::vs,σ=>cB is vs (σ.set i (jr v))|_,_,_=>kd
def CD(K:QC):Tg->TG
 | .nm i=>λv x H Q=>Q (x.set i (jr v)) H|.tp z=>λv x H Q=>match v with
  | .ref p=>∃y h,yD K H p y/\cB z y x=jr h/\Q h H|_=>False
def bindI(K:QC)(z:Tg):Item->St->Hp->(St->Hp->Prop)->Prop
 | .one v=>CD K z v|.tup y=>λx H Q=>match z with
  | .tp w=>∀u,Same H u->∃h,cB w y x=jr h/\Q h u|.nm i=>∀p,H p=kd->Q (x.set i (jr (.ref p))) (CA H p (.tup y))
def Ms(K:QC)(xs:List Item)(st:Hp->Prop)(bind:Item->St->Hp->(St->Hp->Prop)->Prop)(tc:TT)(te:TE)(σ:St)(H:Hp)(Q:VK):Prop :=
 ∃W:Nat->LV->Hp->Prop,W 0 [] H/\(∀i h H,i<=xs.9->W i h H->st H) /\
  (∀i x h H,xs[i]?=jr x->W i h H->bind x σ H λz u=>tc z u λb v=>if b=kb then te z v λy w=>h.9<ku/\W (i+1) (h++[y]) w else W (i+1) h v) /\
  ∀h u,W xs.9 h u->h.9<=ku/\∀p,u p=kd->Q (.ref p) (CA u p (.lst h))
structure Yields(J:It)(xs:List Item)(st:Hp->Prop):Prop where
 go:∀i H,st H->i<xs.9->J.go i H
 yld:∀i H x H',st H->i<xs.9->J.yld i H x H'->∃it,xs[i]?=jr it/\match it with
  | .one v=>x=v/\H'=H|.tup vs=>∃p,H p=kd/\x=.ref p/\H'=CA H p (.tup vs)
 stop:∀i H,st H->xs.9<=i->J.stop i H
def Os(J:It)(g:TG)(tc:TT)(te:TE)(k:St)(l:Hp)(Q:VK):Prop:=∃W:Nat->Nat->LV->St->Hp->Prop,(∃m,W 0 m [] k l) /\
 ∀i m h v u,W i m h v u->(J.stop i u/\h.9<=ku/\∀p,u p=kd->Q (.ref p) (CA u p (.lst h))) ∨
  (J.go i u/\∀x e,J.yld i u x e->g x v e λz j=>tc z j λb a=>if b=kb then te z a λy f=>h.9<ku/\∃w,w < m/\W (i+1) w (h++[y]) z f else ∃w,w < m/\W (i+1) w h z a)
def LZ(K:QC)(xs:List Item)(st:Hp->Prop)(x:Tg)(tc:TT)(te:TE)(h:St)(H:Hp)(Q:VK):Prop:=∀J,Yields J xs st->Os J (CD K x) tc te h H Q
def isNop:PX->Bool
 | .nop=>kb|_=>kn
def wp(K:QC)(Γ:Ev):PX->XK->W3
 | .mv i,E=>#[λh H Q=>match h[i]? with
   |some (jr v)=>Q v H|_=>False,never.t,never.a]
 | .var i,E=>let e:TE:=λh H Q=>match h[i]? with
   |some (jr v)=>Q v H|_=>False
  #[e,λh H Q=>e h H λx z=>OF K x z Q,never.a]
 | .int i,E=>#[λ_ H Q=>Q (.int i) H,λ_ H Q=>Q (i != 0) H,never.a]|.str x,E=>#[λ_ H Q=>Q (.str x) H,never.t,never.a]|.bl b,E=>#[λ_ H Q=>Q (.bl b) H,λ_ H Q=>Q b H,never.a]|.non,E=>#[λ_ H Q=>Q .non H,λ_ H Q=>Q kn H,never.a]|.glo x,E=>#[λ_ H Q=>Q (Γ.va x) H,λ_ H Q=>OF K (Γ.va x) H Q,never.a]|.bty _ n,E=>#[λ_ H Q=>Q (.ty n) H,never.t,never.a]|.bin op a b,E=>let e:TE:=λh H Q=>(wp K Γ a E).e h H λx z=>(wp K Γ b E).e h z λy w=>xf K op x y w Q
  #[e,λh H Q=>e h H λx z=>OF K x z Q,never.a]
 | .cmp op a b,E=>let e:TE:=λh H Q=>(wp K Γ a E).e h H λx z=>(wp K Γ b E).e h z λy w=>V9 K op x y w Q
  #[e,λh H Q=>e h H λx z=>U4 x z Q,never.a]
 | .and a b,E=>#[λh H Q=>(wp K Γ a E).e h H λx z=>U4 x z λc w=>if c=kb then(wp K Γ b E).e h w Q else Q (.bl kn) w,
   λh H Q=>(wp K Γ a E).t h H λc z=>if c=kb then(wp K Γ b E).t h z Q else Q kn z,never.a]
 | .or a b,E=>#[λh H Q=>(wp K Γ a E).e h H λx z=>U4 x z λc w=>if c=kb then Q (.bl kb) w else(wp K Γ b E).e h w Q,
   λh H Q=>(wp K Γ a E).t h H λc z=>if c=kb then Q kb z else(wp K Γ b E).t h z Q,never.a]
 | .not a,E=>#[λh H Q=>(wp K Γ a E).e h H λx z=>OF K x z λc w=>Q (.bl (!c)) w,λh H Q=>(wp K Γ a E).t h H λc z=>Q (!c) z,never.a]|.ife c a b,E=>#[λh H Q=>(wp K Γ c E).t h H λk z=>if k=kb then(wp K Γ a E).e h z Q else(wp K Γ b E).e h z Q,never.t,never.a]|.call f as,E=>let e:TE:=λh H Q=>(wp K Γ as E).a h H λj z=>Γ.sp f j z Q E
  #[e,λh H Q=>e h H λx z=>OF K x z Q,never.a]
 | .bi f as,E=>let e:TE:=λh H Q=>(wp K Γ as E).a h H λj z=>gt K f j z Q
  #[e,λh H Q=>e h H λx z=>OF K x z Q,never.a]
 | .isi a c,E=>let e:TE:=λh H Q=>(wp K Γ a E).e h H λx z=>(wp K Γ c E).e h z λy w=>Bj K [x,y] w Q
  #[e,λh H Q=>e h H λx z=>OF K x z Q,never.a]
 | .mt m o as,E=>let e:TE:=λh H Q=>(wp K Γ o E).e h H λx z=>RZ K m.ty x z/\(wp K Γ as E).a h z λj w=>Pd K m x j w Q
  #[e,λh H Q=>e h H λx z=>OF K x z Q,never.a]
 | .idx a b,E=>let e:TE:=λh H Q=>(wp K Γ a E).e h H λx z=>(wp K Γ b E).e h z λy w=>dW K x y w Q
  #[e,λh H Q=>e h H λx z=>OF K x z Q,never.a]
 | .slc a lo hi,E=>#[λh H Q=>(wp K Γ a E).e h H λx z =>
   (if isNop lo=kb then λ(R:Option Int->Hp->Prop)=>R kd z else λR=>(wp K Γ lo E).e h z λl w=>kN l w R) λl w =>
   (if isNop hi=kb then λ(R:Option Int->Hp->Prop)=>R kd w else λR=>(wp K Γ hi E).e h w λu q=>kN u q R) λu q=>aw K x l u q Q,never.t,never.a]
 | .nop,E=>never|.lst as,E=>#[λh H Q=>(wp K Γ as E).a h H λg z=>g.9<=ku/\∀p,z p=kd->Q (.ref p) (CA z p (.lst g)),never.t,never.a]|.tup as,E=>#[λh H Q=>(wp K Γ as E).a h H λg z=>g.9<=ku/\∀p,z p=kd->Q (.ref p) (CA z p (.tup g)),never.t,never.a]|.comp mask tgs tg ik its cond elt,E=>#[λh H Q=>(wp K Γ its E).a h H λj z=>uC K ik j z λg st w =>
   LZ K g st tg (if isNop cond=kb then λ_ H Q=>Q kb H else(wp K Γ cond (λ_ _ _=>False)).t) (wp K Γ elt (λ_ _ _=>False)).e (nJ tgs.9 mask h) w Q,never.t,never.a]
 | .dnew b,E=>#[λ_ H Q=>∀p,H p=kd->Q (.ref p) (CA H p (.dT 0 [])),never.t,never.a]|.dsp a b,E=>#[λh H Q=>∀p,H p=kd->(wp K Γ a E).e h (CA H p (.dT 0 [])) λy z=>(wp K Γ b E).e h z λv w=>w p=jr (.dT 0 [])/\∃b r,y=.ref b/\jP K w b r/\∀s,Q (.ref p) (CA w p (.dT s [(r,b,v)])),never.t,never.a]|.ng i,E=>#[λh H Q=>Q (.int (-i)) H,never.t,never.a]|.lrv a,E=>#[λh H Q=>(wp K Γ a E).e h H λx z=>cW K x z Q,never.t,never.a]|.anil,E=>#[never.e,never.t,λ_ H Q=>Q [] H]|.acons a as,E=>#[never.e,never.t,λh H Q=>(wp K Γ a E).e h H λx z=>(wp K Γ as E).a h z λg w=>Q (x::g) w]
structure Glob where
 ev:Ev
 fn:Str->Prop
 val:Str->Prop
 no:Str->Prop
noncomputable def Bi.nm:Bi->Str
 | .len=>"len"|.any=>"any"|.sorted=>"sorted"|.min=>"min"|.tuple=>"tuple"
noncomputable def Mt.nm:Mt->Str
 | .append=>"append"|.pop=>"pop"|.setd=>"setdefault"|.index=>"index"|.extend=>"extend"
def Sr(G:Glob):ItK->Prop
 | .val=>True|.rng1=>G.no "range"|.enum=>G.no "enumerate"|.rev=>G.no "reversed"|.itm=>True
def EA(G:Glob):PX->Prop
 | .glo x=>G.val x|.bty x n=>G.no x/\gp x=jr (.type n)|.bin _ a b | .cmp _ a b | .and a b | .or a b | .idx a b | .acons a b | .dsp a b=>EA G a/\EA G b
 | .not a | .lst a | .tup a=>EA G a
 | .lrv a=>G.no "list"/\G.no "reversed"/\EA G a|.ife a b c | .slc a b c=>EA G a/\EA G b/\EA G c
 | .call f y=>G.fn f/\EA G y|.bi f y=>G.no f.nm/\EA G y|.isi a c=>G.no "isinstance"/\EA G a/\EA G c|.mt _ o y=>EA G o/\EA G y|.comp _ _ _ v z h u=>Sr G v/\EA G z/\EA G h/\EA G u|_=>True
structure SC where
 N:LS
 sc:hQ
def mC:Expr->Bool
 | .Starred _ _=>kn|_=>kb
noncomputable def db(S:SC)(i:Nat)(x:Str):Bool :=
 S.N[i]?==jr x&&(S.sc.names.lookup x==jr .local||S.sc.names.lookup x==jr .cell||S.sc.names.lookup x==jr .free)&&x != "__debug__" && x != "__classdict__"
noncomputable def Nl(S:SC)(i:Nat)(x:Str):Bool:=S.N[i]?==jr x&&S.sc.names.lookup x==jr .local
noncomputable def YU(S:SC)(x:Str):Bool:=S.sc.names.lookup x==jr .globalImplicit&&x != "__debug__" && x != "__name__"
def KZ(S:SC)(h:hQ)(y:LS)(x:List Bool):SC:=#[y++VB x 0 S.N,UM h S.sc]
def jK:LS->Bool
 |[]=>kb|x::r=>!r.contains x&&jK r
def Z9(S:SC)(h:hQ)(z:LS)(x:List Bool):Bool :=
 h.kind==.function&&h.names.all (λy=>y.2 != .cell&&(y.2 != .local||(h.names.lookup y.1==jr .local&&(z.contains y.1||y.1==(".0":Str)))) &&
  (y.2 != .free||S.sc.names.lookup y.1==jr .cell||S.sc.names.lookup y.1==jr .free))&&jK (z++VB x 0 S.N)&&!(z++VB x 0 S.N).contains (".0":Str)
noncomputable def ao(c:Bool)(S:SC)(i:Nat)(x:Str):Bool:=S.N[i]?==jr x&&(S.sc.names.lookup x==jr .local||(c&&S.sc.names.lookup x==jr .cell))
def Zu(c:Bool)(S:SC):Tg->Expr->Bool
 | .nm i,.Name x _=>ao c S i x|.tp is,.Tuple es _ _=>is.9==es.9&&(is.zip es).all λp=>match p.2 with
  | .Name x _=>ao c S p.1 x|_=>kn
 |_,_=>kn
noncomputable def gR:Expr->Bool
 | .Call (.Name _ _) [] [] _=>kn|_=>kb
def XT:Expr->Bool
 | .Set _ _ _=>kn|_=>kb
def lR:Expr->Bool
 | .Slice _ _ _ _=>kn|_=>kb
def gF:PX->Bool
 | .anil=>kb|.acons _ r=>gF r|_=>kn
def HR:Expr->Bool
 | .Tuple _ _ _=>kb|_=>kn
section
variable{α:Type}
section
variable{e:Expr}{l:List α}
noncomputable def iD(e:Expr)(f:Str->Pos->Bool):Bool:=match e with | .Name x p=>f x p|_=>kn
noncomputable def yH(e:Expr)(f:tj->Bool):Bool:=match e with | .Constant c _ _=>f c|_=>kn
noncomputable def og(e:Expr)(f:Expr->hE->Expr->Pos->Bool):Bool:=match e with | .BinOp l o r p=>f l o r p|_=>kn
noncomputable def Zk(e:Expr)(f:th->Expr->Bool):Bool:=match e with | .UnaryOp o x _=>f o x|_=>kn
noncomputable def lg(e:Expr)(f:Expr->List bb->List Expr->Bool):Bool:=match e with | .Compare l x h _=>f l x h|_=>kn
noncomputable def YW(e:Expr)(f:BoolOp->List Expr->Pos->Bool):Bool:=match e with | .BoolOp o h p=>f o h p|_=>kn
noncomputable def Bq(e:Expr)(f:Expr->Expr->Expr->Bool):Bool:=match e with | .IfExp t l r _=>f t l r|_=>kn
noncomputable def JW(e:Expr)(f:Expr->List Expr->List l8->Pos->Bool):Bool:=match e with | .Call g x h p=>f g x h p|_=>kn
noncomputable def b7(e:Expr)(f:Expr->Str->Pos->Bool):Bool:=match e with | .Attribute v n p=>f v n p|_=>kn
noncomputable def NY(e:Expr)(f:Expr->Expr->Pos->Bool):Bool:=match e with | .Subscript v i p=>f v i p|_=>kn
noncomputable def OY(e:Expr)(f:Option Expr->Option Expr->Option Expr->Bool):Bool:=match e with | .Slice l h s _=>f l h s|_=>kn
noncomputable def xR(e:Expr)(f:List Expr->Pos->Bool):Bool:=match e with | .List h p=>f h p|_=>kn
noncomputable def MY(e:Expr)(f:List Expr->Nat->Pos->Bool):Bool:=match e with | .Tuple h k p=>f h k p|_=>kn
noncomputable def Kk(e:Expr)(f:Expr->List ri->hQ->Pos->Bool):Bool:=match e with | .ListComp x h sc p=>f x h sc p|_=>kn
noncomputable def iW(e:Expr)(f:List (Option Expr)->List Expr->Bool):Bool:=match e with | .Dict x h _=>f x h|_=>kn
noncomputable def iL(l:List α)(f:α->Bool):Bool:=match l with | [x]=>f x|_=>kn
noncomputable def xz(l:List α)(f:α->α->Bool):Bool:=match l with | [x,y]=>f x y|_=>kn
noncomputable def v7(l:List α)(f:α->List α->Bool):Bool:=match l with|x::r=>f x r|_=>kn
noncomputable def Uq(o:Option α)(n:Bool)(f:α->Bool):Bool:=match o with|none=>n|some x=>f x
theorem jC{f:Str->Pos->Bool}(h:iD e f=kb):∃x p,e=.Name x p/\f x p=true:=by
 cases e with|Name x p=>exact#[x,p,rfl,h]|_=>exact(QG h).elim
theorem UE{f:tj->Bool}(h:yH e f=kb):∃c k p,e=.Constant c k p/\f c=true:=by
 cases e with|Constant c k p=>exact#[c,k,p,rfl,h]|_=>exact(QG h).elim
theorem Sc{f:Expr->hE->Expr->Pos->Bool}(h:og e f=kb):∃l o r p,e=.BinOp l o r p/\f l o r p=true:=by
 cases e with|BinOp l o r p=>exact#[l,o,r,p,rfl,h]|_=>exact(QG h).elim
theorem z7{f:th->Expr->Bool}(h:Zk e f=kb):∃o x p,e=.UnaryOp o x p/\f o x=true:=by
 cases e with|UnaryOp o x p=>exact#[o,x,p,rfl,h]|_=>exact(QG h).elim
theorem Rc{f:Expr->List bb->List Expr->Bool}(h:lg e f=kb):∃l y x p,e=.Compare l y x p/\f l y x=true:=by
 cases e with|Compare l y x p=>exact#[l,y,x,p,rfl,h]|_=>exact(QG h).elim
theorem JT{f:BoolOp->List Expr->Pos->Bool}(h:YW e f=kb):∃o es p,e=.BoolOp o es p/\f o es p=true:=by
 cases e with|BoolOp o es p=>exact#[o,es,p,rfl,h]|_=>exact(QG h).elim
theorem Vk{f:Expr->Expr->Expr->Bool}(h:Bq e f=kb):∃t l r p,e=.IfExp t l r p/\f t l r=true:=by
 cases e with|IfExp t l r p=>exact#[t,l,r,p,rfl,h]|_=>exact(QG h).elim
theorem iT{f:Expr->List Expr->List l8->Pos->Bool}(h:JW e f=kb):∃g es ks p,e=.Call g es ks p/\f g es ks p=true:=by
 cases e with|Call g es ks p=>exact#[g,es,ks,p,rfl,h]|_=>exact(QG h).elim
theorem u7{f:Expr->Str->Pos->Bool}(h:b7 e f=kb):∃v n p,e=.Attribute v n p/\f v n p=true:=by
 cases e with|Attribute v n p=>exact#[v,n,p,rfl,h]|_=>exact(QG h).elim
theorem vR{f:Expr->Expr->Pos->Bool}(h:NY e f=kb):∃v i p,e=.Subscript v i p/\f v i p=true:=by
 cases e with|Subscript v i p=>exact#[v,i,p,rfl,h]|_=>exact(QG h).elim
theorem A0{f:Option Expr->Option Expr->Option Expr->Bool}(h:OY e f=kb):∃l u s p,e=.Slice l u s p/\f l u s=true:=by
 cases e with|Slice l u s p=>exact#[l,u,s,p,rfl,h]|_=>exact(QG h).elim
theorem dN{f:List Expr->Pos->Bool}(h:xR e f=kb):∃es p,e=.List es p/\f es p=true:=by
 cases e with|List es p=>exact#[es,p,rfl,h]|_=>exact(QG h).elim
theorem kR{f:List Expr->Nat->Pos->Bool}(h:MY e f=kb):∃es k p,e=.Tuple es k p/\f es k p=true:=by
 cases e with|Tuple es k p=>exact#[es,k,p,rfl,h]|_=>exact(QG h).elim
theorem eW{f:Expr->List ri->hQ->Pos->Bool}(h:Kk e f=kb):∃x y sc p,e=.ListComp x y sc p/\f x y sc p=true:=by
 cases e with|ListComp x y sc p=>exact#[x,y,sc,p,rfl,h]|_=>exact(QG h).elim
theorem eT{f:List (Option Expr)->List Expr->Bool}(h:iW e f=kb):∃ks vs p,e=.Dict ks vs p/\f ks vs=true:=by
 cases e with|Dict ks vs p=>exact#[ks,vs,p,rfl,h]|_=>exact(QG h).elim
theorem XH{f:α->List α->Bool}(h:v7 l f=kb):∃x r,l=x::r/\f x r=true:=by
 cases l with|nil=>exact(QG h).elim|cons x r=>exact#[x,r,rfl,h]
theorem aB{f:α->Bool}(h:iL l f=kb):∃x,l=[x]/\f x=true:=by
 cases l with
 |nil=>exact(QG h).elim|cons x r =>
  cases r with|nil=>exact#[x,rfl,h]|cons _ _=>exact(QG h).elim
theorem Cq{f:α->α->Bool}(h:xz l f=kb):∃x y,l=[x,y]/\f x y=true:=by
 cases l with
 |nil=>exact(QG h).elim|cons x r =>
  let#[y,e,h]:=aB (l:=r) (f:=f x) (by
   cases r with|nil=>exact h|cons y r=>cases r<;>exact h)
  exact#[x,y,by rw[e],h]
end
end
section
variable{c:tj}{n:Str}{e:Expr}
noncomputable def dn(c:tj)(f:Int->Bool):Bool:=match c with | .int i=>f i|_=>kn
noncomputable def vt(c:tj)(f:Str->Bool):Bool:=match c with | .str i=>f i|_=>kn
noncomputable def dh(c:tj)(f:Bool->Bool):Bool:=match c with | .bool i=>f i|_=>kn
def bh(c:tj):Bool:=match c with | .none=>kb|_=>kn
theorem M9{f:Int->Bool}(h:dn c f=kb):∃i,c=.int i/\f i=true:=by
 cases c with|int i=>exact#[i,rfl,h]|_=>exact(QG h).elim
theorem cn{f:Str->Bool}(h:vt c f=kb):∃i,c=.str i/\f i=true:=by
 cases c with|str i=>exact#[i,rfl,h]|_=>exact(QG h).elim
theorem yf{f:Bool->Bool}(h:dh c f=kb):∃i,c=.bool i/\f i=true:=by
 cases c with|bool i=>exact#[i,rfl,h]|_=>exact(QG h).elim
theorem jf(h:bh c=kb):c=.none:=by
 cases c with|none=>rfl|_=>exact(QG h).elim
theorem jA{a b:Bool}(h:(a&&b)=kb):a=kb/\b=true:=by cases a<;>cases b<;>first|exact#[rfl,rfl]| exact(QG h).elim
def sJ(S:SC)(n:Str)(e:Expr)(f:List Expr->List l8->Pos->Bool):Bool:=JW e λg y h p=>iD g λx _=>n==x&&(YU S x&&f y h p)
theorem uE{S:SC}{f:List Expr->List l8->Pos->Bool}(h:sJ S n e f=kb):∃y es ks p,e=.Call (.Name n y) es ks p/\YU S n=kb/\f es ks p=true:=by let#[g,es,ks,p,rfl,w]:=iT h;let#[x,y,rfl,v]:=jC w;have u:=jA v;have z:=jA u.2;have e:=qb u.1;exact#[y,es,ks,p,by rw[e],by rw[e];exact z.1,z.2]
def j8(n:Str)(e:Expr)(f:Expr->List Expr->Pos->Pos->Bool):Bool:=JW e λg z y p=>b7 g λv x h=>n==x&&(y.isEmpty&&(h.endLine==p.line&&f v z h p))
theorem IY{f:Expr->List Expr->Pos->Pos->Bool}(h:j8 n e f=kb):∃v y es p,e=.Call (.Attribute v n y) es [] p/\(y.endLine==p.line)=kb/\f v es y p=true:=by let#[g,es,i,p,rfl,a]:=iT h;let#[v,x,y,rfl,k]:=u7 a;have w:=jA k;have u:=jA w.2;have z:=jA u.2;have e:=qb w.1;have b:=Qt.mp u.1;exact#[v,y,es,p,by rw[e,b],z.1,z.2]
noncomputable def Vg(x:BoolOp)(r:Expr)(h:List Expr)(pos:Pos):Expr:=match h with
 |[]=>r|q::t=>.BoolOp x (r::q::t) pos
def Cu(y:Bool)(S:SC)(z:ItK)(c:List Expr->Pos->Bool)(t it:Expr)(pos:Pos):Bool:=match z with
 | .val=>y&&c [it] pos|.rng1=>sJ S "range" it λh x p=>x.isEmpty&&iL h λa=>c [a] p|.enum=>HR t&&sJ S "enumerate" it λh x p=>x.isEmpty&&iL h λa=>c [a] p|.rev=>sJ S "reversed" it λh x p=>x.isEmpty&&iL h λa=>c [a] p|.itm=>HR t&&(y&&j8 "items" it λv h _ p=>gR v&&(h.isEmpty&&c [v] p))
noncomputable def zx(h:List Expr)(n:Bool)(f:Expr->Bool):Bool:=match h with
 |[]=>n|c::r=>r.isEmpty&&(!n&&f c)
def isItm:ItK->Bool
 | .itm=>kb|_=>kn
def KB:PX->SC->Expr->Bool
 | .var i,S,e=>iD e λx _=>db S i x|.mv i,S,e=>iD e λx _=>db S i x|.int i,_,e=>yH e λc=>dn c λj=>i==j|.str x,_,e=>yH e λc=>vt c λy=>x==y|.bl b,_,e=>yH e λc=>dh c λk=>b==k|.non,_,e=>yH e bh|.glo x,S,e=>iD e λy _=>x==y&&YU S x|.bty x _,S,e=>iD e λy _=>x==y&&YU S x|.bin op a b,S,e=>og e λl o r _=>op==o&&(KB a S l&&KB b S r)|.cmp op a b,S,e=>lg e λl Z Y=>iL Z λo=>iL Y λr=>op==o&&(XT r&&(KB a S l&&KB b S r))|.and a b,S,e=>YW e λo z p=>o==.And&&v7 z λl t=>v7 t λr t=>KB a S l&&KB b S (Vg .And r t p)|.or a b,S,e=>YW e λo z p=>o==.Or&&v7 z λl t=>v7 t λr t=>KB a S l&&KB b S (Vg .Or r t p)|.not a,S,e=>Zk e λo x=>o==.Not&&KB a S x|.ife c a b,S,e=>Bq e λt l r=>KB c S t&&(KB a S l&&KB b S r)|.call f as,S,e=>sJ S f e λz w p=>w.isEmpty&&KB as S (.List z p)|.bi f as,S,e=>sJ S f.nm e λz w p=>w.isEmpty&&v7 z λx t=>KB as S (.List (x::t) p)|.isi a c,S,e=>sJ S "isinstance" e λz w _=>w.isEmpty&&xz z λl r=>mC l&&(mC r&&(KB a S l&&KB c S r))|.mt m o as,S,e=>j8 m.nm e λv z _ p=>gF as&&(gR v&&(decide (z.9<20)&&(KB o S v&&KB as S (.List z p))))|.idx a b,S,e=>NY e λv i _=>lR i&&(KB a S v&&KB b S i)|.slc a lo hi,S,e=>NY e λv X _=>OY X λl h s=>s.isNone&&(KB a S v&&(Uq l (isNop lo) (λe=>!isNop lo&&KB lo S e)&&Uq h (isNop hi) λe=>!isNop hi&&KB hi S e))|.nop,_,_=>kn|.lst as,S,e=>xR e λz p=>KB as S (.List z p)|.tup as,S,e=>MY e λz _ p=>KB as S (.List z p)|.comp mask tgs tg ik its cond elt,S,e=>Kk e λK W u p=>iL W λg=>g.is_async==0&&(!isItm ik&&(Z9 S u tgs mask&&(Zu kn (KZ S u tgs mask) tg g.target&&(XT g.iter &&
   (Cu (gF its) S ik (λz p=>KB its S (.List z p)) g.target g.iter p&&(zx g.ifs (isNop cond) (λc=>KB cond (KZ S u tgs mask) c)&&KB elt (KZ S u tgs mask) K))))))
 | .dnew _,_,e=>iW e λw q=>w.isEmpty&&q.isEmpty|.dsp a b,S,e=>iW e λw q=>iL w λk=>iL q λv=>Uq k kn (KB a S)&&KB b S v|.ng i,_,e=>Zk e λo x=>o==.USub&&yH x λc=>dn c λj=>i==j|.lrv a,S,e=>sJ S "list" e λz w _=>w.isEmpty&&iL z λx=>sJ S "reversed" x λz w _=>w.isEmpty&&iL z λy=>mC y&&KB a S y|.anil,_,e=>xR e λz _=>z.isEmpty|.acons a as,S,e=>xR e λz p=>v7 z λx t=>mC x&&(KB a S x&&KB as S (.List t p))
end
variable{Γ:Ev}
theorem Gn(x:V)(H:Hp)(Q:Bool->Hp->Prop):U4 x H Q=∃k,x=.bl k/\Q k H:=by
 apply o9;cases x with|bl b=>exact#[λh=>#[b,rfl,h],λ#[k,e,h]=>by cases e;exact h]|_=>exact#[λh=>Qf h,λ#[k,e,h]=>by cases e]
theorem O6(x:V)(H:Hp)(Q:Option Int->Hp->Prop):kN x H Q=∃i,x=.int i/\Q (jr i) H:=by
 apply o9;cases x with|int b=>exact#[λh=>#[b,rfl,h],λ#[k,e,h]=>by cases e;exact h]|_=>exact#[λh=>Qf h,λ#[k,e,h]=>by cases e]
theorem mY(K:QC)(x:V)(H:Hp)(Q:Bool->Hp->Prop):OF K x H Q=∃k,On K x H k/\Q k H:=by
 apply o9;cases x with|bl b=>exact#[λh=>#[b,rfl,h],λ#[k,(e:k=b),h]=>by subst e;exact h]|int i=>exact#[λh=>#[i != 0,rfl,h],λ#[k,(e:k=(i != 0)),h]=>by subst e;exact h]|non=>exact#[λh=>#[kn,rfl,h],λ#[k,(e:k=kn),h]=>by subst e;exact h]|str z=>exact#[λh=>#[_,#[h.1,rfl],h.2],λ#[k,#[u,y],h]=>by subst y;exact#[u,h]]|_=>exact WJ
section
variable{X:Cx}
section
variable{e b:Expr}{es:List Expr}{env:Env}{its:LW}
theorem G6:PE X e never.e:=λ_ _ _ _ _ _ h=>Qf h
theorem FM:PT X e never.t:=λ_ _ _ _ _ _ h=>Qf h
theorem rT:PA X es never.a:=λ_ _ _ _ _ _ _ h=>Qf h
theorem aD{a:Expr}{ta:TE}(i:PE X a ta)(g:∀y,isTrue a X.env y=(do let v <- y;standAt a.pos;tv [v] (truthy v))) :
  PT X a (λσ H Q=>ta σ H λx l=>OF X.K x l Q):=by
 intro z s σ H Q I h;refine isTrue_plain (BB (i z s σ H _ I h) λv k #[x,w,j,f,u]=>?_) (g _);have u:OF X.K x w Q:=u;rw[mY]at u;exact Y5 z k σ w x v Q j f u
theorem E6{f:kt->kt->Sem kt}:EE X f (λ_ _ _ _=>False):=λ_ _ _ _ _ _ _ _ _ _ _ _ h=>h.elim
theorem Jk(h:hE):EE X (fm h) (xf X.K h):=by
 cases h with|Add=>exact op_add|Sub=>exact op_sub|Mult=>exact nk|FloorDiv=>exact Hc|Mod=>exact op_mod|_=>exact E6
theorem pU(neg:Bool){h:SB}{s:ko}{σ:St}{H:Hp}{b c:Bool}{Q:VK}(I:Inv X h σ H s)(q:Q (.bl (if neg then !decide (b=c) else decide (b=c))) H):k0 (k5 X.prog X.w) X.A (vu (if neg then .IsNot else .Is) (.bool b) (.bool c)) (EP X h σ Q) X.xe s:=by
 have e:vu (if neg then .IsNot else .Is) (.bool b) (.bool c)=aj (.bool (if neg then !decide (b=c) else decide (b=c))):=by cases neg<;>cases b<;>cases c<;>rfl
 rw[e];exact QK #[.bl _,H,I,rfl,q]
theorem j7(g:X.A.units+66<hZ)(f:bb):EE X (vu f) (V9 X.K f):=by
 cases f with
 |Eq=>exact op_eq ()|NotEq=>exact op_ne ()|Lt=>exact jR _root_.L2.op_lt|LtE=>exact jR _root_.L2.op_le|Gt=>exact jR _root_.L2.op_gt|GtE=>exact jR _root_.L2.op_ge|In=>exact Kq g|NotIn=>exact A6 g|Is =>
  intro z s a H x y v u Q I k w h;cases y with|non=>exact pk z s a H x _ v u Q I k w #[rfl,h]|bl c=>let#[b,rfl,q]:=h;cases k;cases w;cases b<;>cases c<;>exact pU kn I q|_=>exact Qf h
 |IsNot =>
  intro z s a H x y v u Q I k w h;cases y with|non=>exact Gc z s a H x _ v u Q I k w #[rfl,h]|bl c=>let#[b,rfl,q]:=h;cases k;cases w;cases b<;>cases c<;>exact pU kb I q|_=>exact Qf h
theorem gm(Y:X.A.units+66<hZ):Va X (dW X.K):=by
 intro w k f s n H x y v u Q I r p h hs;have sq:=λh=>cm (X:=X) w k f s n H x y v u Q I r p h hs;have dc:=λh=>ue Y w k f s n H x y v u Q I r p h hs;cases x with
 |str z =>
  cases y with|int i=>let#[Z,c,m,q]:=h;exact sq (.inr (.inr #[z,i,c,rfl,rfl,Z,m,q]))|_=>exact Qf h
 |ref a =>
  cases y with
  |int i=>let#[o,j,l,m,q]:=h;rcases l with l|l;exact sq (.inl #[a,o,i,j,rfl,rfl,l,m,q]);exact sq (.inr (.inl #[a,o,i,j,rfl,rfl,l,m,q]))
  |str z=>let#[j,g,q]:=h;exact dc #[a,j,rfl,g,q]|ref b=>let#[j,g,q]:=h;exact dc #[a,j,rfl,g,q]|_=>exact Qf h
 |_=>exact Qf h
theorem F7{x:bb}(h:XT b=kb):mm x b=false:=by cases b<;>first|rfl|cases h
theorem cc(h:lR b=kb):HZ b:=by intro o i;cases b<;>first|rfl|cases h
theorem NA(env:Env)(h:mC e=kb):x0 (e::es) env=(kn,hB e env)::x0 es env:=by cases e<;>first|rfl|cases h
theorem UW(h:XT e=kb)(x:kt):fy e env x=aj x:=by cases e<;>first|rfl|cases h
theorem D7{o:Expr}{n:Str}(h:gR o=kb):ca o n env (hB o env)=hB o env:=by unfold ca;split;cases h;rfl
theorem Nd:Ja X "list.pop" Tf:=by intro z s f H x u v g Q I j m h;let#[l,i,u,k,y,rfl,rfl,a,hk,n,q]:=h;let#[o,Y,r,p]:=DR hk;have hl:u.9<=sizeLine:=(show HA X.prog X.w H s.1 l (.lst u) from I.hok l _ a).1;rw[qC]at hl;exact A7 z s f H _ _ v g Q I j m #[l,u,i,k,y,rfl,rfl,a,(),(),o,n,q]
theorem SS{x:LS}(h:nA (x.map V.str) its):ah its x:=by
 induction x generalizing its with
 |nil=>cases h;exact .nil|cons y x z =>
  cases h with|cons h t=>let#[k,rfl]:=h;exact .cons _ _ (z t)
theorem OZ{x:LS}(h:ah its x):nA (x.map V.str) its:=by
 induction h with|nil=>exact .nil|cons y t _ z=>exact .cons #[t,rfl] z
theorem L0{out:LW}(g:its.Perm out):∀{xs:LV},nA xs its->∃z,z.Perm xs/\nA z out:=by
 induction g with
 |nil=>intro xs r;cases r;exact#[[],QBi _,.nil]|cons x _ k =>
  intro xs r;cases r with|cons h t=>let#[z,p,v]:=k t;exact#[_::z,p.cons _,.cons h v]
 |swap x y l =>
  intro xs r;cases r with
  |cons h t=>cases t with|cons i t=>exact#[_::_::_,QCx.swap _ _ _,.cons i (.cons h t)]
 |trans _ _ f a=>intro xs r;let#[z,p,v]:=f r;let#[w,q,u]:=a v;exact#[w,q.trans p,u]
theorem u5{xs:LV}{v:kt}(r:nA xs its)(h:v∈its):∃x∈xs,aA x v:=by
 induction r with
 |nil=>exact nomatch h
 |cons r t z=>rcases QL.mp h with e|h;subst e;exact#[_,QE,r];let#[x,u,y]:=z h;exact#[x,QF _ u,y]
theorem K3{vs:LW}{ns:LJ}(h:a9 vs ns):nA (ns.map V.int) vs:=by
 induction h with|nil=>exact .nil|cons n t _ x=>exact .cons #[t,rfl] x
theorem zV(hu:X.A.units+66<hZ):IC X (.builtin "sorted") (KY X.K):=by
 intro pins s σ H xs us Q I r h;let#[p,rfl,h]:=h;rcases h with⟨ss,W,E,q⟩| ⟨xs,W,E,hx,q⟩| ⟨ns,W,E,q⟩
 skip;let#[u,rfl,m]:=GK r;cases m;let#[its,g,Y,hz]:=I.list W;have hl:=g.9;rw[QD]at hl;refine sorted_strs Y.isList (by simpa using SS g) () λout l J F a3=>?_;let#[e,B]:=QCV s.1 its out;have hlen:=(tQ J).1;have hp:=F.length_eq;refine#[.ref (s.1.1.size+1),_,I.laid (t':=s.toks) (λb o z=>QB6 z) (qz _) (show HA X.prog X.w _ _ _ (.lst (l.map V.str)) from#[by rw[QD,qC];omega,out.toList,e,OZ J,by simpa using B]),rfl,q _ l (I.hok.fresh (qz _)) F a3];skip;let#[u,rfl,m]:=GK r;cases m;let#[its,g,Y,hz]:=I.list W;have hl:=g.9;have f:∀v∈its,∃b dd M n k,∃j:LS,v=.ref b/\s.1.get? b=jr { cls:=.type "list",dict:=dd,data:=.seq k n,slots:=M }/\ah k.toList j:=λv hv=>by let#[x,S,N]:=u5 g hv;let#[a,j,rfl,sq]:=hx x S;cases N;let#[i,O,#[o,n,e,c,d,z],_]:=I.list sq;let#[oc,od,R,P]:=o;cases c;exact#[a,od,P,n,i.toArray,j,rfl,by rw[e,show R=Data.seq i.toArray n from z],by simpa using SS O]
 refine Gb Y.isList () (λv hv=>?_) (λh3 kp x hx y hy C hC=>?_) λout hp=>?_;let#[b,dd,M,n,k,j,rfl,e,_]:=f v hv;exact#[b,_,rfl,e,rfl];let#[b,dd,M,n,k,j,rfl,e,st]:=f x hx;let#[b2,dd2,sl2,n2,G,ts2,rfl,e2,L]:=f y hy;exact tW (s:={ s with heap:=h3 }) (show X.A.units+1+1<hZ by omega) (kp _ _ e) (kp _ _ e2) st L (hC _);let#[e,B]:=QCV s.1 its out.toArray;let#[ys,py,vy]:=L0 hp.symm g;have hp2:=py.length_eq;refine#[.ref (s.1.1.size+1),_,I.laid (t':=s.toks) (λb o z=>QB6 z) (qz _) (show HA X.prog X.w _ _ _ (.lst ys) from#[by rw[qC];omega,out,e,vy,B]),rfl,q _ ys (I.hok.fresh (qz _)) py];let#[u,rfl,m]:=GK r;cases m;let#[its,g,Y,hz]:=I.list W;have hl:=g.9;rw[QD]at hl;refine sorted_ints Y.isList (vX g) () λout Z J F a3=>?_;let#[e,B]:=QCV s.1 its out;have hp:=F.length_eq;refine#[.ref (s.1.1.size+1),_,I.laid (t':=s.toks) (λb o z=>QB6 z) (qz _) (show HA X.prog X.w _ _ _ (.lst (Z.map V.int)) from#[by rw[QD,qC];omega,out.toList,e,K3 J,by simpa using B]),rfl,q _ Z (I.hok.fresh (qz _)) F a3]
theorem E3:IC X (.type "tuple") (f6 X.K):=by intro x s y H k u Q I r h;let#[p,z,rfl,w,v]:=h;exact AO x s y H _ u Q I r #[p,z,rfl,.inl #[w,v]]
theorem Ul:Ja X "str.index" n6:=by intro k s l H x m v n Q I a g h;let#[z,y,i,w,rfl,rfl,j,q]:=h;let#[t,rfl]:=a;let#[u,rfl,f]:=GK g;let#[o,rfl]:=f;exact PySem.SC.index j #[.int _,H,I.tok _,#[_,rfl],q]
theorem Od:Ja X "list.extend" Ef:=by intro y s u H x z v k Q I a f h;let#[l,b,z,w,rfl,rfl,h]:=h;exact V2 y s u H _ _ v k Q I a f #[l,b,z,w,rfl,rfl,h]
theorem bt(h:X.A.units+66<hZ)(hc:X.calm=kb)(f:Bi):(∃id,gp f.nm=jr (.builtin id)/\IC X (.builtin id) (gt X.K f))∨∃T,gp f.nm=jr (.type T)/\IC X (.type T) (gt X.K f):=by
 cases f with|len=>exact .inl #[_,PySem.boot_len,U9]|any=>exact .inl #[_,PyProof.Rows.boot_any,C9 hc]|min=>exact .inl #[_,PyProof.Rows.boot_min,j4 hc]|sorted=>exact .inl #[_,PyProof.Rows.boot_sorted,zV h]|tuple=>exact .inr #[_,by kernel_rfl,E3]
end
end
end L2.L3
namespace L2.L3
open PySem PySem.Spec PyProof.Rows
section
variable{S:SC}{i:Nat}{x:Str}
structure OkX(X:Cx)(S:SC)(G:Glob)(E:XK):Prop where
 N:X.N=S.N
 sc:X.env.scope=S.sc
 calm:X.calm=kb
 un:X.A.units+66<hZ
 fn:∀f,G.fn f->∃(CX:Da) (k:Nat) (a:k4) (fd:g6) (ps:LS),FnOk X.prog X.w X.K X.mg X.base CX k a fd ps (G.ev.sp f)/\Room k X.A/\X.mg f=jr (.ref a)/\wW X.K (.ref a)=kb/\LH X.K fd ps [] /\
  zO CX X E/\∀l H s e s',CX l H s (λ_ _ _=>False) e s'->False
 val:∀x,G.val x->∃u,X.mg x=jr u/\aA (G.ev.va x) u
 no:∀x,G.no x->X.mg x=kd
def ZS(X:Cx)(Γ:Ev)(E:XK):PX->List Expr->Prop
 | .acons a as,e::es=>PE X e (wp X.K Γ a E).e/\ZS X Γ E as es|_,_=>True
structure Snd(X:Cx)(Γ:Ev)(E:XK)(p:PX)(e:Expr):Prop where
 pe:PE X e (wp X.K Γ p E).e
 pt:PT X e (wp X.K Γ p E).t
 pw:∀op es pos,e=.BoolOp op es pos->PW X e (wp X.K Γ p E).t
 pa:∀es pos,e=.List es pos->PA X es (wp X.K Γ p E).a
 pas:∀es pos,e=.List es pos->ZS X Γ E p es
theorem cY(h:db S i x=kb):S.N[i]?=jr x/\Vo S.sc x/\(x==("__debug__":Str))=kn/\(x==("__classdict__":Str))=false:=by simp only[db,QW,wm,beq_iff_eq,bne_iff_ne,ne_eq]at h;let#[#[#[v,y],u],z]:=h;refine#[v,?_,by simpa using u,by simpa using z];rcases y with(y|y)|y;exact .inl y;exact .inr (.inl y);exact .inr (.inr y)
theorem Ad(h:Nl S i x=kb):S.N[i]?=jr x/\S.sc.names.lookup x=jr .local:=by simp only[Nl,QW,beq_iff_eq]at h;exact h
theorem vE(h:YU S x=kb):S.sc.names.lookup x=jr .globalImplicit/\(x==("__debug__":Str))=kn/\x≠"__name__":=by simp only[YU,QW,beq_iff_eq,bne_iff_ne,ne_eq]at h;exact#[h.1.1,by simpa using h.1.2,h.2]
theorem DE:∀{l:LS},jK l=kb->l.Nodup
 |[],_=>Q4|x::r,h=>by simp only[jK,QW,Q7]at h;exact Qh.mpr #[by simpa using h.1,DE h.2]
theorem GU{z:hQ}{w:LS}{u:List Bool}(h:Z9 S z w u=kb):CompSt S.N S.sc z w u:=by simp only[Z9,QW,Qw,beq_iff_eq,Q7]at h;let#[#[#[f,k],b],a]:=h;refine#[f,λy v e=>?_,λy v e=>?_,λy v e=>?_,λy v e=>?_,DE b,by simpa using a];have:=(k y v).1.1;rw[e]at this;exact o2 this (by decide);have:=(k y v).1.2;rw[e]at this;simp at this;exact this.1;have:=(k y v).2;rw[e]at this;simp at this;exact this;have:=(k y v).1.2;rw[e]at this;simp at this;exact this.2
theorem OkX.comp{X:Cx}{G:Glob}{E:XK}(ok:OkX X S G E)(y:hQ)(v:LS)(u:List Bool)(s:ko)(H:Hp)(ex:List k4):OkX (AA X y v u s H ex) (KZ S y v u) G (λ_ _ _=>False) where
 N:=by show v++VB u 0 X.N=v++VB u 0 S.N;rw[ok.N]
 sc:=by show UM y X.env.scope=UM y S.sc;rw[ok.sc]
 calm:=ok.calm
 un:=ok.un
 fn:=λf h=>by let#[o,k,a,n,b,m,l,j,g,e,p,w]:=ok.fn f h;exact#[o,k,a,n,b,m,l,j,g,e,λ_ _ _ _ _ _ _ z=>(w _ _ _ _ _ z).elim,w]
 val:=ok.val
 no:=ok.no
end
section
variable{X:Cx}
theorem n8{c:Bool}{S:SC}{i:Nat}{x:Str}(k:X.N=S.N)(y:X.env.scope=S.sc)(u:c=kb->∀x,X.fn x=kb)(h:ao c S i x=kb):X.N[i]?=jr x/\Uo X.env.scope x/\(X.fn x=kb∨X.env.scope.names.lookup x=jr .local):=by
 simp only[ao,QW,wm,beq_iff_eq]at h;rw[k,y];rcases h.2 with z|⟨w,v⟩
 exact#[h.1,.inl z,.inr z];exact#[h.1,.inr v,.inl (u w x)]
theorem gP{c:Bool}{S:SC}(k:c=kb->∀x,X.fn x=kb)(g:X.N=S.N)(w:X.env.scope=S.sc)(nd:X.N.Nodup):∀(u:LN) (es:List Expr),u.9=es.9->((u.zip es).all λp=>match p.2 with | .Name x _=>ao c S p.1 x|_=>kn)=kb ->
  Uz X es (λvs σ H Q=>∃σ',cB u vs σ=jr σ'/\Q σ' H)
 |[],[],_,_=>by
  intro y s σ H vs m Q I r h;let#[σ',e,q]:=h;cases vs with|nil=>cases r;simp only[cB]at e;cases e;exact QCM #[σ,H,I,q]|cons _ _=>simp[cB]at e
 |[],_::_,h,_=>by cases h|_::_,[],h,_=>by cases h|i::u,e::es,hl,hz=>by
  simp only[QAV,qW,QW]at hz;let#[j,Z]:=hz;cases e with
  |Name x pos =>
   let#[f,b,a]:=n8 g w k j;have Y:=gP k g w nd u es (by simpa using hl) Z;intro y s σ H vs m Q I r h;let#[σ',e,q]:=h;cases vs with
   |nil=>simp[cB]at e|cons v vs =>
    simp only[cB]at e;cases r with|cons r o=>show k0 _ _ (ef (la (.Name x pos) X.env::(fk es X.env).map (·.2)) _) _ _ _;refine Wc (BB (GY (pos:=pos) nd f b a y s σ H v _ _ I r (show lZ i v σ H (λz l=>z=σ.set i (jr v)/\l=H) from#[rfl,rfl])) λ_ n #[z,l,A,K,W]=>?_);subst K W;exact Y y n _ _ vs _ Q A o #[σ',e,q]
  |_=>simp at j
theorem uU{c:Bool}:∀(z:LN) (es:List Expr) (S:SC),z.9=es.9->((z.zip es).all λp=>match p.2 with | .Name x _=>ao c S p.1 x|_=>kn)=kb->(fk es X.env).9=es.9/\(fk es X.env).findIdx? (·.1)=kd
 |[],[],_,_,_=>#[rfl,rfl]|[],_::_,_,h,_=>by cases h|_::_,[],_,h,_=>by cases h|i::z,e::es,S,hl,hz=>by
  simp only[QAV,qW,QW]at hz;let#[w,v]:=hz;cases e with|Name x y=>have u:=uU z es S (by simpa using hl) v;have k:fk (.Name x y::es) X.env=(kn,la (.Name x y) X.env)::fk es X.env:=rfl;rw[k];refine#[by rw[QM,QM,u.1],?_];rw[List.findIdx?_cons];simp[u.2]|_=>simp at w
theorem YM:∀{x:LN}{vs:LV}{σ σ':St},cB x vs σ=jr σ'->vs.9=x.9
 |[],[],_,_,_=>rfl|[],_::_,_,_,h=>by simp[cB]at h|_::_,[],_,_,h=>by simp[cB]at h|_::x,_::vs,σ,σ',h=>by simp only[cB]at h;rw[QM,QM,YM h]
theorem FY{c:Bool}{S:SC}{G:Glob}{E:XK}(ok:OkX X S G E)(z:c=kb->∀x,X.fn x=kb)(nd:X.N.Nodup){b:Tg}{e:Expr}(h:Zu c S b e=kb):PG X e (CD X.K b):=by
 cases b with
 |nm i =>
  cases e with|Name x pos=>let#[l,j,g]:=n8 ok.N ok.sc z h;exact GY nd l j g|_=>cases h
 |tp o =>
  cases e with
  |Tuple m k pos =>
   let#[h0,Z]:=jA h;have f:=qb h0;let#[C,B]:=uU (X:=X) o m S f Z;have w:=Tj (pos:=pos) (k:=k) (n:=m.9) ok.calm (gP z ok.N ok.sc nd o m f Z) C B;intro y s W H v u Q I r Y;refine w y s W H v u Q I r ?_;cases v with|ref p=>let#[A,a,F,e,q]:=Y;exact#[p,A,rfl,F,by rw[YM e,f],a,e,q]|_=>exact Qf Y
  |_=>cases h
end
variable{Γ:Ev}
theorem Pa(K:QC)(a:k4)(xs:LV):Yields (jAE K a) (xs.map .one) (λH=>aC K H a xs) :=
  { go:=λi H h u=>by
      have z:i<xs.length:=by simpa using u
      exact#[xs,xs[i],h,by simp[z]]
    yld:=λi H x v h _ #[e,y]=>#[.one x,by rw[Qa,y xs h];rfl,rfl,e]
    stop:=λi H h u=>#[xs,h,by simpa using u] }
theorem Hi(K:QC)(a:k4)(xs:LV):Yields (jAB K a xs.9) (xs.reverse.map .one) (λH=>aC K H a xs):=by
 have e:∀i,i<xs.9->xs.reverse[i]?=xs[xs.9 - 1 - i]?:=λi y=>List.getElem?_reverse y;have l:(xs.reverse.map Item.one).9=xs.length:=by rw[QD,wx]
 refine#[λi H h y=>?_,λi H x u h y z=>?_,λi H h y=>by rw[l]at y;exact y];rw[l]at y;exact#[y,xs,xs[xs.9 - 1 - i]'(),h,Qi _];rw[l]at y;exact#[.one x,by rw[Qa,e i y,z.2 xs h];rfl,rfl,z.1]
theorem Fi(K:QC)(a:k4)(xs:LV):Yields (jAC K a) (xs.map .one) (λH=>yD K H a xs) :=
  { go:=λi H h u=>by
      have z:i<xs.length:=by simpa using u
      exact#[xs,xs[i],h,by simp[z]]
    yld:=λi H x v h _ #[e,y]=>#[.one x,by rw[Qa,y xs h];rfl,rfl,e]
    stop:=λi H h u=>#[xs,h,by simpa using u] }
theorem Gi(u:Int)(n:Nat):Yields (Ly u n) ((Qm n).map λ(k:Nat)=>.one (.int (u+(k:Int)))) (λ_=>True) :=
  { go:=λi H h z=>by
      have y:i<n:=by simpa using z
      exact y
    yld:=λi H x w h z #[e,v]=>by
      have y:i<n:=by simpa using z
      exact#[.one x,by rw[Qa,ww y,v];rfl,rfl,e]
    stop:=λi H h z=>by
      have y:n<=i:=by simpa using z
      exact y }
theorem Sa(K:QC)(z:Src)(c:Nat)(xs:LV):Yields (jAG K z c) (xs.zipIdx.map λp=>.tup [.int ((c+p.2:Nat):Int),p.1]) (λH=>B4 K H z xs) :=
  { go:=λi H h u=>by
      have y:i<xs.length:=by simpa using u
      exact#[xs,xs[i],h,by simp[y]]
    yld:=λi H x g h u #[p,a,v,e,w,k]=>by
      have y:i<xs.length:=by simpa using u
      have f:=k xs h;refine#[.tup [.int ((c+i:Nat):Int),a],?_,p,v,e,w];have b:xs.zipIdx[i]?=jr (a,i):=by rw[QBb,f];simp
      rw[Qa,b];rfl
    stop:=λi H h u=>#[xs,h,by simpa using u] }
theorem N4(ep:Nat)(a:k4)(kvs:List KE):Yields (jAD ep kvs.9 a) (kvs.map λp=>.tup [.ref p.2.1,p.2.2]) (λH=>H a=jr (.dT ep kvs)) :=
  { go:=λi H h y=>by
      have z:i<kvs.length:=by simpa using y
      exact#[kvs,kvs[i],h,rfl,by simp[z]]
    yld:=λi H x w h y #[q,p,u,e,v,k]=>#[.tup [.ref p.2.1,p.2.2],by rw[Qa,k kvs h];rfl,q,u,e,v]
    stop:=λi H h y=>#[kvs,h,rfl,by simpa using y] }
theorem Ra(ep:Nat)(a:k4)(kvs:List KE):Yields (jAF ep kvs.9 a) (kvs.map λp=>.one (.ref p.2.1)) (λH=>H a=jr (.dT ep kvs)) :=
  { go:=λi H h y=>by
      have z:i<kvs.length:=by simpa using y
      exact#[kvs,kvs[i],h,rfl,by simp[z]]
    yld:=λi H x b h y #[u,k]=>by let#[p,w,v]:=k kvs h;exact#[.one (.ref p.2.1),by rw[Qa,w];rfl,v,u]
    stop:=λi H h y=>#[kvs,h,rfl,by simpa using y] }
noncomputable def GS(h:St->Hp->(List Item->(Hp->Prop)->Hp->Prop)->Prop):TI:=λx H R=>h x H λy st z=>∀J,Yields J y st->R J z
section
variable{X:Cx}{f:Expr}
section
variable{a:Expr}{ta:TA}{p pos k:Pos}{x:Str}{es:List Expr}{d:Nat}
theorem fc{l:Expr}{t:TE}(hl:PE X l t):PI X f l (GS λσ H R=>t σ H λv m=>uC X.K .val [v] m R):=by
 intro g s σ H R I h;refine BB (hl g s σ H _ I h) λv y #[x,m,i,F,C]=>?_;have j:∀b∈[y.1.1.size],FJ X g m b:=λb hb=>by
  have e:b=y.1.1.size:=by simpa using hb
  subst e;exact i.fpOk (QZ _) (i.hok.fresh (QZ _))
 cases x with
 |ref a =>
  cases F;rcases C with⟨Z,A,q⟩| ⟨Z,A,q⟩| ⟨ep,u,e,q⟩
  let#[Y,E,p,G]:=i.list A;refine QAl p.isList ?_;exact#[y.1.1.size,[y.1.1.size],_,_,m,rfl,i.kept (t':=y.toks) λb o e=>QH _ e,SZ a _,#[_,QR _ rfl,rfl,rfl],j,q _ (Pa _ a Z)];let#[Y,E,p,G]:=i.tuple A;refine QB4 (show y.1.IsTuple a Y.toArray from p) ?_;exact#[y.1.1.size,[y.1.1.size],_,_,m,rfl,i.kept (t':=y.toks) λb o e=>QH _ e,NV a _,#[_,QR _ rfl,rfl,rfl],j,q _ (Fi _ a Z)];let#[z,J,Z,r,ob,B,O,N,M,L,P]:=(show HA X.prog X.w m y.1 a (.dT ep u) from i.hok a _ e)
  have W:B.size=u.length:=by have:=QP qR L;rw[QD,Q0]at this;rw[this,<- qM r]
  refine de J O N.1 M ?_;exact#[y.1.1.size,[y.1.1.size],_,_,m,rfl,i.kept (t':=y.toks) λb o e=>QH _ e,TZ (a:=a) (n:=u.9) (ep:=ep),#[_,QR _ rfl,rfl,by rw[<- W];rfl],j,q _ (Ra ep a u)]
 |_=>exact Qf C
theorem gc(g:x="range")(i:Gl X x)(hm:X.mg x=kd)(l:PA X [a] ta)(hs:mC a=kb) :
  PI X f (.Call (.Name x p) [a] [] pos) (GS λσ H R=>ta σ H λvs v=>uC X.K .rng1 vs v R):=by
 subst g;intro z s σ H R I h;refine Call_ (nE I i hm boot_range (qT (BB (l pos z s σ H _ I h) λn o #[vs,v,m,b,u]=>?_) (NA _ hs) rfl))
 match vs,u with
 |[.int j],#[#[u,q2],q] =>
  cases b with
  |cons r w =>
   cases w;let#[t,rfl]:=r;refine call_range_1 (d6 m () () u q2 ?_);have e:(j - 0).toNat=j.toNat:=by simp
   rw[e];have y:=Gi 0 j.toNat;refine q _ ?_;simpa using y
theorem Rj(Z:x="reversed")(W:Gl X x)(hm:X.mg x=kd)(A:PA X [a] ta)(hs:mC a=kb) :
  PI X f (.Call (.Name x p) [a] [] pos) (GS λσ H R=>ta σ H λvs w=>uC X.K .rev vs w R):=by
 subst Z;intro z s σ H R I h;refine Call_ (nE I W hm QAR (qT (BB (A pos z s σ H _ I h) λB y #[vs,w,u,m,n]=>?_) (NA _ hs) rfl))
 match vs,n with
 |[.ref l],#[xs,hq,q] =>
  cases m with
  |cons r j =>
   cases j;cases r;let#[v,i,Y,C]:=u.list hq;have hl:=i.9;refine QB5 Y.isList ?_;have g:(y.1.push (p7 l ((v.toArray.size:Int) - 1))).IsRevIter y.1.1.size l ((xs.9:Int) - 1 - ((0:Nat):Int)):=#[_,QR _ rfl,rfl,by simp[p7,hl]]
   refine QBa g ?_;refine#[y.1.1.size,[y.1.1.size],_,_,w,rfl,u.kept (t':=y.toks) λb o e=>QH _ e,J5 l _ xs.9,#[Qs _,g],λb hb=>?_,q _ (Hi _ l xs)];have e:b=y.1.1.size:=by simpa using hb
   subst e;exact u.fpOk (QZ _) (u.hok.fresh (QZ _))
theorem v4:gp ("enumerate":Str)=jr (.type "enumerate"):=by kernel_rfl
theorem m9{y:SB}{σ:St}{e:Hp}{h:ko}{R:It->Hp->Prop}{c:Nat}{z:Src}{xs:LV}{its:Array kt}{h':xk}(v:Inv X y σ e h)(g:MB h.1 z its)(st:vY (h.1.1.size+1) h.1.1.size z c 0 h')(j:∀c o,h.1.get? c=jr o->h'.get? c=jr o)
  (q:∀J,Yields J (xs.zipIdx.map λp=>.tup [.int ((c+p.2:Nat):Int),p.1]) (λH=>B4 X.K H z xs)->R J e):k0 (k5 X.prog X.w) X.A (mA (.ref (h.1.1.size+1))) (Uy X y σ (.Tuple es d k) R) X.xe { h with heap:=h' }:=by
 let#[#[i,l],_]:=id st;refine QCL l ?_;have m:=v.kept (h':=h') (t':=h.toks) j;have lt:=g.lt;refine#[_,[h.1.1.size+1,h.1.1.size],_,_,e,rfl,m,AZ (jAd (Nat.succ_ne_self _)) (Qk (WF lt)) (Qk lt),st,λb hb=>?_,q _ (Sa _ z c xs)];have u:h.1.1.size<=b:=by simp only[QL,WS,or_false]at hb;rcases hb with rfl|rfl;exact QA7 _ _;exact QZ _
 exact v.fpOk u (v.hok.fresh u)
theorem ec(l:x="enumerate")(m:Gl X x)(hm:X.mg x=kd)(n:PA X [a] ta)(hs:mC a=kb) :
  PI X (.Tuple es d k) (.Call (.Name x p) [a] [] pos) (GS λσ H R=>ta σ H λvs w=>uC X.K .enum vs w R):=by
 subst l;intro u s σ H R I h;refine Call_ (nE I m hm v4 (qT (BB (n pos u s σ H _ I h) λo Y #[vs,w,v,e,g]=>?_) (NA _ hs) rfl))
 match vs,g with
 |[.ref l1],#[z,xs,e1,h1,q] =>
  subst e1;cases e with|cons r b=>cases b;cases r;let#[j,_,y,_]:=v.src h1;refine MX y λZ st i=>m9 (xs:=xs) v y st i ?_;simpa using q
theorem be{K:QC}{u:V}{H:Hp}{R:List Item->(Hp->Prop)->Hp->Prop}(h:uC K .itm [u] H R):∃a ep kvs,u=.ref a/\H a=jr (.dT ep kvs)/\R (kvs.map λp=>.tup [.ref p.2.1,p.2.2]) (λH=>H a=jr (.dT ep kvs)) H:=by
 cases u with|ref a=>let#[ep,kvs,e,q]:=h;exact#[a,ep,kvs,rfl,e,q]|_=>exact Qf h
theorem Sj{o:Expr}{to:TE}{apos cpos:Pos}(G:PE X o to)(i:ca o "items" X.env (hB o X.env)=hB o X.env)(g:(apos.endLine==cpos.line)=kb) :
  Ru X (.Tuple es d k) (.Call (.Attribute o "items" apos) [] [] cpos) (GS λσ H R=>to σ H λv l=>uC X.K .itm [v] l R):=by
 intro u s σ H R I h;refine QAy i g (BB (G u s σ H _ I h) λv j #[x,l,B,C,E]=>?_);let#[a,ep,y,rfl,e,q]:=be E;cases C;let#[z,J,O,r,ob,W,m,Z,M,L,P]:=(show HA X.prog X.w l j.1 a (.dT ep y) from B.hok a _ e)
 refine#["dict",_,QA2,PySem.F.slot_dict_items,PySem.F.type_dict_items,#[ob,m,Z.1],λb N=>?_,Wk rfl (QBn (LX m Z.1 J ?_))];cases N;exact#[ob,m,Z.2.1];have A:Inv X u σ l { j with heap:=j.1.push { cls:=.type "dict_items",data:=.fields (qG [.ref a]) } }:=B.kept (t':=j.toks) λb o e=>QH _ e;refine D8 #[_,QR _ rfl,rfl,rfl] (QH _ m) M ?_;have Y:W.size=y.length:=by have:=QP qR L;rw[QD,Q0]at this;rw[this,<- qM r]
 refine#[_,[_],_,_,l,rfl,A.kept (t':=j.toks) λb o e=>QH _ e,PV (a:=a) (n:=y.9) (ep:=ep),#[.none,.none,?_],λb hb=>?_,q _ (N4 ep a y)];rw[<- Y];exact QR _ rfl;have e:=QJ.mp hb;subst e;exact A.fpOk (QZ _) (A.hok.fresh (QZ _))
end
end
section
variable{σ' σ:St}{K:QC}{u:Tg}{H:Hp}{Q:St->Hp->Prop}
def Tg.at:Tg->LN
 | .nm i=>[i]|.tp h=>h
def YV(u:Tg)(σ' σ:St):Prop:=σ'.9=σ.9/\∀(j:Nat),j∉u.at->σ'[j]?=σ[j]?
theorem d0{i:Nat}{v:Option V}(h:σ'.9=σ.9)(x:∀j,j≠i->σ'[j]?=σ[j]?):σ'.set i v=σ.set i v:=by apply qw;intro j;by_cases e:j=i;subst e;by_cases hl:j<σ.9;rw[qr (),qr hl];rw[Q2 (by rw[qF];omega),Q2 (by rw[qF];omega)];rw[qZ (Q1 e),qZ (Q1 e)];exact x j e
theorem DI:∀(x:LN) (vs:LV) (σ' σ:St),σ'.9=σ.9->(∀j,j∉x->σ'[j]?=σ[j]?)->cB x vs σ'=cB x vs σ
 |[],[],σ',σ,hl,h=>by have:σ'=σ:=qw λj=>h j (by simp);rw[this]|[],_::_,_,_,_,_=>rfl|_::_,[],_,_,_,_=>rfl|i::x,v::vs,σ',σ,hl,h=>by simp only[cB];refine DI x vs _ _ (by simp[hl]) λj z=>?_;by_cases e:j=i;subst e;by_cases y:j<σ.9;rw[qr (),qr y];rw[Q2 (by rw[qF];omega),Q2 (by rw[qF];omega)];rw[qZ (Q1 e),qZ (Q1 e)];exact h j (by simp[e,z])
theorem yF:∀(h:LN) (vs:LV) (σ σ':St),cB h vs σ=jr σ'->σ'.9=σ.9/\∀j,j∉h->σ'[j]?=σ[j]?
 |[],[],σ,σ',e=>by simp only[cB]at e;cases e;exact#[rfl,λ_ _=>rfl]|[],_::_,_,_,e=>by simp[cB]at e|_::_,[],_,_,e=>by simp[cB]at e|i::h,v::vs,σ,σ',e=>by simp only[cB]at e;let#[w,y]:=yF h vs _ _ e;refine#[by rw[w,qF],λj x=>?_];rw[y j (λz=>x (QF _ z)),qZ (λz=>x (by simp[z]))]
theorem bV{v:V}(a:YV u σ' σ)(h:CD K u v σ H Q):CD K u v σ' H λx l=>YV u x σ/\Q x l:=by
 let#[b,f]:=a;cases u with
 |nm i=>have e:σ'.set i (jr v)=σ.set i (jr v):=d0 b λj y=>f j (by simpa[Tg.at]using y);show YV (.nm i) (σ'.set i (jr v)) σ/\Q (σ'.set i (jr v)) H;rw[e];exact#[#[by simp,λj y=>qZ (λz=>y (by simp[Tg.at,z]))],h]|tp k =>
  cases v with|ref p=>let#[w,x,g,e,q]:=h;exact#[w,x,g,by rw[DI k w σ' σ b λj y=>f j y];exact e,#[(yF k w σ x e).1,λj y=>(yF k w σ x e).2 j y],q]|_=>exact Qf h
theorem OX{v:V}{y:St->Hp->Prop}(m:∀σ H,Q σ H->y σ H)(h:CD K u v σ H Q):CD K u v σ H y:=by
 cases u with
 |nm i=>exact m _ _ h|tp k =>
  cases v with|ref p=>let#[z,x,w,e,q]:=h;exact#[z,x,w,e,m _ _ q]|_=>exact Qf h
theorem SN{it:Item}{x:V}{y:Hp}(w:match it with | .one v=>x=v/\y=H | .tup vs=>∃p,H p=kd/\x=.ref p/\y=CA H p (.tup vs))(h:bindI K u it σ H Q):CD K u x σ y Q:=by
 cases it with
 |one v=>let#[rfl,rfl]:=w;exact h|tup vs =>
  let#[p,z,rfl,rfl]:=w;cases u with
  |nm i=>exact h p z|tp k =>
   let#[σ',e,q]:=h (CA H p (.tup vs)) λb o e=>by rw[xA (JA e z)];exact e
   exact#[vs,σ',yD.of pA,e,q]
theorem Y9{xs:List Item}{st:Hp->Prop}{tc:TT}{te:TE}{k:St}{Q:VK}(h:Ms K xs st (bindI K u) tc te k H Q):LZ K xs st u tc te k H Q:=by
 let#[W,X,n,g,done]:=h;intro J Y;refine#[λi m v σ' a=>m=xs.9 - i/\i<=xs.9/\YV u σ' k/\W i v a,#[xs.9,by simp,Qs _,#[rfl,λ_ _=>rfl],X],?_];rintro i m v σ' a ⟨rfl,B,E,w⟩;have l:=n i v a B w;by_cases f:i<xs.9;refine .inr #[Y.go i a l f,λx F y=>?_];let#[it,o,A]:=Y.yld i a x F l f y;have b:=bV E (SN A (g i it v a o w));refine OX (λj G q=>?_) b;let#[p,q]:=q;have C:∀(z:LV) (r:Hp),(∃s,s < xs.9 - i/\s=xs.9 - (i+1)/\i+1<=xs.9/\YV u j k/\W (i+1) z r)=W (i+1) z r:=λz r =>
  o9 #[λ#[_,_,_,_,_,w]=>w,λw=>#[_,(),rfl,f,p,w]]
 simp only[C];exact q
 ·have e:i=xs.length:=()
  subst e;let#[Z,q]:=done v a w;exact .inl #[Y.stop _ a l (QZ _),Z,q]
end
end L2.L3
namespace L2.L3
open PySem PySem.Spec PyProof.Rows
variable{Γ:Ev}
section
variable{X:Cx}{E:XK}{p its:PX}{es:List Expr}{e t it:Expr}{pos:Pos}{S:SC}{Q:LV->Hp->Prop}{G:Glob}{d:ItK}
def dR:PX->Bool
 | .acons _ _=>kn|_=>kb
theorem lV(h:dR p=kb):ZS X Γ E p es:=by cases p<;>first|trivial|cases h
theorem pS(Q:Bool->Hp->Prop):(λ(x:V) (h:Hp)=>U4 x h Q)=λ(x:V) (h:Hp)=>∃k,x=.bl k/\Q k h:=by funext x h;exact Gn x h Q
theorem Snd.of(pe:PE X e (wp X.K Γ p E).e)(pt:PT X e (wp X.K Γ p E).t)(hb:∀h es pos,e≠.BoolOp h es pos)(y:(wp X.K Γ p E).a=never.a)(x:dR p=true:=by rfl):Snd X Γ E p e :=
 #[pe,pt,λh es pos z=>o2 z (hb h es pos),λes pos z=>by rw[y];exact rT,λ_ _ _=>lV x]
theorem Snd.lit(pe:PE X e (wp X.K Γ p E).e)(x:(wp X.K Γ p E).t=never.t)(hb:∀h es pos,e≠.BoolOp h es pos)(z:(wp X.K Γ p E).a=never.a)(y:dR p=true:=by rfl):Snd X Γ E p e :=
 Snd.of pe (by rw[x];exact FM) hb z y
theorem Snd.args(w:PA X es (wp X.K Γ p E).a)(u:ZS X Γ E p es)(v:(wp X.K Γ p E).e=never.e)(y:(wp X.K Γ p E).t=never.t):Snd X Γ E p (.List es pos) :=
 #[by rw[v];exact G6,by rw[y];exact FM,λ_ _ _ z=>(by cases z),λx h z=>by cases z;exact w,λx h z=>by cases z;exact u]
theorem vk{x:Str}{v:V}{u:kt}(y:X.env.scope=S.sc)(h:YU S x=kb)(hm:X.mg x=jr u)(r:aA v u):PE X (.Name x pos) (λ_ H Q=>Q v H):=by let#[w,z,k]:=vE h;exact Yc (show X.env.scope.names.lookup x=jr .globalImplicit by rw[y];exact w) hm r z
theorem rD:∀(p:PX) {es:List Expr},KB p S (.List es pos)=kb->es.all mC=true:=by
 intro p;induction p with|anil=>intro es h;have h:es.isEmpty=true:=h;rw[Qt.mp h];rfl|acons a u _ y=>intro es h;have h:v7 es _=true:=h;let#[x,t,rfl,h]:=XH h;have z:=jA h;rw[qW,z.1,y (jA z.2).2];rfl|lst u y=>exact λh=>y h|_=>exact λh=>(QG h).elim
theorem hV{K:QC}{σ:St}{H:Hp}:∀(p:PX),gF p=kb->KB p S (.List [] pos)=kb->((wp K Γ p E).a σ H Q↔Q [] H):=by
 intro p;cases p with|anil=>exact λ_ _=>WJ|acons _ _=>exact λ_ h=>(QG h).elim|_=>exact λh=>(QG h).elim
theorem t4{K:QC}{σ:St}{H:Hp}(p:PX)(h:KB p S (.List [] pos)=kb)(q:(wp K Γ p E).a σ H Q):Q [] H:=by
 cases x:gF p with
 |true=>exact(hV p x h).mp q|false =>
  cases p with|anil=>exact q|acons _ _=>exact(QG h).elim|_=>exact q.elim
theorem fV{a:Expr}(p:PX)(h0:gF p=kb)(h:KB p S (.List [a] pos)=kb):∃x,p=.acons x .anil:=by
 cases p with
 |acons x r =>
  have y:KB r S (.List [] pos)=true:=(jA (jA h).2).2;cases r with|anil=>exact#[x,rfl]|acons _ _=>exact(QG y).elim|_=>exact(QG h0).elim
 |anil=>exact(QG h).elim|_=>exact(QG h0).elim
theorem yr(h:X.A.units+66<hZ)(m:Mt):∃id,pR m.ty/\Slot m.ty m.nm id/\typeOf (.builtin id)=aj (.type "method_descriptor")/\Ja X id (Pd X.K m):=by
 cases m with|append=>exact#[_,We,PySem.F.slot_list_append,PySem.F.type_list_append,U2]|pop=>exact#[_,We,PySem.F.slot_list_pop,PySem.F.type_list_pop,Nd]|extend=>exact#[_,We,PySem.F.slot_list_extend,PySem.F.type_list_extend,Od]|setd=>exact#[_,QA2,PySem.F.slot_dict_setdefault,PySem.F.type_dict_setdefault,K2 h]|index=>exact#[_,PySem.F.plainAttrs_str,PySem.F.slot_str_index,PySem.F.type_str_index,Ul]
theorem RE{env:Env}{pos:Pos}:∀{es:List Expr},es.all mC=kb->(dt pos (x0 es env)).any (·.1)=kn
 |[],_=>rfl|e::es,h=>by rw[qW]at h;let#[y,x]:=jA h;rw[NA env y];show(kn||(dt pos (x0 es env)).any (·.1))=kn;rw[RE x];rfl
theorem mV{env:Env}{pos:Pos}:∀{es:List Expr},es.all mC=kb->(dt pos (x0 es env)).all (λx=>!x.1)=kb
 |[],_=>rfl|e::es,h=>by rw[qW]at h;let#[z,y]:=jA h;rw[NA env z];show(kb&&(dt pos (x0 es env)).all (λx=>!x.1))=kb;rw[mV y];rfl
theorem lW(ok:OkX X S G E)(y:Cu (gF its) S d (λes p=>KB its S (.List es p)) t it pos=kb)(j:Sr G d)(n:isItm d=kn)
  (f:∀es p,KB its S (.List es p)=kb->Snd X G.ev E its (.List es p)):PI X t it (GS λσ H R=>(wp X.K G.ev its E).a σ H λvs o=>uC X.K d vs o R):=by
 have v:∀{x:Str},YU S x=kb->Gl X x:=λ{x} h=>by show X.env.scope.names.lookup x=jr .globalImplicit;rw[ok.sc];exact(vE h).1
 have w:HR t=kb->∃es k p,t=.Tuple es k p:=λh=>by
  cases t with|Tuple es k p=>exact#[es,k,p,rfl]|_=>exact(QG h).elim
 cases d with|val=>have i:=jA y;have g:=(f _ pos i.2).pas _ pos rfl;let#[a,rfl]:=fV its i.1 i.2;exact fc g.1|rng1=>let#[l,es,m,p,rfl,b,h]:=uE y;have u:=jA h;cases Qt.mp u.1;let#[a,rfl,z]:=aB u.2;exact gc rfl (v b) (ok.no _ j) ((f _ p z).pa _ p rfl) (by simpa using rD its z)|rev=>let#[l,es,m,p,rfl,b,h]:=uE y;have u:=jA h;cases Qt.mp u.1;let#[a,rfl,z]:=aB u.2;exact Rj rfl (v b) (ok.no _ j) ((f _ p z).pa _ p rfl) (by simpa using rD its z)|enum=>have i:=jA y;let#[es,k,pt,rfl]:=w i.1;let#[l,es,m,p,rfl,b,h]:=uE i.2;have u:=jA h;cases Qt.mp u.1;let#[a,rfl,z]:=aB u.2;exact ec rfl (v b) (ok.no _ j) ((f _ p z).pa _ p rfl) (by simpa using rD its z)|itm=>cases n
theorem rc(ok:OkX X S G E)(x:Cu (gF its) S d (λes p=>KB its S (.List es p)) t it pos=kb)(g:Sr G d)
  (u:∀es p,KB its S (.List es p)=kb->Snd X G.ev E its (.List es p)):Ru X t it (GS λσ H R=>(wp X.K G.ev its E).a σ H λvs j=>uC X.K d vs j R):=by
 cases b:isItm d with
 |false=>exact(lW ok x g b u).to0|true =>
  cases d with
  |itm =>
   have i:=jA x;have w:=jA i.2;cases t with|Tuple es k pt=>let#[v,l,es,p,rfl,hl,h]:=IY w.2;have f:=jA h;have z:=jA f.2;cases Qt.mp z.1;have y:=(u _ p z.2).pas _ p rfl;let#[a,rfl]:=fV its w.1 z.2;exact Sj y.1 (D7 f.1) hl|_=>exact(QG i.1).elim
  |_=>cases b
theorem zF{te x:TE}(h:PE X e te)(q:∀σ H Q,x σ H Q->te σ H Q):PE X e x:=λy s σ H Q I z=>h y s σ H Q I (q σ H Q z)
theorem snd:∀(p:PX) {X:Cx}{S:SC}{E:XK}(ok:OkX X S G E) {e:Expr},KB p S e=kb->EA G p->Snd X G.ev E p e:=by
 intro p;induction p with
 |var i =>
  intro X S E ok e h _;let#[x,pos,rfl,h]:=jC h;let#[Y,B,J,O]:=cY h;have base:=mW (pos:=pos) (show X.N[i]?=jr x by rw[ok.N];exact Y) (show Vo X.env.scope x by rw[ok.sc];exact B) J O;have pe:PE X (.Name x pos) (wp X.K G.ev (.var i) E).e:=zF base λW H Q q=>by
   have q:(match W[i]? with|some (jr v)=>Q v H|_=>False):=q;cases hs:W[i]? with
   |none=>rw[hs]at q;exact q.elim|some o =>
    rw[hs]at q;cases o with|none=>exact q.elim|some v=>exact#[v,hs,q]
  exact Snd.of pe (aD pe λ_=>rfl) (λ_ _ _ z=>by cases z) rfl
 |mv i =>
  intro X S E ok e h _;let#[x,pos,rfl,h]:=jC h;let#[Y,B,J,O]:=cY h;have base:=mW (pos:=pos) (show X.N[i]?=jr x by rw[ok.N];exact Y) (show Vo X.env.scope x by rw[ok.sc];exact B) J O;have pe:PE X (.Name x pos) (wp X.K G.ev (.mv i) E).e:=zF base λW H Q q=>by
   have q:(match W[i]? with|some (jr v)=>Q v H|_=>False):=q;cases hs:W[i]? with
   |none=>rw[hs]at q;exact q.elim|some o =>
    rw[hs]at q;cases o with|none=>exact q.elim|some v=>exact#[v,hs,q]
  exact Snd.lit pe rfl (λ_ _ _ z=>by cases z) rfl
 |int i=>intro X S E ok e h _;let#[c,k,pos,rfl,h]:=UE h;let#[j,rfl,h]:=M9 h;cases qb h;exact Snd.of nW (aD (ta:=λ_ H Q=>Q (.int i) H) nW λ_=>rfl) (λ_ _ _ z=>by cases z) rfl|str x=>intro X S E ok e h _;let#[c,k,pos,rfl,h]:=UE h;let#[j,rfl,h]:=cn h;cases qb h;exact Snd.lit Ij rfl (λ_ _ _ z=>by cases z) rfl|bl b=>intro X S E ok e h _;let#[c,k,pos,rfl,h]:=UE h;let#[j,rfl,h]:=yf h;cases qb h;exact Snd.of xg (aD (ta:=λ_ H Q=>Q (.bl b) H) xg λ_=>rfl) (λ_ _ _ z=>by cases z) rfl|non=>intro X S E ok e h _;let#[c,k,pos,rfl,h]:=UE h;cases jf h;exact Snd.of F6 (aD (ta:=λ_ H Q=>Q .non H) F6 λ_=>rfl) (λ_ _ _ z=>by cases z) rfl|glo x=>intro X S E ok e h nd;let#[y,pos,rfl,h]:=jC h;have h:=jA h;cases qb h.1;let#[u,hm,r]:=ok.val x nd;have pe:=vk (pos:=pos) ok.sc h.2 hm r;exact Snd.of pe (aD pe λ_=>rfl) (λ_ _ _ z=>by cases z) rfl|bty x n=>intro X S E ok e h nd;let#[y,pos,rfl,h]:=jC h;have h:=jA h;cases qb h.1;let#[g1,g2,g3]:=vE h.2;exact Snd.lit (Bc (show X.env.scope.names.lookup x=jr .globalImplicit by rw[ok.sc];exact g1) (ok.no x nd.1) nd.2 rfl g3 g2) rfl (λ_ _ _ z=>by cases z) rfl|bin op a b Z L=>intro X S E ok e h nd;let#[l,o,r,pos,rfl,h]:=Sc h;have Y:=jA h;have B:=jA Y.2;cases qb Y.1;have pe:=pq (pos:=pos) (Jk op) (Z ok B.1 nd.1).pe (L ok B.2 nd.2).pe;exact Snd.of pe (aD pe λ_=>rfl) (λ_ _ _ z=>by cases z) rfl|cmp op a b Z L=>intro X S E ok e h nd;let#[l,os,rs,pos,rfl,h]:=Rc h;let#[o,rfl,h]:=aB h;let#[r,rfl,h]:=aB h;have Y:=jA h;have B:=jA Y.2;have J:=jA B.2;cases qb Y.1;have pa:=(Z ok J.1 nd.1).pe;have pb:=(L ok J.2 nd.2).pe;refine Snd.of (Xc (pos:=pos) (j7 ok.un op) pa pb (F7 B.1)) (λM s W H Q I q=>kc (pos:=pos) (j7 ok.un op) pa pb (F7 B.1) M s W H Q I ?_) (λ_ _ _ z=>by cases z) rfl;show Kp _ _ _ W H (λ(x:V) (A:Hp)=>∃k,x=.bl k/\Q k A);rw[<- pS Q];exact q|and a b Z L =>
  intro X S E ok e h nd;let#[o,es,pos,rfl,h]:=JT h;have Y:=jA h;cases qb Y.1;let#[l,t,rfl,B]:=XH Y.2;let#[r,t,rfl,J]:=XH B;have O:=jA J;have sa:=Z ok O.1 nd.1;have sb:=L ok O.2 nd.2;have eqA:∀(W:St) (Q:VK),(λ(x:V) (A:Hp)=>∃c,x=.bl c/\if c=kb then(wp X.K G.ev b E).e W A Q else Q (.bl kn) A)=λ(x:V) (A:Hp)=>U4 x A λc H2=>if c=kb then(wp X.K G.ev b E).e W H2 Q else Q (.bl kn) H2:=λW Q=>(pS _).symm
  have key:PW X (.BoolOp .And (l::r::t) pos) (wp X.K G.ev (.and a b) E).t/\PE X (.BoolOp .And (l::r::t) pos) (λW H Q=>(wp X.K G.ev a E).e W H λx A=>∃c,x=.bl c/\if c=kb then(wp X.K G.ev b E).e W A Q else Q (.bl kn) A):=by
   cases t with|nil=>exact#[e6 sa.pt (yc sb.pt),N6 (pos:=pos) sa.pe (D6 sb.pe)]|cons q t=>exact#[e6 sa.pt (sb.pw _ _ _ rfl),N6 (pos:=pos) sa.pe sb.pe]
  refine#[zF key.2 λW H Q q=>?_,key.1.pt,λ_ _ _ _=>key.1,λ_ _ z=>(by cases z),λ_ _ z=>trivial];rw[eqA];exact q
 |or a b Z L =>
  intro X S E ok e h nd;let#[o,es,pos,rfl,h]:=JT h;have Y:=jA h;cases qb Y.1;let#[l,t,rfl,B]:=XH Y.2;let#[r,t,rfl,J]:=XH B;have O:=jA J;have sa:=Z ok O.1 nd.1;have sb:=L ok O.2 nd.2;have eqA:∀(W:St) (Q:VK),(λ(x:V) (A:Hp)=>∃c,x=.bl c/\if c=kb then Q (.bl kb) A else(wp X.K G.ev b E).e W A Q)=λ(x:V) (A:Hp)=>U4 x A λc H2=>if c=kb then Q (.bl kb) H2 else(wp X.K G.ev b E).e W H2 Q:=λW Q=>(pS _).symm
  have key:PW X (.BoolOp .Or (l::r::t) pos) (wp X.K G.ev (.or a b) E).t/\PE X (.BoolOp .Or (l::r::t) pos) (λW H Q=>(wp X.K G.ev a E).e W H λx A=>∃c,x=.bl c/\if c=kb then Q (.bl kb) A else(wp X.K G.ev b E).e W A Q):=by
   cases t with|nil=>exact#[yg sa.pt (Cj sb.pt),vg (pos:=pos) sa.pe (D6 sb.pe)]|cons q t=>exact#[yg sa.pt (sb.pw _ _ _ rfl),vg (pos:=pos) sa.pe sb.pe]
  refine#[zF key.2 λW H Q q=>?_,key.1.pt,λ_ _ _ _=>key.1,λ_ _ z=>(by cases z),λ_ _ z=>trivial];rw[eqA];exact q
 |not a Z=>intro X S E ok e h nd;let#[o,x,pos,rfl,h]:=z7 h;have Y:=jA h;cases qb Y.1;have sa:=Z ok Y.2 nd;refine Snd.of (λM s W H Q I q=>?_) (Dj sa.pt) (λ_ _ _ z=>by cases z) rfl;refine UnaryOp_ (BB (sa.pe M s W H _ I q) λv s1 #[x,A,I1,r1,q1]=>?_);have q1:OF X.K x A (λc H2=>Q (.bl (!c)) H2):=q1;rw[mY]at q1;refine not_of (BB (Y5 M s1 W A x v _ I1 r1 q1) λc s2 #[H2,I2,q2]=>?_);exact#[.bl (!c),H2,I2,rfl,q2]|ife c a b ihc Z L=>intro X S E ok e h nd;let#[t,l,r,pos,rfl,h]:=Vk h;have Y:=jA h;have B:=jA Y.2;exact Snd.lit (L6 (pos:=pos) (ihc ok Y.1 nd.1).pt (Z ok B.1 nd.2.1).pe (L ok B.2 nd.2.2).pe) rfl (λ_ _ _ z=>by cases z) rfl|call f as ih =>
  intro X S E ok e h nd;let#[p,es,ks,pos,rfl,hg,h]:=uE h;have Y:=jA h;cases Qt.mp Y.1;let#[g1,g2,g3]:=vE hg;have hg:Gl X f:=show X.env.scope.names.lookup f=jr .globalImplicit by rw[ok.sc];exact g1
  let#[CX,k,a,fd,ps,F,hr,hm,hk,hb,hx,_]:=ok.fn f nd.1;have pa:=(ih ok Y.2 nd.2).pa es pos rfl;have st:=rD as Y.2;have pe:PE X (.Call (.Name f p) es [] pos) (wp X.K G.ev (.call f as) E).e:=by
   cases es with|nil=>exact zF (M6 (pos:=pos) (p:=p) F hr hg hm hk hb .nil hx g2) λW H Q q=>t4 as Y.2 q|cons e1 P=>have st:=jA st;refine zF (Uc (pos:=pos) (p:=p) F hr hg hm hk hb .nil hx pa g2 (NA _ st.1) (RE st.2)) λW H Q q=>?_;show(wp X.K G.ev as E).a W H λvs A=>G.ev.sp f (vs++[]) A Q E;simp only[Q5];exact q
  exact Snd.of pe (aD pe λ_=>rfl) (λ_ _ _ z=>by cases z) rfl
 |idx a b Z L=>intro X S E ok e h nd;let#[v,i,pos,rfl,h]:=vR h;have Y:=jA h;have B:=jA Y.2;have pe:=aq (pos:=pos) (gm ok.un) (Z ok B.1 nd.1).pe (L ok B.2 nd.2).pe (cc Y.1);exact Snd.of pe (aD pe λ_=>rfl) (λ_ _ _ z=>by cases z) rfl|nop=>intro X S E ok e h nd;exact(QG h).elim|lst as ih=>intro X S E ok e h nd;let#[es,pos,rfl,h]:=dN h;have pa:=(ih ok h nd).pa es pos rfl;exact#[jk pa,FM,λ_ _ _ z=>(by cases z),λ_ _ z=>rT,λ_ _ z=>trivial]|tup as ih=>intro X S E ok e h nd;let#[es,k,pos,rfl,h]:=kR h;exact Snd.lit (Ej ((ih ok h nd).pa es pos rfl)) rfl (λ_ _ _ z=>by cases z) rfl|dnew b=>intro X S E ok e h nd;let#[ks,vs,pos,rfl,h]:=eT h;have Y:=jA h;cases Qt.mp Y.1;cases Qt.mp Y.2;exact Snd.lit Kc rfl (λ_ _ _ z=>by cases z) rfl|dsp a b Z L =>
  intro X S E ok e h nd;let#[ks,vs,pos,rfl,h]:=eT h;let#[k,rfl,h]:=aB h;let#[v,rfl,h]:=aB h;have Y:=jA h;cases k with|none=>exact(QG Y.1).elim|some k=>exact Snd.lit (Zc ok.un (Z ok Y.1 nd.1).pe (L ok Y.2 nd.2).pe) rfl (λ_ _ _ z=>by cases z) rfl
 |ng i=>intro X S E ok e h nd;let#[o,x,pos,rfl,h]:=z7 h;have Y:=jA h;cases qb Y.1;let#[c,k,pos2,rfl,B]:=UE Y.2;let#[j,rfl,B]:=M9 B;cases qb B;exact Snd.lit (λM s W H Q I q=>oq (pos:=pos) (Ti (X:=X)) (ta:=λ_ H Q=>Q (.int i) H) nW M s W H Q I #[i,rfl,q]) rfl (λ_ _ _ z=>by cases z) rfl|lrv a Z=>intro X S E ok e h nd;let#[p,es,ks,pos,rfl,hg,h]:=uE h;have Y:=jA h;cases Qt.mp Y.1;let#[x,rfl,h]:=aB Y.2;let#[p',es,ks,pos',rfl,hg',h]:=uE h;have B:=jA h;cases Qt.mp B.1;let#[y,rfl,h5]:=aB B.2;have J:=jA h5;refine Snd.lit (zk ok.calm (show X.env.scope.names.lookup _=jr .globalImplicit by rw[ok.sc];exact(vE hg).1) (show X.env.scope.names.lookup _=jr .globalImplicit by rw[ok.sc];exact(vE hg').1) (ok.no _ nd.1) (ok.no _ nd.2.1) (Z ok J.2 nd.2.2).pe (NA _ J.1)) rfl (λ_ _ _ z=>by cases z) rfl|anil=>intro X S E ok e h nd;let#[es,pos,rfl,h]:=dN h;cases Qt.mp h;exact Snd.args AQ trivial rfl rfl|acons a as Z ih=>intro X S E ok e h nd;let#[es,pos,rfl,h]:=dN h;let#[e1,P,rfl,h]:=XH h;have Y:=jA h;have B:=jA Y.2;have sa:=(Z ok B.1 nd.1).pe;have ss:=ih ok B.2 nd.2;exact Snd.args (AI sa (ss.pa P pos rfl) (NA _ Y.1)) #[sa,ss.pas P pos rfl] rfl rfl|bi f as ih =>
  intro X S E ok e h nd;let#[p,es,ks,pos,rfl,hg,h]:=uE h;have Y:=jA h;cases Qt.mp Y.1;let#[e1,P,rfl,J]:=XH Y.2;let#[g1,g2,g3]:=vE hg;have hg:Gl X f.nm:=show X.env.scope.names.lookup f.nm=jr .globalImplicit by rw[ok.sc];exact g1
  have pa:=(ih ok J nd.2).pa _ pos rfl;have st:=jA (rD as J);have pe:PE X (.Call (.Name f.nm p) (e1::P) [] pos) (wp X.K G.ev (.bi f as) E).e:=by
   rcases bt ok.un ok.calm f with⟨id,hb,hc⟩| ⟨T,hb,hc⟩
   exact jN (pos:=pos) (p:=p) hc hg (ok.no _ nd.1) hb pa g3 g2 (NA _ st.1) (RE st.2);exact N0 (pos:=pos) (p:=p) hc hg (ok.no _ nd.1) hb pa g3 g2 (NA _ st.1) (RE st.2)
  exact Snd.of pe (aD pe λ_=>rfl) (λ_ _ _ z=>by cases z) rfl
 |isi a c Z ihc =>
  intro X S E ok e h nd;let#[p,es,ks,pos,rfl,hg,h]:=uE h;have Y:=jA h;cases Qt.mp Y.1;let#[l,r,rfl,B]:=Cq Y.2;have J:=jA B;have O:=jA J.2;have h5:=jA O.2;let#[g1,g2,g3]:=vE hg;have hg:Gl X "isinstance":=show X.env.scope.names.lookup ("isinstance":Str)=jr .globalImplicit by rw[ok.sc];exact g1
  have pe:PE X (.Call (.Name "isinstance" p) [l,r] [] pos) (wp X.K G.ev (.isi a c) E).e :=
   jN (pos:=pos) (p:=p) B9 hg (ok.no _ nd.1) (by kernel_rfl) (AI (Z ok h5.1 nd.2.1).pe (AI (ihc ok h5.2 nd.2.2).pe AQ (NA _ O.1)) (NA _ J.1)) g3 g2 (NA _ J.1) (RE (by rw[qW,O.1];rfl))
  exact Snd.of pe (aD pe λ_=>rfl) (λ_ _ _ z=>by cases z) rfl
 |mt m o as iho ih =>
  intro X S E ok e h nd;let#[v,ap,es,pos,rfl,B,h]:=IY h;have h0:=jA h;have Y:=jA h0.2;have J:=jA Y.2;have O:=jA J.2;have po:=(iho ok O.1 nd.1).pe;have pa:=(ih ok O.2 nd.2).pa _ pos rfl;have st:=rD as O.2;let#[id,pat,sl,ty,mr]:=yr (X:=X) ok.un m;have pe:PE X (.Call (.Attribute v m.nm ap) es [] pos) (wp X.K G.ev (.mt m o as) E).e:=by
   cases es with
   |nil =>
    refine zF (uk (apos:=ap) (cpos:=pos) pat sl ty mr po (D7 Y.1) B) λW H Q q=>?_;have e:(λ(x:V) (A:Hp)=>RZ X.K m.ty x A/\Pd X.K m x [] A Q)=λ(x:V) (A:Hp)=>RZ X.K m.ty x A/\(wp X.K G.ev as E).a W A λvs H2=>Pd X.K m x vs H2 Q:=by funext x A;rw[o9 (hV as h0.1 O.2)]
    show(wp X.K G.ev o E).e W H (λ(x:V) (A:Hp)=>RZ X.K m.ty x A/\Pd X.K m x [] A Q);rw[e];exact q
   |cons e1 P=>have s2:=jA st;refine iq (apos:=ap) (cpos:=pos) pat sl ty mr po pa (D7 Y.1) ?_ B (NA _ s2.1) (RE s2.2);rw[mV st];have hl':(e1::P).9<20:=QB J.1;show(kb&&kb&&decide ((e1::P).9+0+0<30))=kb;rw[dT (Qr hl' (by decide:20<=30):(e1::P).9+0+0<30)];rfl
  exact Snd.of pe (aD pe λ_=>rfl) (λ_ _ _ z=>by cases z) rfl
 |slc a lo hi Z ihl ihh =>
  intro X S E ok e h nd;let#[v,sl,pos,rfl,h]:=vR h;let#[l,u,st,p2,rfl,h]:=A0 h;have Y:=jA h;have B:=jA Y.2;have J:=jA B.2;have part:∀(q:PX) (w:Option Expr),(∀{e:Expr},KB q S e=kb->PE X e (wp X.K G.ev q E).e)->Uq w (isNop q) (λe=>!isNop q&&KB q S e)=kb ->
    PO X w (λW H R=>(if isNop q=kb then λ(R:Option Int->Hp->Prop)=>R kd H else λR=>(wp X.K G.ev q E).e W H λl H2=>kN l H2 R) R):=by
   intro q w ihq hq;cases w with
   |none=>have e:isNop q=true:=hq;simp only[e,if_true];exact bc|some e' =>
    have q1:=jA hq;have e:isNop q=false:=(Q7 _).mp q1.1;simp only[e,Qu,if_false];intro M s W H Q I w;refine uc (ihq q1.2) M s W H Q I ?_;show(wp X.K G.ev q E).e W H (λ(x:V) (A:Hp)=>∃i,x=.int i/\Q (jr i) A);have e2:(λ(x:V) (A:Hp)=>∃i,x=.int i/\Q (jr i) A)=λ(x:V) (A:Hp)=>kN x A Q:=by funext x A;exact(O6 x A Q).symm
    rw[e2];exact w
  cases QAg.mp Y.1;exact Snd.lit (C6 (pos:=pos) (p2:=p2) rj (Z ok B.1 nd.1).pe (part lo l (λhc=>(ihl ok hc nd.2.1).pe) J.1) (part hi u (λhc=>(ihh ok hc nd.2.2).pe) J.2)) rfl (λ_ _ _ z=>by cases z) rfl
 |comp mask tgs tg d its cond elt ihi ihc ihe =>
  intro X S E ok e h nd;let#[e,gens,scope,pos,rfl,h]:=eW h;let#[#[t,it,ifs,asy],rfl,h]:=aB h;have h0:=jA h;have hi:=jA h0.2;have Y:=jA hi.2;have B:=jA Y.2;have J:=jA B.2;have O:=jA J.2;have h5:=jA O.2;have ea:asy=0:=qb h0.1;cases ea;have C:CompSt X.N X.env.scope scope tgs mask:=by rw[ok.N,ok.sc];exact GU Y.1
  let#[n1,n2,n3,n4]:=nd;have pi:PI X t it (GS λW H R=>(wp X.K G.ev its E).a W H λvs A=>uC X.K d vs A R):=lW ok O.1 n1 ((Q7 _).mp hi.1) λes p q=>ihi ok q n2;refine Snd.lit (Vc (pos:=pos) (g:=CD X.K tg) (tc:=if isNop cond=kb then λ_ H Q=>Q kb H else(wp X.K G.ev cond (λ_ _ _=>False)).t) (te:=(wp X.K G.ev elt (λ_ _ _=>False)).e) ok.calm pi C (λs H ex=>?_) (λx=>UW J.1 x)) rfl (λ_ _ _ z=>by cases z) rfl;have okc:=ok.comp scope tgs mask s H ex;refine#[FY okc (λz=>(QG z).elim) C.nd B.1,?_,(ihe okc h5.2 n4).pe];have hif:=h5.1;cases ifs with|nil=>have e:isNop cond=true:=hif;simp only[e,if_true];exact DY|cons c r=>have q1:=jA hif;have q2:=jA q1.2;cases Qt.mp q1.1;have e:isNop cond=false:=(Q7 _).mp q2.1;simp only[e,Qu,if_false];exact CY (ihc okc q2.2 n3).pt
end
end L2.L3
namespace L2.L3
open PySem PySem.Spec PyProof.Rows
section
variable{s:g7}{f:Expr->List g7->List g7->Bool}
set_option genSizeOf false in
set_option genInjectivity false in
inductive PT where
 |nil|seq (s r:PT)
 |set (i:Nat) (e:PX)
 |expr (e:PX)|ret (e:PX)
 |ife (c:PX) (a b:PT)
 |for_ (tg:Tg) (ik:ItK) (its:PX) (body:PT)
 |own (i:Nat) (e:PX)|tset (is:LN) (e:PX)|six (o i e:PX)|sdf (i:Nat) (k:PX)|whl (c:PX) (body:PT)|frz (is:LN) (s:PT)|hs (s:PT)|lnt (is bs:LN) (a b r:PT)
def uT(K:QC):V->V->V->Hp->(Hp->Prop)->Prop:=λo i v H Q=>match o,i with
 | .ref p,.int k=>∃h j,H p=jr (.lst h)/\FR h.9 k=jr j/\Q (CA H p (.lst (h.set j v)))|.ref p,.str z=>yo K H p (.str z) v Q|.ref p,.ref b=>yo K H p (.ref b) v Q|_,_=>False
noncomputable def Ep(i:Nat)(k:PX):PX:=.mt .setd (.var i) %[k,.dnew kb|1]
def Rx(J:It)(g:TG)(tb:TS)(D:Ends)(σ:St)(w:Hp):Prop:=∃W:Nat->Nat->St->Hp->Prop,(∃m,W 0 m σ w)/\∀i m σ H,W i m σ H ->
 (J.stop i H/\D.nx σ H)∨(J.go i H/\∃N:St->Hp->Prop,(∀h y,N h y->∃u,u < m/\W (i+1) u h y)/\∀x y,J.yld i H x y->g x σ y λz v=>tb { D with nx:=N,ct:=N,bk:=D.nx } z v)
def Zf(K:QC)(xs:List Item)(st:Hp->Prop)(h:Tg)(tb:TS)(D:Ends)(σ:St)(H:Hp):Prop:=∀J,Yields J xs st->Rx J (CD K h) tb D σ H
def HJ(K:QC)(Γ:Ev)(E:XK):PT->TS
 | .nil=>λD h H=>D.nx h H|.seq s r=>λD h H=>HJ K Γ E s { D with nx:=λh H=>HJ K Γ E r D h H } h H|.set i e=>λD h H=>(wp K Γ e E).e h H λx y=>D.nx (h.set i (jr x)) y|.own i e=>λD h H=>(wp K Γ e E).e h H λx y=>D.nx (h.set i (jr x)) y|.expr e=>λD h H=>(wp K Γ e E).e h H λ_ y=>D.nx h y|.ret e=>λD h H=>(wp K Γ e E).e h H D.rt|.ife c a b=>λD h H=>(wp K Γ c E).t h H λk y=>if k=kb then HJ K Γ E a D h y else HJ K Γ E b D h y|.for_ l q u z=>λD h H=>(wp K Γ u E).a h H λj y=>uC K q j y λg st w=>Zf K g st l (HJ K Γ E z) D h w|.tset p e=>λD h H=>(wp K Γ e E).e h H λx y=>CD K (.tp p) x h y D.nx|.six o i e=>λD h H=>(wp K Γ e E).e h H λv y=>(wp K Γ o E).e h y λm w=>(wp K Γ i E).e h w λn Y=>uT K m n v Y λX=>D.nx h X|.sdf i k=>λD h H=>(wp K Γ (Ep i k) E).e h H λ_ y=>D.nx h y|.whl c z=>K5 (wp K Γ c E).t (HJ K Γ E z)|.frz _ s=>HJ K Γ E s|.hs s=>HJ K Γ E s|.lnt _ _ a b r=>λD h H=>HJ K Γ E a { D with nx:=λh H=>HJ K Γ E b { D with nx:=λh H=>HJ K Γ E r D h H } h H } h H
def ZC(G:Glob):PT->Prop
 | .nil=>True|.seq s r=>ZC G s/\ZC G r|.set _ e=>EA G e|.own _ e=>EA G e|.tset _ e=>EA G e|.six o i e=>EA G o/\EA G i/\EA G e|.sdf i k=>EA G (Ep i k)|.whl c h=>EA G c/\ZC G h|.frz _ s=>ZC G s|.hs s=>ZC G s|.lnt _ _ a b r=>ZC G a/\ZC G b/\ZC G r|.expr e=>EA G e|.ret e=>EA G e|.ife c a b=>EA G c/\ZC G a/\ZC G b|.for_ _ y x h=>Sr G y/\EA G x/\ZC G h
noncomputable def gG:Expr->Bool
 | .ListComp _ _ _ _ | .SetComp _ _ _ _ | .DictComp _ _ _ _ _=>kn
 |_=>kb
noncomputable def aQ(S:SC)(i:Nat)(x:Str):Bool:=S.N[i]?==jr x&&(S.sc.names.lookup x==jr .local||S.sc.names.lookup x==jr .cell)
noncomputable def iN:PT->Bool
 | .nil=>kn|.seq _ _=>kn|.frz _ s=>iN s|.hs s=>iN s|.lnt _ _ _ _ _=>kn|_=>kb
noncomputable def YT(s:g7)(f:List Expr->Expr->Bool):Bool:=match s with | .Assign h v _=>f h v|_=>kn
noncomputable def Xk(s:g7)(f:Expr->Bool):Bool:=match s with | .Expr v _=>f v|_=>kn
noncomputable def dg(s:g7)(f:Option Expr->Bool):Bool:=match s with | .Return v _=>f v|_=>kn
noncomputable def fg(s:g7)(f:Expr->List g7->List g7->Bool):Bool:=match s with | .If t x y _=>f t x y|_=>kn
noncomputable def gg(s:g7)(f:Expr->Expr->List g7->List g7->Pos->Bool):Bool:=match s with | .For t it x y p=>f t it x y p|_=>kn
noncomputable def Xq(s:g7)(f:Expr->List g7->List g7->Bool):Bool:=match s with | .While t x y _=>f t x y|_=>kn
noncomputable def Gq:Expr->Bool
 | .Tuple _ _ _=>kn|.List _ _=>kn|_=>kb
theorem NL{f:List Expr->Expr->Bool}(h:YT s f=kb):∃ts v p,s=.Assign ts v p/\f ts v=true:=by
 cases s with|Assign ts v p=>exact#[ts,v,p,rfl,h]|_=>exact(QG h).elim
theorem k7{f:Expr->Bool}(h:Xk s f=kb):∃v p,s=.Expr v p/\f v=true:=by
 cases s with|Expr v p=>exact#[v,p,rfl,h]|_=>exact(QG h).elim
theorem Nc{f:Option Expr->Bool}(h:dg s f=kb):∃v p,s=.Return v p/\f v=true:=by
 cases s with|Return v p=>exact#[v,p,rfl,h]|_=>exact(QG h).elim
theorem Oc(h:fg s f=kb):∃t x y p,s=.If t x y p/\f t x y=true:=by
 cases s with|If t x y p=>exact#[t,x,y,p,rfl,h]|_=>exact(QG h).elim
theorem Pc{f:Expr->Expr->List g7->List g7->Pos->Bool}(h:gg s f=kb):∃t it x y p,s=.For t it x y p/\f t it x y p=true:=by
 cases s with|For t it x y p=>exact#[t,it,x,y,p,rfl,h]|_=>exact(QG h).elim
theorem Yk(h:Xq s f=kb):∃t x y p,s=.While t x y p/\f t x y=true:=by
 cases s with|While t x y p=>exact#[t,x,y,p,rfl,h]|_=>exact(QG h).elim
def setB(S:SC)(i:Nat)(c:Expr->Bool)(l:List g7):Bool:=iL l λst=>YT st λh v=>iL h λt=>iD t λx _=>aQ S i x&&((gG v||S.sc.names.lookup x==jr .cell)&&c v)
def Gg:PX->Bool
 | .comp _ _ _ _ _ _ _=>kb|_=>kn
def aY(S:SC)(i:Nat)(e:PX)(l:List g7):Bool:=iL l λst=>YT st λy v=>iL y λt=>iD t λx z=>Kk v λw u sc h=>Nl S i x&&(S.sc.kind==.function&&(z.line==h.line&&(!(sc.names.any λ(n,k)=>n==x&&(k==.local||k==.cell))&&(Gg e&&KB e S (.ListComp w u sc h)))))
noncomputable def Mc(l:List α)(f:α->α->α->Bool):Bool:=match l with | [x,y,z]=>f x y z|_=>kn
theorem aW{l:List α}{f:α->α->α->Bool}(h:Mc l f=kb):∃x y z,l=[x,y,z]/\f x y z=true:=by
 match l,h with
 |[x,y,z],h=>exact#[x,y,z,rfl,h]
noncomputable def zL(e:Expr):Bool:=match e with | .Starred ..=>kb|_=>kn
noncomputable def Ed(S:SC)(i:Nat)(x:Str):Bool:=S.N[i]?==jr x&&S.sc.names.lookup x==jr .local
def Dp(S:SC)(l:LN)(t v:Expr):Bool:=MY t λw _ _=>MY v λu _ _=>Mc l λi j k=>Mc w λo n m=>Mc u λa b c=>iD o λx h=>iD n λy g=>iD m λz e =>
 (Ed S i x&&(Ed S j y&&Ed S k z))&&((g.line==h.line&&e.line==h.line)&&((x != y&&(x != z&&y != z))&&(S.sc.kind==.function&&(!(zL a||(zL b||zL c))&&(!mu 8 a&&!l0 8 a)))))
def lK:PT->SC->List g7->Bool
 | .nil,_,l=>l.isEmpty|.seq s r,S,l=>v7 l λst l=>iN s&&(lK s S [st]&&lK r S l)|.set i e,S,l=>setB S i (KB e S) l||aY S i e l
 | .own i e,S,l=>setB S i (KB e S) l||aY S i e l
 | .frz _ s,S,l=>lK s S l|.hs s,S,l=>lK s S l|.lnt _ _ a b r,S,l=>v7 l λx l=>iN a&&(lK a S [x]&&v7 l λy l=>iN b&&(lK b S [y]&&lK r S l))|.expr e,S,l=>iL l λst=>Xk st λv=>gG v&&KB e S v|.ret e,S,l=>iL l λst=>dg st λv=>Uq v kn (KB e S)|.ife c a b,S,l=>iL l λst=>fg st λt x y=>KB c S t&&(lK a S x&&lK b S y)|.for_ tg ik its body,S,l=>iL l λst=>gg st λt it x y z=>y.isEmpty&&(Zu kb S tg t&&(XT it&&(Cu (gF its) S ik (λg p=>KB its S (.List g p)) t it z&&lK body S x)))|.tset is e,S,l=>iL l λst=>YT st λh v=>iL h λt=>(Gq v||Dp S is t v)&&(gG v&&(HR t&&(Zu kb S (.tp is) t&&KB e S v)))
 | .six o i e,S,l=>iL l λst=>YT st λh v=>iL h λt=>NY t λw u _=>lR u&&(gG v&&(KB e S v&&(KB o S w&&KB i S u)))|.sdf i k,S,l=>iL l λst=>Xk st λv=>gG v&&KB (Ep i k) S v|.whl c body,S,l=>iL l λst=>Xq st λt x y=>y.isEmpty&&(KB c S t&&lK body S x)
structure OkS(X:Cx)(S:SC)(G:Glob)(E:XK):Prop extends OkX X S G E where
 po:sh (k5 X.prog X.w) X.A X.env X.xe
 nd:X.N.Nodup
 cel:∀x,X.fn x=kb
end
section
variable{X:Cx}{S:SC}{G:Glob}{E:XK}
section
variable{e:PX}{env:Env}{x y z:Str}{m Z Y U pos:Pos}{V i:Nat}{te:TE}{v:Expr}
theorem yK{e:Expr}{t:Option Expr}{n:Nat}(h:gG e=kb):ej e t n env=aj false:=by cases e<;>first|rfl|cases h
theorem EZ{u:Pos}{n:Nat}{a b c:Expr}(q:env.scope.names.lookup x=jr .local)(p:env.scope.names.lookup y=jr .local)(o:env.scope.names.lookup z=jr .local)(l:Z.line=m.line)(j:Y.line=m.line)(f:x≠y)(k:x≠z)(w:y≠z)(hk:env.scope.kind=.function)(hs:(zL a||(zL b||zL c))=kn)(r:mu 8 a=kn)(hc:l0 8 a=kn) :
  ew [.Tuple [.Name x m,.Name y Z,.Name z Y] V U] (.Tuple [a,b,c] n u) env=aj (jr [x,y,z]):=by
 have C:(env.kindOf x==jr .local)=true:=beq_iff_eq.mpr q;have B:(env.kindOf y==jr .local)=true:=beq_iff_eq.mpr p;have A:(env.kindOf z==jr .local)=true:=beq_iff_eq.mpr o;have bk:env.blockKind=.function:=by unfold Env.blockKind;rw[hk];rfl
 unfold ew;dsimp only;have g:((([Expr.Name x m,.Name y Z,.Name z Y].head?).map λx=>x.pos.line).getD 0)=m.line:=rfl;have W:[x,y,z].eraseDups=[x,y,z]:=by simp[List.eraseDups_cons,f.symm,k.symm,w.symm]
 have h:([a,b,c].any zL)=false:=by rw[wK,wK,wK,List.any_nil,QAu];exact hs
 have s:([a,b,c].all (mu 8))=false:=by rw[qW,r];rfl
 have K:([a,b,c].all (l0 8))=false:=by rw[qW,hc];rfl
 simp only[QM,wO,wu,List.filterMap_nil,C,B,A,l,j,bk,g,beq_self_eq_true,QAt,if_true,W];rw[ot (by decide)];refine(ot λz=>by have z:[a,b,c].any zL=true:=z;rw[h]at z;cases z).trans ?_;rw[ot (by decide),s,ot (by decide),K,ot (by decide)]
theorem Fj{j k:Nat}{e:Expr}(hc:X.calm=kb)(L:X.N.Nodup)(hi:X.N[i]?=jr x)(hj:X.N[j]?=jr y)(hk:X.N[k]?=jr z)(C:i≠j)(B:i≠k)(W:j≠k)
  (R:X.env.scope.names.lookup x=jr .local) (Q:X.env.scope.names.lookup y=jr .local) (P:X.env.scope.names.lookup z=jr .local) (he:PE X e te)
  (hw:ew [.Tuple [.Name x m,.Name y Z,.Name z Y] V U] e X.env=aj (jr [x,y,z])) (hs:p8 [.Tuple [.Name x m,.Name y Z,.Name z Y] V U] e pos.line X.env=aj kn) :
  PS X (.Assign [.Tuple [.Name x m,.Name y Z,.Name z Y] V U] e pos) (X5 te (CD X.K (.tp [i,j,k]))):=by
 intro n s σ H D I h;rw[exec_Assign_arm];refine QA (QAw ?_);rw[hs];refine QA (QK ?_);rw[ot (by decide)];refine QA (BB (he n s σ H _ I h) λv s1 #[p,H1,I1,r,O]=>?_);rw[hw];refine QA (QK ?_);cases p with
 |ref p =>
  let#[xs,σ',hq,M,q]:=O;cases r;let#[F,u,pl,_]:=I1.tuple hq
  match xs,M with
  |[x1,x2,x3],M =>
   cases M;obtain⟨l,g,f,rfl,r,r2,r3⟩:∃l g f,F=[l,g,f]/\aA x1 l/\aA x2 g/\aA x3 f:=by
    cases u with
    |cons a u=>cases u with
     |cons b u=>cases u with|cons c u=>cases u;exact#[_,_,_,rfl,a,b,c]
   show k0 (k5 X.prog X.w) X.A (do rule "assign.swapped-stores";let items <- unpackItems (.ref p) 3 kd;ef [λv=>l4 X.env z v,λv=>l4 X.env y v,λv=>l4 X.env x v] items.reverse;aj Flow.next) _ _ _;refine QA (QBU (QA (unpackItems_tuple (items:=(qG [l,g,f])) (I.ok.hd hc) pl λh' J=>?_)));have I3:=I1.kept (h':=h') (t':=s1.toks) λb o e=>J b o (Qk (QV e)) e;show k0 _ _ (ef [λv=>l4 X.env z v,λv=>l4 X.env y v,λv=>l4 X.env x v] [f,g,l] >>= λ_=>aj Flow.next) _ _ _;refine QA (Wc (QBj (EF I3 L hk (.inl P) r3 (λs2 I4=>?_) (.inr P))));refine Wc (QBj (EF I4 L hj (.inl Q) r2 (λs3 I5=>?_) (.inr Q)));refine Wc (QBj (EF I5 L hi (.inl R) r (λs4 I6=>QCM (QK ?_)) (.inr R)));rw[QB7 _ _ W.symm,QB7 _ _ B.symm,QB7 _ _ C.symm]at I6;exact#[_,H1,I6,q]
 |_=>exact Qf O
theorem J6(ok:OkX X S G E)(nd:X.N.Nodup){p:LN}{t:Expr}(h:Dp S p t v=kb)(hs:ej v (jr t) pos.line X.env=aj kn)(he:PE X v te):PS X (.Assign [t] v pos) (X5 te (CD X.K (.tp p))):=by let#[ts,V,U,q1,J]:=kR h;let#[vs,kv,pv,H,I]:=kR J;let#[i,j,k,R,F]:=aW I;let#[e1,e2,e3,Q,C]:=aW F;let#[a,b,c,P,B]:=aW C;let#[x,m,O,A]:=jC B;let#[y,Z,M,W]:=jC A;let#[z,Y,L,g8]:=jC W;subst O M L Q P R q1 H;clear h J I F C B A W;revert g8;intro h;simp only[Ed,QW,beq_iff_eq,bne_iff_ne,ne_eq,Q7]at h;rw[<- ok.N,<- ok.sc]at h;let#[#[#[f,s],#[w,r],hk,q],#[l1,l2],#[o,l,g],kf,st,hf,hc]:=h;have u:∀{i j:Nat}{x y:Str},X.N[i]?=jr x->X.N[j]?=jr y->x≠y->i≠j:=λa b n e=>n (Ql (by rw[<- a,e,b]));exact Fj ok.calm nd f w hk (u f w o) (u f hk l) (u w hk g) s r q he (EZ s r q l1 l2 o l g kf st hf hc) hs
theorem S5(W:X.A.units+66<hZ):tf X (uT X.K):=by
 intro w s a H o i v n r u Q I g l f h;cases o with
 |ref p =>
  cases i with|int k=>let#[B,j,F,C,q]:=h;exact T5 w s a H _ _ v n r u Q I g l f #[p,B,k,j,rfl,rfl,F,C,q]|str z=>exact xT W w s a H _ _ v n r u Q I g l f h|ref b=>exact xT W w s a H _ _ v n r u Q I g l f h|_=>exact Qf h
 |_=>exact Qf h
theorem IZ(ok:OkX X S G E)(h:aQ S i x=kb):X.N[i]?=jr x/\Uo X.env.scope x:=by simp only[aQ,QW,wm,beq_iff_eq]at h;rw[ok.N,ok.sc];exact#[h.1,h.2]
theorem G0(ok:OkS X S G E)(j:aQ S i x=kb)(a:(gG v||S.sc.names.lookup x==jr .cell)=kb)(pe:PE X v (wp X.K G.ev e E).e) :
  PS X (.Assign [.Name x m] v pos) (HJ X.K G.ev E (.set i e)):=by
 let#[n,l]:=IZ ok.toOkX j;refine Gj (pos':=m) ok.nd n l pe ?_ (.inl (ok.cel x));cases w:gG v with
 |true=>exact yK w|false =>
  rw[w,QAv,beq_iff_eq,<- ok.sc]at a;have hk:X.env.kindOf x=jr .cell:=a;have key:∀(b c:Bool) (u h:Nat),(aj (b&&X.env.kindOf x==jr .local&&u==h&&!c):Sem Bool)=aj false:=λb c u h=>by
   rw[hk];have:(b&&(jr NameKind.cell==jr NameKind.local)&&u==h&&!c)=false:=by cases b<;>rfl
   rw[this]
  cases v with|ListComp o f sc g=>exact key _ _ _ _|SetComp o f sc g=>exact key _ _ _ _|DictComp k v f sc g=>exact key _ _ _ _|_=>cases w
theorem fe(h:Gg e=kb):∃a b c d f g k,e=.comp a b c d f g k:=by
 cases e with|comp a b c d f g k=>exact#[a,b,c,d,f,g,k,rfl]|_=>exact(QG h).elim
theorem Lj(ok:OkS X S G E){l:List g7}(h:aY S i e l=kb)(nd:EA G e):∃st,l=[st]/\PS X st (HJ X.K G.ev E (.set i e)):=by
 let#[st,e1,q1]:=aB h;let#[ts,v,p,e2,q2]:=NL q1;let#[t,e3,q3]:=aB q2;let#[x,m,e4,q4]:=jC q3;let#[el,gs,sc,cp,e5,q5]:=eW q4;subst e1 e2 e3 e4 e5;have R:=jA q5;have P:=jA R.2;have O:=jA P.2;have M:=jA O.2;have L:=jA M.2;let#[w,b,tg,ik,A,u,o,rfl]:=fe L.1;refine#[_,rfl,?_];have h6:=L.2;let#[el',gens,W,pos,ee,g]:=eW h6;cases ee;let#[#[t,it,B,F],rfl,g]:=aB g;have g0:=jA g;have gi:=jA g0.2;have g1:=jA gi.2;have g2:=jA g1.2;have g3:=jA g2.2;have g4:=jA g3.2;have g5:=jA g4.2;have ea:F=0:=qb g0.1;cases ea;have C:CompSt X.N X.env.scope sc b w:=by rw[ok.N,ok.sc];exact GU g1.1
 let#[n1,n2,n3,n4]:=nd;let#[l1,l2]:=Ad R.1;have f:X.env.scope.names.lookup x=jr .local:=by rw[ok.sc];exact l2
 refine xc (g:=CD X.K tg) (tc:=if isNop u=kb then λ_ H Q=>Q kb H else(wp X.K G.ev u (λ_ _ _=>False)).t) (te:=(wp X.K G.ev o (λ_ _ _=>False)).e) ok.calm ok.nd (by rw[ok.N];exact l1) f (lW ok.toOkX (pos:=cp) g4.1 n1 ((Q7 _).mp gi.1) λes p q=>snd A ok.toOkX q n2) C (λs H ex=>?_) (λx=>UW g3.1 x) ?_;have a:=ok.toOkX.comp sc b w s H ex;refine#[FY a (λz=>(QG z).elim) C.nd g2.1,?_,(snd o a g5.2 n4).pe];have j:=g5.1;cases B with|nil=>have e:isNop u=true:=j;simp only[e,if_true];exact DY|cons c r=>have J:=jA j;have I:=jA J.2;cases Qt.mp J.1;have e:isNop u=false:=(Q7 _).mp I.1;simp only[e,Qu,if_false];exact CY (snd u a I.2 n3).pt
 have k1:X.env.scope.kind=.function:=by rw[ok.sc];exact qb P.1
 have k2:(X.env.blockKind==.function)=true:=by simp[Env.blockKind,k1,ScopeKind.isAnnotationScope]
 have k3:(X.env.kindOf x==jr .local)=true:=by show(X.env.scope.names.lookup x==jr .local)=kb;rw[f];rfl
 show(aj (X.env.blockKind==.function&&X.env.kindOf x==jr .local&&m.line==cp.line&&!(sc.names.any λ(n,k)=>n==x&&(k==.local||k==.cell))):Sem Bool)=aj kb;rw[k2,k3,O.1,M.1];rfl
theorem yw:∀(p:PT) {l:List g7},OkS X S G E->lK p S l=kb->ZC G p->zY X l (HJ X.K G.ev E p)/\(iN p=kb->∀st,l=[st]->PS X st (HJ X.K G.ev E p)):=by
 intro p;have one:∀{p:PT}{st:g7},PS X st (HJ X.K G.ev E p)->zY X [st] (HJ X.K G.ev E p)/\(iN p=kb->∀A,[st]=[A]->PS X A (HJ X.K G.ev E p)):=λh=>#[XY h,λ_ A e=>by cases e;exact h]
 have W:∀{i:Nat}{e:PX}{l:List g7},OkS X S G E->(setB S i (KB e S) l||aY S i e l)=kb->EA G e->∃st,l=[st]/\PS X st (HJ X.K G.ev E (.set i e)):=λ{i e l} ok h nd=>by
  rcases(wm _ _).mp h with h|h
  rotate_left
  exact Lj ok h nd;let#[st,O,L]:=aB h;let#[ts,v,p,N,J]:=NL L;let#[t,M,q3]:=aB J;let#[x,m,e4,Q]:=jC q3;subst O N M e4;have u:=jA Q;have f:=jA u.2;exact#[_,rfl,G0 ok u.1 f.1 (snd e ok.toOkX f.2 nd).pe]
 induction p with
 |nil=>intro l ok h nd;cases Qt.mp h;exact#[vc,λh=>(QG h).elim]|seq s r H B=>intro l ok h nd;let#[st,l,rfl,h]:=XH h;have u:=jA h;have f:=jA u.2;exact#[GM ((H ok f.1 nd.1).2 u.1 st rfl) (B ok f.2 nd.2).1,λh=>(QG h).elim]|set i e=>intro l ok h nd;let#[st,rfl,q]:=W ok h nd;exact one q|own i e=>intro l ok h nd;let#[st,rfl,q]:=W ok h nd;exact one q|expr e=>intro l ok h nd;let#[st,rfl,h]:=aB h;let#[v,p,rfl,h]:=k7 h;have u:=jA h;exact one (BY (snd e ok.toOkX u.2 nd).pe (yK u.1))|ret e =>
  intro l ok h nd;let#[st,rfl,h]:=aB h;let#[v,p,rfl,h]:=Nc h;cases v with|none=>exact(QG h).elim|some v=>exact one (Y6 (snd e ok.toOkX h nd).pe)
 |ife c a b F C=>intro l ok h nd;let#[st,rfl,h]:=aB h;let#[t,x,y,p,rfl,h]:=Oc h;have u:=jA h;have f:=jA u.2;exact one (mq (snd c ok.toOkX u.1 nd.1).pt (F ok f.1 nd.2.1).1 (C ok f.2 nd.2.2).1)|for_ tg ik R P I=>intro l ok h nd;let#[st,rfl,h]:=aB h;let#[t,it,x,y,p,rfl,h]:=Pc h;have h0:=jA h;have u:=jA h0.2;have f:=jA u.2;have j:=jA f.2;cases Qt.mp h0.1;exact one (Hj ok.po ok.calm (rc ok.toOkX j.1 nd.1 λes p q=>snd R ok.toOkX q nd.2.1) (FY ok.toOkX (λ_=>ok.cel) ok.nd u.1) (I ok j.2 nd.2.2).1 λx=>UW f.1 x)|tset is e =>
  intro l ok h nd;let#[st,O,L]:=aB h;let#[ts,v,p,N,J]:=NL L;let#[t,M,h]:=aB J;subst O N M;have u:=jA h;have f:=jA u.2;have j:=jA f.2;have n:=jA j.2;rcases Bool.or_eq_true_iff.mp u.1 with hv|hv;cases t with
  |Tuple es k U =>
   refine one (K6 (snd e ok.toOkX n.2 nd).pe (FY ok.toOkX (λ_=>ok.cel) ok.nd n.1) ?_ ?_ ?_);show ej v (jr (.Tuple es k U)) p.line X.env=aj kn;exact yK f.1;cases v<;>first|rfl|exact(QG hv).elim
   rfl
  |_=>exact(QG j.1).elim
  exact one (J6 ok.toOkX ok.nd hv (yK f.1) (snd e ok.toOkX n.2 nd).pe)
 |six o i e =>
  intro l ok h nd;let#[st,O,L]:=aB h;let#[ts,v,p,N,J]:=NL L;let#[t,M,h]:=aB J;subst O N M;let#[ov,iv,pp,e4,Q]:=vR h;subst e4;have u:=jA Q;have f:=jA u.2;have j:=jA f.2;have n:=jA j.2;refine one (K6 (snd e ok.toOkX j.1 nd.2.2).pe (Aj (pos:=pp) (snd o ok.toOkX n.1 nd.1).pe (snd i ok.toOkX n.2 nd.2.1).pe (S5 ok.un) ?_) ?_ ?_ ?_);intro w;cases iv<;>first|rfl|exact(QG u.1).elim
  show ej v (jr (.Subscript ov iv pp)) p.line X.env=aj kn;exact yK f.1;cases v<;>rfl;rfl
 |sdf i k=>intro l ok h nd;let#[st,rfl,h]:=aB h;let#[v,p,rfl,h]:=k7 h;have u:=jA h;exact one (BY (snd (Ep i k) ok.toOkX u.2 nd).pe (yK u.1))|whl c P I=>intro l ok h nd;let#[st,rfl,h]:=aB h;let#[t,x,y,p,rfl,h]:=Yk h;have u:=jA h;have f:=jA u.2;cases Qt.mp u.1;exact one (i6 ok.po (snd c ok.toOkX f.1 nd.1).pt (I ok f.2 nd.2).1)|frz is s I=>intro l ok h nd;exact I ok h nd|hs s I=>intro l ok h nd;exact I ok h nd|lnt is bs a b r F C B=>intro l ok h nd;let#[x,l,rfl,h]:=XH h;have u:=jA h;have f:=jA u.2;let#[y,l',e',g]:=XH f.2;subst e';have j:=jA g;have n:=jA j.2;exact#[GM ((F ok f.1 nd.1).2 u.1 x rfl) (GM ((C ok n.1 nd.2.1).2 j.1 y rfl) (B ok n.2 nd.2.2).1),λh=>(QG h).elim]
end
end
noncomputable abbrev D:=gV
set_option genInjectivity true in
inductive T where
 |d (x:D)|lst (ts:List T)|tup (ts:List T)|dct (b:Bool) (ks:List D) (ts:List T)
abbrev LT:=List T
mutual
def T.er:T->D
 | .d x=>x|.lst h=>.list (ersT h)|.tup h=>.tuple (ersT h)|.dct _ y h=>.dict (y.zip (ersT h))
def ersT:LT->List D
 |[]=>[]|t::r=>t.er::ersT r
end
theorem gB(ds:List D):ersT (ds.map T.d)=ds:=by
 induction ds with|nil=>rfl|cons d r h=>simp only[QT,ersT,h,T.er]
theorem c9:∀(ts:LT),(ersT ts).9=ts.9
 |[]=>rfl|t::r=>by simp only[ersT,QM,c9 r]
theorem yS:∀(ts:LT),ersT ts=ts.map T.er
 |[]=>rfl|t::r=>by simp only[ersT,QT,yS r]
def T.isD:T->Bool
 | .d _=>kb|_=>kn
set_option genInjectivity true in
inductive Sl where
 |own (t:T)|bor (t:T)
noncomputable abbrev kA:=List (Option Sl)
abbrev bD(x:D):Option Sl:=jr (.bor (.d x))
abbrev oW(t:T):Option Sl:=jr (.own t)
def RF(t:T)(n:Bool):Bool:=n||t.isD
def gA(t:T):Bool->T
 |true=>.d t.er|false=>t
theorem sA(x:D)(n:Bool):gA (.d x) n=.d x:=by cases n<;>rfl
theorem nZ(t:T)(n:Bool):(gA t n).er=t.er:=by cases n<;>rfl
noncomputable def gH:LT->Option (List D)
 |[]=>jr []|.d x::r=>(gH r).map (x::·)|_::_=>kd
theorem VA(ds:List D):gH (ds.map T.d)=jr ds:=by
 induction ds with|nil=>rfl|cons d r h=>simp only[QT,gH,h,qD]
theorem mM:∀{ts:LT}{ds:List D},gH ts=jr ds->ts=ds.map T.d
 |[],ds,h=>by simp only[gH,Qq]at h;subst h;rfl|.d x::r,ds,h=>by
  simp only[gH]at h;cases e:gH r with|none=>rw[e]at h;cases h|some y=>rw[e]at h;cases h;rw[QT,mM e]
 | .lst _::_,_,h=>by simp[gH]at h|.tup _::_,_,h=>by simp[gH]at h|.dct _ _ _::_,_,h=>by simp[gH]at h
noncomputable def xD:List (D×D)->Option Bool
 | (.tuple _,_)::_=>jr kb|(.str _,_)::_=>jr kn|_=>kd
def SD:Bool->D->Prop
 |true,k=>∃q,k=tD (.t q)/\G7 (.t q)<=6|false,k=>∃z,k=.str z
open Classical in
noncomputable def dA:List D->D->Option Nat
 |[],_=>kd|x::r,k=>if x=k then jr 0 else(dA r k).map (·+1)
def EJ(b:Bool)(ks:List D)(ts:LT)(k:D)(t:T):T:=match dA ks k with
 |some n=>.dct b ks (ts.set n t)|none=>.dct b (ks++[k]) (ts++[t])
theorem TC:∀{ks:List D}{k:D}{n:Nat},dA ks k=jr n->ks[n]?=jr k
 |[],_,_,h=>by cases h|x::r,k,n,h=>by
  unfold dA at h;by_cases e:x=k;rw[oa e]at h;cases h;rw[e];rfl;rw[ot e]at h;cases q:dA r k with|none=>rw[q]at h;cases h|some m=>rw[q]at h;cases h;simpa using TC q
theorem zB:∀{ks:List D}{k:D},dA ks k=kd↔k∉ks
 |[],_=>by simp[dA]|x::r,k=>by unfold dA;by_cases e:x=k;simp[e];rw[ot e,Option.map_eq_none_iff,zB];simp[Q1 e]
theorem nX{ks:List D}{k:D}:(dA ks k).isSome=kb↔k∈ks:=by
 cases h:dA ks k with|none=>simp[zB.mp h]|some n=>simp[qa (TC h)]
set_option genInjectivity true in
inductive Vw where
 |sc (x:D)|ls (ts:LT)|tp (ts:LT)|dc (b:Bool) (ks:List D) (ts:LT)
def DB(kvs:List (D×D)):Vw:=match xD kvs with
 |some b=>.dc b (kvs.map (·.1)) (kvs.map λp=>T.d p.2)|none=>.sc (.dict kvs)
def T.vw:T->Vw
 | .lst h=>.ls h|.tup h=>.tp h|.dct b u h=>.dc b u h|.d x=>match x with
  | .list z=>.ls (z.map T.d)|.tuple z=>.tp (z.map T.d)|.dict y=>DB y|.none=>.sc .none|.bool b=>.sc (.bool b)|.int i=>.sc (.int i)|.str s=>.sc (.str s)
def vD(ts:LT):T:=match gH ts with
 |some h=>.d (.tuple h)|none=>.tup ts
noncomputable abbrev XD:=kt×List (Str×D)
noncomputable abbrev XE:=XD->Prop
noncomputable abbrev TK:=T->Bool->kA->Prop
inductive Md where
 |fro|shal|bor|chg
 deriving DecidableEq
structure PSp where
 md:List Md:=[]
 run:LT->(T->LT->Prop)->XE->Prop
 mono:∀{ts:LT}{Q Q':T->LT->Prop}{E E':XE},(∀t os,Q t os->Q' t os)->(∀x,E x->E' x)->run ts Q E->run ts Q' E':=by intro _ _ _ _ _ h _ z;(repeat let#[y,z]:=z;refine#[y,?_]);first|exact h _ _ z|(intros;apply h;apply z<;>assumption)
structure PEv where
 sp:Str->PSp
 va:Str->Option D
def binT(w:hE)(x y:Vw)(Q:T->Bool->Prop):Prop:=match w with
 | .Add=>(∃i j,x=.sc (.int i)/\y=.sc (.int j)/\Q (.d (.int (i+j))) kn)∨(∃a b,x=.sc (.str a)/\y=.sc (.str b)/\a.9+b.9<=ku/\Q (.d (.str (a++b))) kn) ∨
  (∃v u z h,x=.ls v/\y=.ls u/\gH v=jr z/\gH u=jr h/\z.9+h.9<=ku/\Q (.lst ((z++h).map T.d)) kb)
 | .Sub=>∃i j,x=.sc (.int i)/\y=.sc (.int j)/\Q (.d (.int (i - j))) kn|.Mult=>∃i j,x=.sc (.int i)/\y=.sc (.int j)/\nc i j/\Q (.d (.int (i * j))) kn|.FloorDiv=>∃i j,x=.sc (.int i)/\y=.sc (.int j)/\(0<j/\j<2 ^ 200)/\Q (.d (.int (i / j))) kn|.Mod=>∃i j,x=.sc (.int i)/\y=.sc (.int j)/\0<j/\Q (.d (.int (i % j))) kn|_=>False
section
variable{Q:T->Bool->Prop}
theorem Xn(i j:Int):binT .Add (.sc (.int i)) (.sc (.int j)) Q=Q (.d (.int (i+j))) false:=by simp[binT]
theorem Vn(a b:Str):binT .Add (.sc (.str a)) (.sc (.str b)) Q=(a.9+b.9<=ku/\Q (.d (.str (a++b))) kn):=by simp[binT]
theorem Zn(i j:Int):binT .Sub (.sc (.int i)) (.sc (.int j)) Q=Q (.d (.int (i - j))) false:=by simp[binT]
theorem Yn(i j:Int):binT .Mult (.sc (.int i)) (.sc (.int j)) Q=(nc i j/\Q (.d (.int (i * j))) kn):=by simp[binT]
theorem Jn(i j:Int):binT .FloorDiv (.sc (.int i)) (.sc (.int j)) Q=((0<j/\j<2 ^ 200)/\Q (.d (.int (i / j))) kn):=by simp[binT]
theorem on(i j:Int):binT .Mod (.sc (.int i)) (.sc (.int j)) Q=(0<j/\Q (.d (.int (i % j))) kn):=by simp[binT]
end
section
variable{Q:T->Prop}
def Nu:D->D->(Bool->Prop)->Prop
 | .int i,.int j,Q=>Q (decide (i=j))|.str x,.str y,Q=>Q (decide (x=y))|.bool x,.bool y,Q=>Q (decide (x=y))|a,b,Q=>AE a/\AE b/\Q (Qp a b)
noncomputable def YB:D->Bool
 | .none | .bool _ | .int _ | .str _=>kb
 |_=>kn
def Du:D->D->(Bool->Prop)->Prop
 | .str x,.str y,Q=>Q (inStr y x)|a,.list ds,Q|a,.tuple ds,Q=>((YB a=kb/\ds.all YB=kb)∨(AE a/\AE (.list ds)))/\Q (ds.any λy=>Qp y a)
 |a,.dict kvs,Q=>∃b,xD kvs=jr b/\SD b a/\Q (dA (kvs.map (·.1)) a).isSome|_,_,_=>False
def O0(f:Int->Int->Bool):D->D->(Bool->Prop)->Prop
 | .int i,.int j,Q=>Q (f i j)|_,_,_=>False
def G8:D->Bool
 | .none=>kb|_=>kn
def J3:D->D->(Bool->Prop)->Prop
 |a,.none,Q=>Q (G8 a)|.bool a,.bool b,Q=>Q (decide (a=b))|_,_,_=>False
def HU:bb->D->D->(Bool->Prop)->Prop
 | .Eq,a,b,Q=>Nu a b Q|.NotEq,a,b,Q=>Nu a b λk=>Q (!k)|.Lt,a,b,Q=>O0 (λi j=>decide (i<j)) a b Q|.LtE,a,b,Q=>O0 (λi j=>decide (i<=j)) a b Q|.Gt,a,b,Q=>O0 (λi j=>decide (j<i)) a b Q|.GtE,a,b,Q=>O0 (λi j=>decide (j<=i)) a b Q|.In,a,b,Q=>Du a b Q|.NotIn,a,b,Q=>Du a b λk=>Q (!k)|.Is,a,b,Q=>J3 a b Q|.IsNot,a,b,Q=>J3 a b λk=>Q (!k)
def Oe(h:bb)(x:D)(y:T)(Q:Bool->Prop):Prop:=match y with
 | .dct b u _=>SD b x/\((h=.In/\Q (dA u x).isSome)∨(h=.NotIn/\Q (!(dA u x).isSome)))|.d y=>HU h x y Q|.lst z=>HU h x (.list (ersT z)) Q|.tup z=>HU h x (.tuple (ersT z)) Q
def sI:D->(Bool->Prop)->Prop
 | .bool b,Q=>Q b|.int i,Q=>Q (i != 0)|.none,Q=>Q kn|.str z,Q=>z.9<=ku/\Q ((z.9:Int) != 0)|.list ds,Q=>Q (!ds.isEmpty)|.tuple ds,Q=>Q (!ds.isEmpty)|_,_=>False
def uf:D->(Bool->Prop)->Prop
 | .bool b,Q=>Q b|_,_=>False
def UU(x:Vw)(k:D)(Q:T->Prop):Prop:=∃b y h n t,x=.dc b y h/\SD b k/\dA y k=jr n/\h[n]?=jr t/\Q t
def XO(x y:Vw)(Q:T->Prop):Prop:=(∃z i c,x=.sc (.str z)/\y=.sc (.int i)/\z.9<=ku/\NC z.cps.toList i=jr c/\Q (.d (.str #[(qG [c])]))) ∨
 (∃h i t,x=.ls h/\y=.sc (.int i)/\NC h i=jr t/\Q t)∨(∃h i t,x=.tp h/\y=.sc (.int i)/\NC h i=jr t/\Q t)
theorem Jm(z:Str)(i:Int):XO (.sc (.str z)) (.sc (.int i)) Q=(z.9<=ku/\∃c,NC z.cps.toList i=jr c/\Q (.d (.str #[(qG [c])]))):=by simp[XO]
theorem P8(ts:LT)(i:Int):XO (.ls ts) (.sc (.int i)) Q=∃t,NC ts i=jr t/\Q t:=by simp[XO]
theorem O8(ts:LT)(i:Int):XO (.tp ts) (.sc (.int i)) Q=∃t,NC ts i=jr t/\Q t:=by simp[XO]
noncomputable def SF{α:Type}(xs:List α)(h x:Option Int):List α:=(xs.drop (HT.sIx xs.9 0 h)).take (HT.sIx xs.9 xs.9 x - HT.sIx xs.9 0 h)
def BI(x:Vw)(u v:Option Int)(Q:T->Bool->Prop):Prop:=(∃z,x=.sc (.str z)/\z.9<=ku/\Q (.d (.str (WB z u v))) kn)∨(∃y h,x=.ls y/\gH y=jr h/\Q (.lst ((SF h u v).map T.d)) kb) ∨
 (∃y h,x=.tp y/\gH y=jr h/\¬ (HT.sIx h.9 0 u=0/\HT.sIx h.9 h.9 v=h.9)/\Q (.d (.tuple (SF h u v))) kn)
end
section
variable{Q:T->Bool->Prop}{h x:Option Int}
theorem mj(z:Str):BI (.sc (.str z)) h x Q=(z.9<=ku/\Q (.d (.str (WB z h x))) kn):=by simp[BI]
theorem P5(ts:LT):BI (.ls ts) h x Q=∃ds,gH ts=jr ds/\Q (.lst ((SF ds h x).map T.d)) true:=by simp[BI]
end
def fG:D->(Option Int->Prop)->Prop
 | .int i,Q=>Q (jr i)|_,_=>False
noncomputable def isD(n:String):D->Option Bool
 | .none=>jr kn|.bool _=>jr (n == "bool" || n == "int")
 | .int _=>jr (n == "int")|.str _=>jr (n == "str")|.list _=>jr (n == "list")|.tuple _=>jr (n == "tuple")|.dict _=>kd
noncomputable def BP(n:String):Bool:=n == "bool" || n == "int" || n == "str" || n == "list" || n == "tuple" || n == "ValueError"
def TD(l:LS):D:=.list (l.map j0)
def x4(f:Bi)(vs:List Vw)(Q:T->Bool->Prop):Prop:=match f with
 | .len=>(∃z,vs=[.sc (.str z)]/\z.9<=ku/\Q (.d (.int z.9)) kn)∨(∃h,vs=[.ls h]/\Q (.d (.int h.9)) kn)∨(∃h,vs=[.tp h]/\Q (.d (.int h.9)) kn)|.any=>∃h,∃bs:List Bool,vs=[.ls h]/\gH h=jr (bs.map PyData.bool)/\Q (.d (.bool (bs.any id))) kn|.sorted=>(∃h,∃v:LS,vs=[.ls h]/\gH h=jr (v.map j0)/\v.9<64/\∀x:LS,x.Perm v->Ia x=kb->Q (.lst ((x.map j0).map T.d)) kb) ∨
  (∃h,∃ls:List (LS),vs=[.ls h]/\gH h=jr (ls.map TD)/\ls.9<64/\∀u:List (LS),u.Perm ls->Q (.lst ((u.map TD).map T.d)) kb) ∨
  (∃h,∃w:LJ,vs=[.ls h]/\gH h=jr (w.map j1)/\w.9<64/\∀y:LJ,y.Perm w->y.Pairwise (·<=·)->Q (.lst ((y.map j1).map T.d)) kb)
 | .min=>∃i j,vs=[.sc (.int i),.sc (.int j)]/\Q (.d (.int (if j<i then j else i))) kn|.tuple=>∃h k,vs=[.ls h]/\gH h=jr k/\Q (.d (.tuple k)) kn
section
variable{Q:T->Bool->Prop}
theorem lh(ts:LT):x4 .len [.ls ts] Q=Q (.d (.int ts.9)) false:=by simp[x4]
theorem ft(ts:LT):x4 .any [.ls ts] Q=∃bs:List Bool,gH ts=jr (bs.map PyData.bool)/\Q (.d (.bool (bs.any id))) false:=by simp[x4]
theorem Cn(i j:Int):x4 .min [.sc (.int i),.sc (.int j)] Q=Q (.d (.int (if j<i then j else i))) false:=o9 #[λ#[_,_,e,h]=>by cases e;exact h,λh=>#[_,_,rfl,h]]
theorem gh(ts:LT):x4 .tuple [.ls ts] Q=∃ds,gH ts=jr ds/\Q (.d (.tuple ds)) false:=by simp[x4]
end
section
variable{N:T->T->Prop}
def Xu(m:Mt)(x:Vw)(vs:List Vw)(Q:T->Bool->Prop):Prop:=match m with
 | .index=>∃z y i h,x=.sc (.str z)/\vs=[.sc (.str y)]/\qE z y 0 z.9 1=i::h/\Q (.d (.int ((i:Nat):Int))) kn|_=>False
def Sb(x:Vw)(Q:T->Bool->Prop):Prop:=∃h y,x=.ls h/\gH h=jr y/\Q (.lst (y.reverse.map T.d)) kb
def Vw.isS:Vw->Bool
 | .sc (.str _)=>kb|_=>kn
noncomputable def isMut:Mt->Bool
 | .append=>kb|.pop=>kb|.setd=>kb|.extend=>kb|.index=>kn
def E7(m:Mt)(x:Vw):Bool:=x.isS&&!isMut m
def JL(m:Mt)(s:T)(us:LT)(N:T->T->Prop):Prop:=match m with
 | .append=>∃h t,s=.lst h/\us=[t]/\h.9<ku/\N (.d .none) (.lst (h++[t]))|.pop=>∃h i k t,s=.lst h/\us=[.d (.int i)]/\FR h.9 i=jr k/\h[k]?=jr t/\N t (.lst (h.eraseIdx k))|.extend=>∃h x,s=.lst h/\us=[.lst x]/\h.9+x.9<=ku/\N (.d .none) (.lst (h++x))|_=>False
theorem T7(ts:LT)(t:T):JL .append (.lst ts) [t] N=(ts.9<ku/\N (.d .none) (.lst (ts++[t]))):=by simp[JL]
theorem R7(ts vs:LT):JL .extend (.lst ts) [.lst vs] N=(ts.9+vs.9<=ku/\N (.d .none) (.lst (ts++vs))):=by simp[JL]
theorem S7(ts:LT)(i:Int):JL .pop (.lst ts) [.d (.int i)] N=∃k t,FR ts.9 i=jr k/\ts[k]?=jr t/\N t (.lst (ts.eraseIdx k)):=by simp[JL]
noncomputable def zX:Mt->Bool
 | .append=>kb|.pop=>kb|.setd=>kn|.extend=>kb|.index=>kn
def yJ(m:Mt):T->Bool
 | .lst _=>zX m|_=>kn
noncomputable def Vw.seq:Vw->Option (LT)
 | .ls h=>jr h|.tp h=>jr h|_=>kd
def LB(u:ItK)(vs:List Vw)(R:LT->Prop):Prop:=match u with
 | .val=>(∃h,vs=[.ls h]/\R h)∨(∃h,vs=[.tp h]/\R h)∨(∃y h,vs=[.dc kb y h]/\R (y.map T.d))|.rng1=>∃j,vs=[.sc (.int j)]/\(-(2 ^ 62)<=j/\j<2 ^ 62)/\R ((Qm j.toNat).map λ(i:Nat)=>.d (.int (i:Int)))|.rev=>∃h,vs=[.ls h]/\R h.reverse|.enum=>∃x h z,vs=[x]/\x.seq=jr h/\gH h=jr z/\R (z.zipIdx.map λp=>.d (.tuple [.int (p.2:Int),p.1]))|.itm=>(∃y h z,vs=[.dc kb y h]/\gH h=jr z/\R ((y.zip z).map λp=>.d (.tuple [p.1,p.2])))∨(vs=[.sc (.dict [])]/\R [])
end
section
variable{R:LT->Prop}
theorem bJ(ts:LT):LB .val [.ls ts] R=R ts:=by simp[LB]
theorem C8(ts:LT):LB .val [.tp ts] R=R ts:=by simp[LB]
theorem B8(j:Int):LB .rng1 [.sc (.int j)] R=((-(2 ^ 62)<=j/\j<2 ^ 62)/\R ((Qm j.toNat).map λ(i:Nat)=>.d (.int (i:Int)))):=by simp[LB]
theorem oU(x:Vw):LB .enum [x] R=∃ts ds,x.seq=jr ts/\gH ts=jr ds/\R (ds.zipIdx.map λp=>.d (.tuple [.int (p.2:Int),p.1])):=by apply o9;constructor;rintro⟨_,ts,ds,⟨⟩,h⟩;exact#[ts,ds,h];rintro⟨ts,ds,h⟩;exact#[_,ts,ds,rfl,h]
theorem nU(ks:List D)(ts:LT):LB .itm [.dc kb ks ts] R=∃ds,gH ts=jr ds/\R ((ks.zip ds).map λp=>.d (.tuple [p.1,p.2])):=by apply o9;constructor;rintro(⟨_,_,ds,⟨⟩,h⟩| ⟨⟨⟩,_⟩);exact#[ds,h];rintro⟨ds,h⟩;exact .inl #[_,_,ds,rfl,h]
theorem mU(ks:List D)(ts:LT):LB .val [.dc kb ks ts] R=R (ks.map T.d):=by simp[LB]
theorem U8:LB .itm [.sc (.dict [])] R=R []:=by apply o9;constructor;rintro(⟨_,_,x,⟨⟩,h⟩| ⟨_,h⟩);exact h;exact λh=>.inr #[rfl,h]
end
noncomputable def eB:LN->LT->kA->Option kA
 |[],[],ρ=>jr ρ|i::is,t::ts,ρ=>eB is ts (ρ.set i (jr (.bor t)))|_,_,_=>kd
def bL:Tg->T->kA->(kA->Prop)->Prop
 | .nm i,t,ρ,Q=>Q (ρ.set i (jr (.bor t)))|.tp is,t,ρ,Q=>match t.vw with
  | .tp x=>∃h,eB is x ρ=jr h/\Q h|_=>False
def Tg.ix:Tg->LN
 | .nm i=>[i]|.tp h=>h
def k6:PX->Option Nat
 | .var i=>jr i|_=>kd
noncomputable def lG:Option Sl->Option Sl
 |some (.own t)=>jr (.bor t)|s=>s
def lockA(ρ:kA):kA:=ρ.map lG
def lock:LN->kA->kA
 |[],ρ=>ρ|i::is,ρ=>lock is (ρ.modify i lG)
def gX:Option Sl->Option Sl
 |some (.own t)=>bD t.er|s=>s
noncomputable def frzAt:LN->kA->kA
 |[],ρ=>ρ|i::is,ρ=>frzAt is (ρ.modify i gX)
noncomputable def xJ:Option Sl->Option Sl
 |some (.bor t)=>if t.isD=kb then jr (.bor t) else kd|s=>s
def kill:LN->kA->kA
 |[],ρ=>ρ|i::is,ρ=>kill is (ρ.modify i xJ)
noncomputable def clear:LN->kA->kA
 |[],ρ=>ρ|i::is,ρ=>clear is (ρ.set i kd)
noncomputable def BA:LN->kA->Option (LT)
 |[],_=>jr []|i::is,ρ=>match ρ[i]? with
  |some (jr (.own t))=>(BA is ρ).map (t::·)|_=>kd
noncomputable def kC:LN->LT->kA->Option kA
 |[],[],ρ=>jr ρ|i::is,t::ts,ρ=>kC is ts (ρ.set i (jr (.own t)))|_,_,_=>kd
noncomputable def nC:List Bool->kA->kA
 |b::m,v::ρ=>(if b then kd else v)::nC m ρ|_,ρ=>ρ
def BO(k:Nat)(h:List Bool)(ρ:kA):kA:=QAa k kd++nC h ρ
def sq{α:Type}(x:T)(ρ:kA)(b:kA->(α->kA->Prop)->Prop)(K:α->kA->Prop):Prop :=
 if x.isD=kb then b ρ K else b (lockA ρ) λy _=>K y ρ
def cu(f:kA->TK->Prop):kA->(T×Bool->kA->Prop)->Prop:=λy K=>f y λx n h=>K (x,n) h
def NF:List (T×Bool)->LT
 |[]=>[]|p::r=>p.1::NF r
def UO:List (T×Bool)->LT
 |[]=>[]|p::r=>gA p.1 p.2::UO r
noncomputable def AB:List (T×Bool)->List Vw
 |[]=>[]|p::r=>(gA p.1 p.2).vw::AB r
noncomputable def HE:List (T×Bool)->Bool
 |[]=>kb|p::r=>RF p.1 p.2&&HE r
noncomputable def eS:List (T×Bool)->Bool
 |[]=>kb|p::r=>RF p.1 p.2&&eS r
def BF(t:T):Option T:=match t.vw with
 | .ls h=>(gH h).map λx=>.lst (x.map T.d)|_=>if t.isD=kb then jr t else kd
def ZA:List Md->List (T×Bool)->LT->Option (LT)
 |_,[],[]=>jr []|_,[],_::_=>kd|md,(x,n)::xs,os=>match md.headD .fro with
  | .fro=>match gA x n with
   | .d d=>(ZA md.tail xs os).map (.d d::·)|_=>kd
  | .shal=>match BF (gA x n) with
   |some t=>(ZA md.tail xs os).map (t::·)|none=>kd
  | .bor=>(ZA md.tail xs os).map (gA x n::·)|.chg=>match os with
   |o::os=>(ZA md.tail xs os).map (o::·)|[]=>kd
noncomputable def HB:List Md->LT->LT
 |_,[]=>[]|md,t::ts=>match md.headD .fro with
  | .chg=>t::HB md.tail ts|_=>HB md.tail ts
noncomputable def bA:List Md->PX->LN
 | .chg::md,.acons (.var j) as=>j::bA md as|_::md,.acons _ as=>bA md as|_,_=>[]
def Md.isMut:Md->Bool
 | .chg=>kb|_=>kn
structure D3 where
 e:kA->TK->Prop
 t:kA->(Bool->kA->Prop)->Prop
 a:List Md->kA->(List (T×Bool)->kA->Prop)->Prop
def JD:D3:=#[λ_ _=>False,λ_ _=>False,λ_ _ _=>False]
def uD(body:T->(Option T->Prop)->Prop):LT->LT->(LT->Prop)->Prop
 |[],acc,Q=>acc.9<=ku/\Q acc|x::xs,acc,Q=>body x fun
  |some y=>acc.9<ku/\uD body xs (acc++[y]) Q|none=>uD body xs acc Q
def iG(v:Tg)(u:kA)(c:kA->(Bool->kA->Prop)->Prop)(e:kA->TK->Prop)(x:T)(R:Option T->Prop):Prop :=
 bL v x u λz=>c z λb h=>if b=kb then e h λy n _=>RF y n=kb/\R (jr y) else R kd
def am:PX->D->(Bool->Prop)->Prop
 | .bty _ n,d,Q=>∃b,isD n d=jr b/\BP n=kb/\Q b|_,_,_=>False
def Ku:Option (Option Sl)->(T->Prop)->Prop
 |some (jr (.own t)),Q=>Q t|some (jr (.bor t)),Q=>Q t|some kd,_=>False|none,_=>False
def iC:Option (Option Sl)->(T->Prop)->Prop
 |some (jr (.own t)),Q=>Q t|some (jr (.bor _)),_=>False|some kd,_=>False|none,_=>False
def Sf:Option Nat->(Nat->Prop)->Prop
 |none,_=>False|some j,Q=>Q j
def F8:PX->Bool
 | .var _=>kb|_=>kn
def pe(Ψ:PEv):PX->XE->D3
 | .var i,_=>let e:kA->TK->Prop:=λv Q=>Ku v[i]? λt=>Q t kn v
  #[e,λv Q=>e v λt _ h=>sI t.er λb=>Q b h,JD.a]
 | .mv i,_=>#[λv Q=>iC v[i]? λt=>Q t kb (v.set i kd),JD.t,JD.a]|.int i,_=>#[λv Q=>Q (.d (.int i)) kn v,λv Q=>Q (i != 0) v,JD.a]|.str x,_=>#[λv Q=>Q (.d (.str x)) kn v,JD.t,JD.a]|.bl b,_=>#[λv Q=>Q (.d (.bool b)) kn v,λv Q=>Q b v,JD.a]|.non,_=>#[λv Q=>Q (.d .none) kn v,λv Q=>Q kn v,JD.a]|.glo x,_=>let e:kA->TK->Prop:=λv Q=>match Ψ.va x with
   |some d=>Q (.d d) kn v|none=>False
  #[e,λv Q=>e v λt _ h=>sI t.er λb=>Q b h,JD.a]
 | .bty _ _,_=>JD|.bin op a b,E=>let e:kA->TK->Prop:=λv Q=>(pe Ψ a E).e v λx n h=>sq (gA x n) h (cu (pe Ψ b E).e) λy w=>binT op (gA x n).vw (gA y.1 y.2).vw λz k=>Q z k w
  #[e,λv Q=>e v λt _ h=>sI t.er λb=>Q b h,JD.a]
 | .cmp op a b,E=>let t:kA->(Bool->kA->Prop)->Prop:=λv Q=>(pe Ψ a E).e v λx n h=>sq (gA x n) h (cu (pe Ψ b E).e) λy w=>Oe op x.er (gA y.1 y.2) λk=>Q k w
  #[λv Q=>t v λk h=>Q (.d (.bool k)) kn h,t,JD.a]
 | .and a b,E=>#[λv Q=>(pe Ψ a E).e v λx _ h=>uf x.er λc=>if c=kb then(pe Ψ b E).e h Q else Q (.d (.bool kn)) kn h,
   λv Q=>(pe Ψ a E).t v λc h=>if c=kb then(pe Ψ b E).t h Q else Q kn h,JD.a]
 | .or a b,E=>#[λv Q=>(pe Ψ a E).e v λx _ h=>uf x.er λc=>if c=kb then Q (.d (.bool kb)) kn h else(pe Ψ b E).e h Q,
   λv Q=>(pe Ψ a E).t v λc h=>if c=kb then Q kb h else(pe Ψ b E).t h Q,JD.a]
 | .not a,E=>#[λv Q=>(pe Ψ a E).e v λx _ h=>sI x.er λc=>Q (.d (.bool (!c))) kn h,λv Q=>(pe Ψ a E).t v λc h=>Q (!c) h,JD.a]|.ife c a b,E=>#[λv Q=>(pe Ψ c E).t v λk h=>if k=kb then(pe Ψ a E).e h Q else(pe Ψ b E).e h Q,JD.t,JD.a]|.call f as,E=>let e:kA->TK->Prop:=λv Q=>∃Z,BA (bA (Ψ.sp f).md as) v=jr Z/\(bA (Ψ.sp f).md as).Nodup/\(pe Ψ as E).a (Ψ.sp f).md (clear (bA (Ψ.sp f).md as) v) λg h=>∃Y,ZA (Ψ.sp f).md g Z=jr Y/\(Ψ.sp f).run Y (λr s=>∃w,kC (bA (Ψ.sp f).md as) s h=jr w/\Q r kb w) E
  #[e,λv Q=>e v λt _ h=>sI t.er λb=>Q b h,JD.a]
 | .isi a c,E=>let t:kA->(Bool->kA->Prop)->Prop:=λv Q=>(pe Ψ a E).e v λx _ h=>am c x.er λb=>Q b h
  #[λv Q=>t v λk h=>Q (.d (.bool k)) kn h,t,JD.a]
 | .bi f as,E=>let e:kA->TK->Prop:=λv Q=>(pe Ψ as E).a [] v λg h=>x4 f (AB g) λz k=>Q z k h
  #[e,λv Q=>e v λt _ h=>sI t.er λb=>Q b h,JD.a]
 | .mt m o as,E=>let e:kA->TK->Prop:=λv Q=>if isMut m=kb then Sf (k6 o) λj=>iC v[j]? λt=>yJ m t=kb/\(pe Ψ as E).a [] (v.set j (jr (.bor t))) λg w=>HE g=kb/\w[j]?=jr (jr (.bor t))/\JL m t (NF g) λr K=>Q r kb (w.set j (jr (.own K))) else(pe Ψ o E).e v λx n h=>E7 m (gA x n).vw=kb/\sq (gA x n) h ((pe Ψ as E).a []) λg w=>Xu m (gA x n).vw (AB g) λz k=>Q z k w
  #[e,λv Q=>e v λt _ h=>sI t.er λb=>Q b h,JD.a]
 | .idx a b,E=>let e:kA->TK->Prop:=λv Q=>(pe Ψ a E).e v λx n h=>sq (gA x n) h (cu (pe Ψ b E).e) λy w=>(XO (gA x n).vw (gA y.1 y.2).vw λz=>Q z kn w)∨(UU (gA x n).vw y.1.er λz=>Q z kn w)
  #[e,λv Q=>e v λt _ h=>sI t.er λb=>Q b h,JD.a]
 | .slc a lo hi,E=>#[λv Q=>(pe Ψ a E).e v λx n h =>
   sq (α:=Option Int) (gA x n) h (if isNop lo=kb then λv (R:Option Int->kA->Prop)=>R kd v else λv R=>(pe Ψ lo E).e v λl _ w=>fG l.er λo=>R o w) λl w =>
   sq (α:=Option Int) (gA x n) w (if isNop hi=kb then λv (R:Option Int->kA->Prop)=>R kd v else λv R=>(pe Ψ hi E).e v λu _ p=>fG u.er λo=>R o p) λu p=>BI (gA x n).vw l u λz k=>Q z k p,JD.t,JD.a]
 | .nop,_=>JD|.lst as,E=>#[λv Q=>(pe Ψ as E).a [] v λg h=>HE g=kb/\g.9<=ku/\Q (.lst (NF g)) kb h,JD.t,JD.a]|.tup as,E=>#[λv Q=>(pe Ψ as E).a [] v λg h=>HE g=kb/\g.9<=ku/\Q (vD (NF g)) kb h,JD.t,JD.a]|.comp mask tgs tg ik its cond elt,E=>#[λv Q=>(pe Ψ its E).a [] v λg h=>LB ik (AB g) λq =>
   uD (iG tg (BO tgs.9 mask (lockA h)) (if isNop cond=kb then λv R=>R kb v else(pe Ψ cond (λ_=>False)).t) (pe Ψ elt (λ_=>False)).e) q [] λW=>Q (.lst W) kb h,JD.t,JD.a]
 | .dnew b,_=>#[λv Q=>Q (.dct b [] []) kb v,JD.t,JD.a]|.dsp a b,E=>#[λv Q=>(pe Ψ a E).e v λy m h=>RF y m=kb/\(pe Ψ b E).e h λx n w=>RF x n=kb/\SD kb y.er/\Q (.dct kb [y.er] [x]) kb w,JD.t,JD.a]|.ng i,_=>#[λv Q=>Q (.d (.int (-i))) kn v,JD.t,JD.a]|.lrv a,E=>#[λv Q=>(pe Ψ a E).e v λx n h=>Sb (gA x n).vw λz k=>Q z k h,JD.t,JD.a]|.anil,_=>#[JD.e,JD.t,λ_ v Q=>Q [] v]|.acons a as,E=>#[JD.e,JD.t,λX v Q=>if(X.headD .fro).isMut=kb then F8 a=kb/\(pe Ψ as E).a X.tail v λg h=>Q ((.d .none,kb)::g) h
   else(pe Ψ a E).e v λx n h=>sq (α:=List (T×Bool)) (if n=kb then .d .none else x) h ((pe Ψ as E).a X.tail) λg w=>Q ((x,n)::g) w]
structure PEnds where
 nx:kA->Prop
 rt:T->kA->Prop
 bk:kA->Prop:=λ_=>False
 ct:kA->Prop:=λ_=>False
noncomputable def TF:PX->LN
 | .var i=>[i]|.idx a _=>TF a|.ife _ a b=>TF a++TF b|.and a b | .or a b=>TF a++TF b
 | .acons a h=>TF a++TF h|_=>[]
noncomputable def cN:Option (Option Sl)->Bool
 |some (jr (.own _))=>kb|some (jr (.bor _))=>kn|some kd=>kn|none=>kn
def gC(ρ:kA):LN->LN
 |[]=>[]|i::is=>if cN ρ[i]?=kb then i::gC ρ is else gC ρ is
noncomputable def GC:LN->kA->kA->kA
 |[],_,ρ=>ρ|i::L,ρ0,ρ=>GC L ρ0 (ρ.set i (ρ0[i]?.getD kd))
def MV(J L:LN)(h:kA)(N:kA->Prop)(ρ:kA):Prop:=(∀i∈L,i∉J/\ρ[i]?=h[i]?.map lG)/\N (GC L h ρ)
def zI(body:PEnds->kA->Prop)(z:Tg)(Z:PEnds):LT->kA->Prop
 |[],ρ=>Z.nx ρ|x::xs,ρ=>bL z x ρ λy=>body { Z with nx:=λh=>zI body z Z xs h,ct:=λh=>zI body z Z xs h,bk:=Z.nx } y
def tw(ρ:kA)(i:Nat)(R:T->kA->Prop):Option (Option Sl)->Prop
 |some (jr (.own t))=>R t (ρ.set i kd)|some (jr (.bor t))=>t.isD=kb/\R t ρ|some kd=>False|none=>False
def OD(Ψ:PEv)(E:XE)(y:T->kA->Prop):PX->kA->Prop
 | .var i,ρ=>tw ρ i y ρ[i]?|.ife c a b,ρ=>(pe Ψ c E).t ρ λk h=>if k=kb then OD Ψ E y a h else OD Ψ E y b h|e,ρ=>(pe Ψ e E).e ρ λx n h=>RF x n=kb/\y x h
def Mp:T->D->D->(T->Prop)->Prop
 | .lst ts,.int i,x,Q=>∃n,FR ts.9 i=jr n/\Q (.lst (ts.set n (.d x)))|.dct b ks ts,k,x,Q=>SD b k/\ks.9<ku/\Q (EJ b ks ts k (.d x))|_,_,_,_=>False
noncomputable def zw:PX->Option (Nat×Option PX)
 | .var j=>jr (j,kd)|.idx (.var j) k=>jr (j,jr k)|_=>kd
def ij(k:D)(t:T)(Q:T->Prop):Prop:=∃h x,t=.dct kb h x/\SD kb k/\h.9<ku/\((∃n,dA h k=jr n/\Q t)∨(dA h k=kd/\Q (.dct kb (h++[k]) (x++[.dct kb [] []]))))
def He:T->Bool
 | .dct kb _ _=>kb|_=>kn
def Gp(z:D)(t:T)(Q:T->(T->T)->Prop):Prop:=∃b x h n s,t=.dct b x h/\SD b z/\dA x z=jr n/\h[n]?=jr s/\Q s λy=>.dct b x (h.set n y)
noncomputable def dD(C:LN):PT->Bool
 | .seq s r=>dD C s&&dD C r|.set i _=>!C.contains i|.own i _=>!C.contains i|.ife _ a b=>dD C a&&dD C b|.for_ x _ _ h=>x.ix.all (λi=>!C.contains i)&&dD C h|.nil=>kb|.expr _=>kb|.ret _=>kb|.tset y _=>y.all λi=>!C.contains i|.six _ _ _=>kb|.sdf _ _=>kb|.whl _ h=>dD C h|.frz _ s=>dD C s|.hs s=>dD C s|.lnt _ _ a b r=>dD C a&&(dD C b&&dD C r)
noncomputable def fF(L:LN):Nat->kA->kA
 |_,[]=>[]|k,o::r=>(if L.contains k=kb then o else kd)::fF L (k+1) r
noncomputable def pW(j:Nat)(k:Int)(e:PX):PX:=.mt .append (.idx (.var j) (.int k)) %[e|1]
def S6(Ψ:PEv)(E:XE)(j:Nat)(k:Int)(e:PX)(ρ:kA)(N:kA->Prop):Prop:=∃h n z,ρ[j]?=jr (jr (.own (.tup h)))/\FR h.9 k=jr n/\h[n]?=jr (.lst z)/\z.9<ku/\(pe Ψ e E).e (ρ.set j (jr (.bor (.tup h)))) λx l y=>RF x l=kb/\N (y.set j (jr (.own (.tup (h.set n (.lst (z++[.d x.er])))))))
def lm(Ψ:PEv)(E:XE)(i a:Nat)(k:Int)(u z:PX)(ρ:kA)(N:kA->Prop):Prop:=∃t,ρ[a]?=jr (jr (.own t))/\S6 Ψ E i k u ((ρ.set a kd).set i (jr (.own t))) λx=>S6 Ψ E i k z x λh=>∃y,h[i]?=jr (jr (.own y))/\N ((h.set i kd).set a (jr (.own y)))
def kU(x bs:LN)(Z:PEnds)(ρ:kA):PEnds:={ nx:=λh=>h.9=ρ.9/\Z.nx (fF (x++bs) 0 ρ),rt:=λv h=>h.9=ρ.9/\∃c,v=.d (.bool c)/\Z.rt v (fF (x++bs) 0 ρ) }
def jAe(Ψ:PEv)(E:XE)(s:PT)(Z:PEnds)(ρ:kA):Prop :=
 (∃i a b k m l,s=.for_ (.nm i) .val %[.tup %[.var a,.var b|1]|1] %[.expr (pW i k m),.expr (pW i k l)|2]/\(i≠a/\i≠b/\i<ρ.9)/\(∃t,ρ[b]?=jr (jr (.own t)))/\lm Ψ E i a k m l ρ λg=>lm Ψ E i b k m l g Z.nx) ∨
 ∃A f j e z,s=.ret (.and A (.call f %[.var j,e|1]))/\(j≠z/\z<ρ.9)/\(pe Ψ A E).e ρ λx _ h=>uf x.er λc=>c=kb/\(∃t,h[j]?=jr (jr (.own t)))/\(pe Ψ e E).e h λy n w=>RF y n=kb/\(pe Ψ (.call f %[.var j,.var z|1]) E).e (w.set z (jr (.own y))) λv _ u=>∃c,v=.d (.bool c)/\Z.rt v (u.set z kd)
def vB(Ψ:PEv)(E:XE):PT->PEnds->kA->Prop
 | .nil,Z,u=>Z.nx u|.seq s r,Z,u=>vB Ψ E s { Z with nx:=λw=>vB Ψ E r Z w } u|.set i e,Z,u=>(pe Ψ e E).e u λx n h=>RF x n=kb/\Z.nx (h.set i (bD x.er))|.expr e,Z,u=>(pe Ψ e E).e u λ_ _ h=>Z.nx h|.ret e,Z,u=>OD Ψ E Z.rt e u|.ife c a b,Z,u=>(pe Ψ c E).t u λk h=>if k=kb then vB Ψ E a Z h else vB Ψ E b Z h|.for_ tg ik its body,Z,u=>(pe Ψ its E).a [] u λX h=>LB ik (AB X) λf =>
   if eS X=kb then zI (vB Ψ E body) tg { Z with nx:=λv=>Z.nx (kill tg.ix v) } f h
   else zI (vB Ψ E body) tg { Z with nx:=λv=>MV tg.ix (gC h (TF its)) h Z.nx (kill tg.ix v) } f (lock (gC h (TF its)) h)
 | .own i e,Z,u=>(pe Ψ e E).e u λx n h=>RF x n=kb/\Z.nx (h.set i (jr (.own x)))|.tset is e,Z,u=>(pe Ψ e E).e u λx n h=>RF x n=kb/\bL (.tp is) (.d x.er) h Z.nx|.six o i e,Z,u=>match zw o with
  |none=>False|some (j,kd)=>iC u[j]? λt=>(pe Ψ e E).e (u.set j (jr (.bor t))) λx n h=>RF x n=kb/\(pe Ψ i E).e h λy m v=>RF y m=kb/\v[j]?=jr (jr (.bor t))/\Mp t y.er x.er λq=>Z.nx (v.set j (jr (.own q)))|some (j,jr k)=>iC u[j]? λt=>(pe Ψ e E).e (u.set j (jr (.bor t))) λx n h=>RF x n=kb/\(pe Ψ k E).e h λz l v=>RF z l=kb/\Gp z.er t λs put=>(pe Ψ i E).e v λy m g=>RF y m=kb/\g[j]?=jr (jr (.bor t))/\Mp s y.er x.er λY=>Z.nx (g.set j (jr (.own (put Y))))
 | .sdf j k,Z,u=>iC u[j]? λt=>He t=kb/\(pe Ψ k E).e (u.set j (jr (.bor t))) λy m h=>RF y m=kb/\h[j]?=jr (jr (.bor t))/\ij y.er t λq=>Z.nx (h.set j (jr (.own q)))|.whl c body,Z,u=>∃W:Nat->kA->Prop,(∃m,W m u)/\∀m u,W m u->(pe Ψ c E).t u λb h=>if b=kb then
   vB Ψ E body { Z with nx:=λw=>∃p,p < m/\W p w,ct:=λw=>∃p,p < m/\W p w,bk:=Z.nx } h else Z.nx h
 | .frz is s,Z,u=>vB Ψ E s Z (frzAt is u)|.hs s,Z,u=>jAe Ψ E s Z u|.lnt is bs a b r,Z,u=>(∀j∈bs,∃t,u[j]?=jr (jr (.bor t)))/\dD (is++bs) a=kb/\dD (is++bs) b=kb/\vB Ψ E a { kU is bs { Z with nx:=λh=>vB Ψ E r Z h } u with nx:=λh=>vB Ψ E b (kU is bs { Z with nx:=λh=>vB Ψ E r Z h } u) h } (frzAt is u)
abbrev pF(Ψ:PEv):PT->PEnds->kA->Prop:=vB Ψ λ_=>False
theorem _root_.L2.Same.rd{H x:Hp}(e:Same H x){a:k4}{u:HO}(h:Rd H a u):Rd x a u:=by
 rcases h with h|⟨o,h⟩
 exact .inl (e _ _ h);exact .inr #[o,e _ _ h]
theorem _root_.L2.Same.tupl{K:QC}{H x:Hp}{a:k4}{xs:LV}(e:Same H x)(h:yD K H a xs):yD K x a xs:=by rcases h with h|h;exact .inl (e.rd h);exact .inr h
mutual
theorem yZ{K:QC}{H x:Hp}(e:Same H x):∀{k:NK}{v:V},Rn K H k v->Rn K x k v
 | .s _,_,h=>h|.t _,_,#[a,xs,h,q,p]=>#[a,xs,h,e.tupl q,kys_mono e p]
theorem kys_mono{K:QC}{H y:Hp}(e:Same H y):∀{ks:List NK}{vs:LV},KyVs K H ks vs->KyVs K y ks vs
 |[],_,h=>h|_::_,_,#[x,r,h,p,q]=>#[x,r,h,yZ e p,kys_mono e q]
end
section
variable{K:QC}{H x:Hp}{vs:LV}{ds:List D}
theorem _root_.L2.Same.key(e:Same H x){b:k4}{k:NK}(h:jP K H b k):jP K x b k:=#[yZ e h.1,h.2]
theorem DK.mono(e:Same H x){b:Bool}{o:HO}{ks:List D}(h:DK K H b o ks vs):DK K x b o ks vs:=by
 cases b with|true=>let#[f,y,a,k,w,v,u]:=h;exact#[f,y,a,k,w,λp z=>e.key (v p z),u]|false=>exact h
theorem Rep.mono2(e:Same H x):(∀{v:V}{d:D},Rep K H v d->Rep K x v d)/\∀{vs:LV}{ds:List D},Reps K H vs ds->Reps K x vs ds :=
 Rep.both (P:=Rep K x) (R:=Reps K x) .non .bl .int .str (λh _ r=>.lst (e.seq h) r) (λh _ r=>.tup (e.tupl h) r) (λh q _ r=>.dct (e _ _ h) (q.mono e) r) .nil λ_ _ h r=>.cons h r
theorem Rep.mono(e:Same H x){v:V}{d:D}(h:Rep K H v d):Rep K x v d:=(Rep.mono2 e).1 h
theorem Reps.mono(e:Same H x)(h:Reps K H vs ds):Reps K x vs ds:=(Rep.mono2 e).2 h
theorem Reps.append{ws:LV}{es:List D}(h:Reps K H vs ds)(r:Reps K H ws es):Reps K H (vs++ws) (ds++es):=Reps.ind (R:=λvs ds=>Reps K H (vs++ws) (ds++es)) r (λh t=>.cons h t) h
theorem Reps.reverse(h:Reps K H vs ds):Reps K H vs.reverse ds.reverse:=Reps.ind (R:=λvs ds=>Reps K H vs.reverse ds.reverse) .nil (λr y=>by rw[wj,wj];exact y.append (.cons r .nil)) h
theorem Reps.get{K:QC}{H:Hp}:∀{vs:LV}{ds:List D}{i:Nat}{d:D},Reps K H vs ds->ds[i]?=jr d->∃v,vs[i]?=jr v/\Rep K H v d
 |_,_,i,_,.nil,h=>by simp at h|_,_,0,_,.cons h _,e=>by simp at e;subst e;exact#[_,rfl,h]|_,_,i+1,d,.cons _ t,e=>by let#[v,z,y]:=Reps.get (i:=i) t (by simpa using e);exact#[v,by simpa using z,y]
theorem Reps.drop{K:QC}{H:Hp}:∀{vs:LV}{ds:List D}(n:Nat),Reps K H vs ds->Reps K H (vs.drop n) (ds.drop n)
 |_,_,0,r=>r|_,_,_+1,.nil=>.nil|_,_,n+1,.cons _ t=>Reps.drop n t
theorem Reps.take{K:QC}{H:Hp}:∀{vs:LV}{ds:List D}(n:Nat),Reps K H vs ds->Reps K H (vs.take n) (ds.take n)
 |_,_,0,_=>.nil|_,_,_+1,.nil=>.nil|_,_,n+1,.cons h t=>.cons h (Reps.take n t)
theorem Reps.bools{K:QC}{H:Hp}:∀{vs:LV}{bs:List Bool},Reps K H vs (bs.map PyData.bool)->vs=bs.map V.bl
 |_,[],.nil=>rfl|_,b::bs,.cons h t=>by cases h;rw[QT,Reps.bools t]
theorem NB{p:k4}{o:HO}(h:H p=kd):Same H (CA H p o):=λb u q=>by rw[xA (JA q h)];exact q
end
mutual
inductive Tr(K:QC)(F H:Hp):Bool->V->T->(k4->Prop)->Prop where
 |d {st:Bool}{v:V}{x:D}{S:lB}:Rep K F v x->(∀b,¬ S b)->Tr K F H st v (.d x) S
 |lst {st:Bool}{a:k4}{vs:LV}{ts:LT}{S S':lB}:H a=jr (.lst vs)->F a=kd->Trs K F H st vs ts S'->¬ S' a->(∀b,S b↔b=a∨S' b)->Tr K F H st (.ref a) (.lst ts) S
 |tup {st:Bool}{a:k4}{vs:LV}{ts:LT}{S S':lB}:H a=jr (.tup vs)->F a=kd->Trs K F H st vs ts S'->¬ S' a->(∀b,S b↔b=a∨S' b)->Tr K F H st (.ref a) (.tup ts) S
 |lstF {a:k4}{vs:LV}{ds:List D}{S:lB}:aC K F a vs->Reps K F vs ds->(∀b,¬ S b)->Tr K F H kn (.ref a) (.lst (ds.map T.d)) S
 |dct {st b:Bool}{a:k4}{o:HO}{ks:List D}{vs:LV}{ts:LT}{S S':lB}:H a=jr o->DK K F b o ks vs->F a=kd->Trs K F H st vs ts S'->¬ S' a->(∀b,S b↔b=a∨S' b)->Tr K F H st (.ref a) (.dct b ks ts) S
inductive Trs(K:QC)(F H:Hp):Bool->LV->LT->(k4->Prop)->Prop where
 |nil {st:Bool}{S:lB}:(∀b,¬ S b)->Trs K F H st [] [] S
 |cons {st:Bool}{v:V}{t:T}{vs:LV}{ts:LT}{S S1 S2:lB}:Tr K F H st v t S1->Trs K F H st vs ts S2->(∀b,S1 b->¬ S2 b)->(∀b,S b↔S1 b∨S2 b)->Trs K F H st (v::vs) (t::ts) S
end
section
variable{K:QC}{F H w c:Hp}
section
variable{R:Bool->LV->LT->(k4->Prop)->Prop}{st b:Bool}{v:V}{t:T}{S:lB}{vs:LV}{ts:LT}{ds ks:List D}{i:Int}{kvs:List (D×D)}
theorem Tr.both{P:Bool->V->T->(k4->Prop)->Prop}
    (d:∀{st:Bool}{v:V}{x:D}{S:lB},Rep K F v x->(∀b,¬ S b)->P st v (.d x) S)
    (lst:∀{st:Bool}{a:k4}{vs:LV}{ts:LT}{S S':lB},H a=jr (.lst vs)->F a=kd->Trs K F H st vs ts S'->¬ S' a->(∀b,S b↔b=a∨S' b)->R st vs ts S'->P st (.ref a) (.lst ts) S)
    (tup:∀{st:Bool}{a:k4}{vs:LV}{ts:LT}{S S':lB},H a=jr (.tup vs)->F a=kd->Trs K F H st vs ts S'->¬ S' a->(∀b,S b↔b=a∨S' b)->R st vs ts S'->P st (.ref a) (.tup ts) S)
    (y:∀{a:k4}{vs:LV}{ds:List D}{S:lB},aC K F a vs->Reps K F vs ds->(∀b,¬ S b)->P kn (.ref a) (.lst (ds.map T.d)) S)
    (dct:∀{st b:Bool}{a:k4}{o:HO}{ks:List D}{vs:LV}{ts:LT}{S S':lB},H a=jr o->DK K F b o ks vs->F a=kd->Trs K F H st vs ts S'->¬ S' a->(∀b,S b↔b=a∨S' b)->R st vs ts S'->P st (.ref a) (.dct b ks ts) S)
    (u:∀{st:Bool}{S:lB},(∀b,¬ S b)->R st [] [] S)
    (z:∀{st:Bool}{v:V}{t:T}{vs:LV}{ts:LT}{S S1 k:lB},Tr K F H st v t S1->Trs K F H st vs ts k->(∀b,S1 b->¬ k b)->(∀b,S b↔S1 b∨k b)->P st v t S1->R st vs ts k->R st (v::vs) (t::ts) S) :
    (∀{st:Bool}{v:V}{t:T}{S:lB},Tr K F H st v t S->P st v t S)/\∀{st:Bool}{vs:LV}{ts:LT}{S:lB},Trs K F H st vs ts S->R st vs ts S :=
  #[λh=>Tr.rec (motive_1:=λst v t S _=>P st v t S) (motive_2:=λst vs ts S _=>R st vs ts S) @d @lst @tup @y @dct @u @z h,
   λh=>Trs.rec (motive_1:=λst v t S _=>P st v t S) (motive_2:=λst vs ts S _=>R st vs ts S) @d @lst @tup @y @dct @u @z h]
theorem Tr.mono2(e:Same F w):(∀{st:Bool}{v:V}{t:T}{S:lB},Tr K F H st v t S->(∀b,S b->c b=H b/\w b=kd)->Tr K w c st v t S)/\∀{st:Bool}{vs:LV}{ts:LT}{S:lB},Trs K F H st vs ts S->(∀b,S b->c b=H b/\w b=kd)->Trs K w c st vs ts S :=
 Tr.both (P:=λst v t S=>(∀b,S b->c b=H b/\w b=kd)->Tr K w c st v t S) (R:=λst v t S=>(∀b,S b->c b=H b/\w b=kd)->Trs K w c st v t S)
  (λr n _=>.d (r.mono e) n)
  (λ{_ a _ _ _ _} h _ _ n q x k=>.lst ((k a ((q a).mpr (.inl rfl))).1.trans h) (k a ((q a).mpr (.inl rfl))).2 (x λb hb=>k b ((q b).mpr (.inr hb))) n q)
  (λ{_ a _ _ _ _} h _ _ n q x k=>.tup ((k a ((q a).mpr (.inl rfl))).1.trans h) (k a ((q a).mpr (.inl rfl))).2 (x λb hb=>k b ((q b).mpr (.inr hb))) n q)
  (λh r n _=>.lstF (e.seq h) (r.mono e) n)
  (λ{_ _ a _ _ _ _ _ _} h u _ _ n q x k=>.dct ((k a ((q a).mpr (.inl rfl))).1.trans h) (u.mono e) (k a ((q a).mpr (.inl rfl))).2 (x λb hb=>k b ((q b).mpr (.inr hb))) n q)
  (λn _=>.nil n)
  (λ_ _ n q z y k=>.cons (z λb hb=>k b ((q b).mpr (.inl hb))) (y λb hb=>k b ((q b).mpr (.inr hb))) n q)
theorem Tr.mono(e:Same F w)(h:Tr K F H st v t S)(k:∀b,S b->c b=H b/\w b=kd):Tr K w c st v t S:=(Tr.mono2 e).1 h k
theorem Trs.mono(e:Same F w)(h:Trs K F H st vs ts S)(k:∀b,S b->c b=H b/\w b=kd):Trs K w c st vs ts S:=(Tr.mono2 e).2 h k
theorem Tr.weak2:(∀{st:Bool}{v:V}{t:T}{S:lB},Tr K F H st v t S->Tr K F H kn v t S)/\∀{st:Bool}{vs:LV}{ts:LT}{S:lB},Trs K F H st vs ts S->Trs K F H kn vs ts S :=
 Tr.both (P:=λ_ v t S=>Tr K F H kn v t S) (R:=λ_ v t S=>Trs K F H kn v t S) .d (λh f _ n q x=>.lst h f x n q) (λh f _ n q x=>.tup h f x n q) .lstF (λh u f _ n q x=>.dct h u f x n q) .nil λ_ _ n q z y=>.cons z y n q
theorem Tr.weak(h:Tr K F H st v t S):Tr K F H kn v t S:=Tr.weak2.1 h
theorem Trs.weak(h:Trs K F H st vs ts S):Trs K F H kn vs ts S:=Tr.weak2.2 h
theorem P9{C:lB}{a:k4}{S':lB}(q:∀b,S b↔b=a∨S' b)(h:C a)(k:∀b,S' b->C b)(b:k4)(hb:S b):C b:=((q b).mp hb).elim (λe=>e▸h) (k b)
theorem Tr.dom2:(∀{st:Bool}{v:V}{t:T}{S:lB},Tr K F H st v t S->∀b,S b->H b≠kd/\F b=kd)/\∀{st:Bool}{vs:LV}{ts:LT}{S:lB},Trs K F H st vs ts S->∀b,S b->H b≠kd/\F b=kd :=
 have y:∀{a:k4}{o:HO},H a=jr o->H a≠none:=λh z=>by rw[h]at z;cases z
 Tr.both (P:=λ_ _ _ S=>∀b,S b->H b≠kd/\F b=kd) (R:=λ_ _ _ S=>∀b,S b->H b≠kd/\F b=kd)
  (λ_ n b hb=>o2 hb (n b)) (λh f _ _ q x=>P9 q #[y h,f] x) (λh f _ _ q x=>P9 q #[y h,f] x) (λ_ _ n b hb=>o2 hb (n b)) (λh _ f _ _ q x=>P9 q #[y h,f] x)
  (λn b hb=>o2 hb (n b)) λ_ _ _ q k u b hb=>((q b).mp hb).elim (k b) (u b)
theorem Tr.dom(h:Tr K F H st v t S):∀b,S b->H b≠kd/\F b=none:=Tr.dom2.1 h
theorem Trs.dom(h:Trs K F H st vs ts S):∀b,S b->H b≠kd/\F b=none:=Tr.dom2.2 h
theorem Tr.kept2(e:Same F w):(∀{st:Bool}{v:V}{t:T}{S:lB},Tr K F H st v t S->(∀b u,S b->H b=jr u->w b=jr u)->Rep K w v t.er)/\∀{st:Bool}{vs:LV}{ts:LT}{S:lB},Trs K F H st vs ts S->(∀b u,S b->H b=jr u->w b=jr u)->Reps K w vs (ersT ts) :=
 Tr.both (P:=λ_ v t S=>(∀b u,S b->H b=jr u->w b=jr u)->Rep K w v t.er) (R:=λ_ v t S=>(∀b u,S b->H b=jr u->w b=jr u)->Reps K w v (ersT t))
  (λr _ _=>r.mono e)
  (λ{_ a _ _ _ _} h _ _ _ q x k=>by unfold T.er;exact .lst (aC.of (k a _ ((q a).mpr (.inl rfl)) h)) (x λb u hb=>k b u ((q b).mpr (.inr hb))))
  (λ{_ a _ _ _ _} h _ _ _ q x k=>by unfold T.er;exact .tup (yD.of (k a _ ((q a).mpr (.inl rfl)) h)) (x λb u hb=>k b u ((q b).mpr (.inr hb))))
  (λh r _ _=>by unfold T.er;rw[gB];exact .lst (e.seq h) (r.mono e))
  (λ{_ _ a _ _ _ _ _ _} h f _ _ _ q x k=>by unfold T.er;exact .dct (k a _ ((q a).mpr (.inl rfl)) h) (f.mono e) (x λb u hb=>k b u ((q b).mpr (.inr hb))))
  (λ_ _=>.nil)
  (λ_ _ _ q z y k=>.cons (z λb u hb=>k b u ((q b).mpr (.inl hb))) (y λb u hb=>k b u ((q b).mpr (.inr hb))))
theorem Tr.kept(e:Same F w)(h:Tr K F H st v t S)(k:∀b u,S b->H b=jr u->w b=jr u):Rep K w v t.er:=(Tr.kept2 e).1 h k
theorem Tr.rep(f:Same F H)(h:Tr K F H st v t S):Rep K H v t.er:=h.kept f λ_ _ _ e=>e
theorem Trs.ind(z:∀{st:Bool}{S:lB},(∀b,¬ S b)->R st [] [] S)
  (x:∀{st:Bool}{v:V}{t:T}{vs:LV}{ts:LT}{S S1 y:lB},Tr K F H st v t S1->Trs K F H st vs ts y->(∀b,S1 b->¬ y b)->(∀b,S b↔S1 b∨y b)->R st vs ts y->R st (v::vs) (t::ts) S) (h:Trs K F H st vs ts S):R st vs ts S :=
 (Tr.both (P:=λ_ _ _ _=>True) (λ_ _=>trivial) (λ_ _ _ _ _ _=>trivial) (λ_ _ _ _ _ _=>trivial) (λ_ _ _=>trivial) (λ_ _ _ _ _ _ _=>trivial) z λh t n q _ r=>x h t n q r).2 h
theorem Trs.length(h:Trs K F H st vs ts S):vs.9=ts.length:=Trs.ind (R:=λ_ vs ts _=>vs.9=ts.9) (λ_=>rfl) (λ_ _ _ _ e=>QP Nat.succ e) h
theorem Trs.of_reps(h:Reps K F vs ds):Trs K F H st vs (ds.map T.d) (λ_=>False) :=
 Reps.ind (R:=λvs ds=>Trs K F H st vs (ds.map T.d) λ_=>False) (.nil λ_ z=>z) (λh t=>.cons (.d h λ_ z=>z) t (λ_ z=>z.elim) λb=>by simp) h
theorem Trs.un(h:Trs K F H st vs ts S)(e:gH ts=jr ds):Reps K F vs ds/\∀b,¬ S b:=by
 have u:=mM e;clear e;revert ds;refine Trs.ind (R:=λ_ vs ts S=>∀{ds:List D},ts=ds.map T.d->Reps K F vs ds/\∀b,¬ S b) (λn ds e=>?_) (λh _ _ q x ds e=>?_) h;cases ds with|nil=>exact#[.nil,n]|cons d r=>cases e
 cases ds with
 |nil=>cases e|cons d r =>
  injection e with e1 e2;let#[z,y]:=x e2;subst e1;cases h with|d rep m=>exact#[.cons rep z,λb hb=>((q b).mp hb).elim (m b) (y b)]
theorem Trs.get{i:Nat}(h:Trs K F H st vs ts S)(e:ts[i]?=jr t):∃v S1,vs[i]?=jr v/\Tr K F H st v t S1/\∀b,S1 b->S b:=by
 revert i;refine Trs.ind (R:=λst vs ts S=>∀{i:Nat},ts[i]?=jr t->∃v S1,vs[i]?=jr v/\Tr K F H st v t S1/\∀b,S1 b->S b) (λn i e=>by cases e) (λh _ n q x i e=>?_) h;cases i with|zero=>cases e;exact#[_,_,rfl,h,λb hb=>(q b).mpr (.inl hb)]|succ i=>let#[v,S1,u,z,y]:=x (i:=i) e;exact#[v,S1,u,z,λb hb=>(q b).mpr (.inr (y b hb))]
theorem Trs.at(r:Trs K F H st vs ts S)(h:NC ts i=jr t):∃v S1,NC vs i=jr v/\Tr K F H st v t S1/\∀b,S1 b->S b:=by
 unfold NC at h ⊢;rw[r.9];cases e:FR ts.9 i with|none=>rw[e]at h;cases h|some j=>rw[e]at h;exact r.get h
theorem Trs.append{ws:LV}{us:LT}{S1 x:lB}(h:Trs K F H st vs ts S1)(r:Trs K F H st ws us x)(k:∀b,S1 b->¬ x b):Trs K F H st (vs++ws) (ts++us) (λb=>S1 b∨x b) :=
 Trs.ind (R:=λst vs ts S1=>Trs K F H st ws us x->(∀b,S1 b->¬ x b)->Trs K F H st (vs++ws) (ts++us) λb=>S1 b∨x b)
  (λ{_ S} n r _=>by have e:(λb=>S b∨x b)=x:=funext λb=>o9 #[λz=>z.resolve_left (n b),.inr];rw[e];exact r)
  (λh _ n q y r k=>.cons h (y r λb hb=>k b ((q b).mpr (.inr hb))) (λb hb z=>z.elim (n b hb) (k b ((q b).mpr (.inl hb)))) λb=>by rw[q b,or_assoc]) h r k
theorem Trs.one(h:Tr K F H st v t S):Trs K F H st [v] [t] S:=.cons h (.nil (S:=λ_=>False) λ_ z=>z) (λ_ _ z=>z) λb=>by simp
theorem MH(e:(T.d (.dict kvs)).vw=.ls ts):False:=by
 have e:DB kvs=.ls ts:=e;unfold DB at e;cases h:xD kvs with|none=>rw[h]at e;cases e|some b=>rw[h]at e;cases e
theorem bM(e:(T.d (.dict kvs)).vw=.tp ts):False:=by
 have e:DB kvs=.tp ts:=e;unfold DB at e;cases h:xD kvs with|none=>rw[h]at e;cases e|some b=>rw[h]at e;cases e
theorem Tr.ls(f:Same F H)(h:Tr K F H st v t S)(e:t.vw=.ls ts):∃a vs S',v=.ref a/\aC K H a vs/\Trs K F H kn vs ts S'/\∀b,S' b->S b:=by
 cases h with
 |d r n =>
  cases r with|lst q r=>injection e with e;subst e;exact#[_,_,_,rfl,f.seq q,Trs.of_reps r,λb hb=>hb.elim]|dct _ _ _=>exact(MH e).elim|_=>cases e
 |lst h _ r n q=>injection e with e;subst e;exact#[_,_,_,rfl,aC.of h,r.weak,λb hb=>(q b).mpr (.inr hb)]|tup=>cases e|dct=>cases e|lstF h r n=>injection e with e;subst e;exact#[_,_,_,rfl,f.seq h,Trs.of_reps r,λb hb=>hb.elim]
theorem Tr.tp(f:Same F H)(h:Tr K F H st v t S)(e:t.vw=.tp ts):∃a vs S',v=.ref a/\yD K H a vs/\Trs K F H kn vs ts S'/\∀b,S' b->S b:=by
 cases h with
 |d r n =>
  cases r with|tup q r=>injection e with e;subst e;exact#[_,_,_,rfl,f.tupl q,Trs.of_reps r,λb hb=>hb.elim]|dct _ _ _=>exact(bM e).elim|_=>cases e
 |tup h _ r n q=>injection e with e;subst e;exact#[_,_,_,rfl,yD.of h,r.weak,λb hb=>(q b).mpr (.inr hb)]|lst=>cases e|lstF=>cases e|dct=>cases e
theorem kZ{u:Bool}{o:HO}(h:DK K H u o ks vs)(e:xD (ks.zip ds)=jr b):u=b:=by
 cases ks with
 |nil=>cases e|cons k ks =>
  cases ds with
  |nil=>cases e|cons d ds =>
   cases u with
   |true =>
    let#[m,kvs,_,y,_,g,_]:=h;cases kvs with
    |nil=>cases y|cons p r =>
     have a:=(g p QE).1;let#[f,n,j]:=p;cases f with|s x=>cases a|t l=>rw[QT]at y;injection y with y _;subst y;injection e
   |false =>
    rcases h with⟨kvs,_,_,y,_⟩| ⟨_,_,y,_⟩
    rotate_left
    cases y;cases kvs with
    |nil=>cases y|cons p r =>
     rw[QT]at y;injection y with y _;subst y;let#[k,v]:=p;cases k with|inl i=>cases e|inr z=>injection e
theorem Tr.dc(f:Same F H)(h:Tr K F H st v t S)(e:t.vw=.dc b ks ts):∃a o vs S',v=.ref a/\H a=jr o/\DK K F b o ks vs/\Trs K F H kn vs ts S'/\(∀b,S' b->S b)/\∀w c,Same F w->Same w c->(∀b,S b->c b=H b)->c a=jr o:=by
 cases h with
 |d r n =>
  cases r with
  |@dct X a o y l ds h q r =>
   have hl:y.9=ds.length:=by rw[q.len,Reps.length r]
   have g:(y.zip ds).map (λx=>x.1)=y:=W7 (wq hl);have u:(y.zip ds).map (λx=>x.2)=ds:=WQ (wq hl.symm);have e:DB (y.zip ds)=.dc b ks ts:=e;unfold DB at e;cases z:xD (y.zip ds) with
   |none=>rw[z]at e;cases e|some p =>
    rw[z]at e;injection e with z1 z2 z3;subst z1;rw[g]at z2;subst z2;have m:ts=ds.map T.d:=by have j:=QP (List.map T.d) u;rw[Qc]at j;rw[<- z3,<- j];rfl
    subst m;cases kZ q z;exact#[_,_,_,_,rfl,f _ _ h,q,Trs.of_reps r,λb hb=>hb.elim,λw c g u _=>u _ _ (g _ _ h)]
  |_=>cases e
 |dct h q _ r n s=>injection e with z1 z2 z3;subst z1 z2 z3;exact#[_,_,_,_,rfl,h,q,r.weak,λb hb=>(s b).mpr (.inr hb),λw c _ _ k=>(k _ ((s _).mpr (.inl rfl))).trans h]|lst=>cases e|tup=>cases e|lstF=>cases e
theorem Tr.sc{x:D}(h:Tr K F H st v t S)(e:t.vw=.sc x):t=.d x/\Rep K F v x:=by
 cases h with
 |@d _ _ y _ r n =>
  cases y with
  |list ds=>cases e|tuple ds=>cases e|dict ds =>
   have e:DB ds=.sc x:=e;unfold DB at e;cases z:xD ds with|none=>rw[z]at e;injection e with e;subst e;exact#[rfl,r]|some b=>rw[z]at e;cases e
  |_=>injection e with e;subst e;exact#[rfl,r]
 |tup=>cases e|lst=>cases e|lstF=>cases e|dct=>cases e
theorem Tr.int(h:Tr K F H st v t S)(e:t.vw=.sc (.int i)):v=.int i:=by let#[_,r]:=h.sc e;cases r;rfl
theorem Tr.str{i:Str}(h:Tr K F H st v t S)(e:t.vw=.sc (.str i)):v=.str i:=by let#[_,r]:=h.sc e;cases r;rfl
end
end
def Sl.t:Sl->T
 | .own t=>t|.bor t=>t
def Sl.st:Sl->Bool
 | .own _=>kb|.bor _=>kn
noncomputable abbrev Ft:=Nat->k4->Prop
structure Rl(K:QC)(F H:Hp)(S:Ft)(ρ:kA)(σ:St):Prop where
 fh:Same F H
 len:ρ.9=σ.9
 sl:∀(i:Nat) s,ρ[i]?=jr (jr s)->∃v,σ[i]?=jr (jr v)/\Tr K F H s.st v s.t (S i)
 dj:∀(i j:Nat) t s,i≠j->ρ[i]?=jr (jr (.own t))->ρ[j]?=jr (jr s)->∀b,S i b->¬ S j b
def U(ρ:kA)(S:Ft)(b:k4):Prop:=∃(i:Nat) (t:T),ρ[i]?=jr (jr (.own t))/\S i b
structure Stp(F H:Hp)(S:Ft)(ρ:kA)(F' H':Hp)(S':Ft)(ρ':kA):Prop where
 ff:Same F F'
 hh:∀b u,H b=jr u->¬ U ρ S b->H' b=jr u
 dm:∀b,H' b=kd->H b=kd
 fn:∀b,F b=kd->F' b≠kd->U ρ S b∨H b=kd
 uu:∀b,U ρ' S' b->U ρ S b∨H b=kd
 bo:∀(j:Nat) t,ρ'[j]?=jr (jr (.bor t))->t.isD=kn->ρ[j]?=jr (jr (.bor t))/\S' j=S j
structure Ste(F H:Hp)(S:Ft)(ρ:kA)(F' H':Hp)(S':Ft)(ρ':kA):Prop extends Stp F H S ρ F' H' S' ρ' where
 ow:∀(j:Nat) t,ρ'[j]?=jr (jr (.own t))->∃t0,ρ[j]?=jr (jr (.own t0))
section
variable{K:QC}{F H X m B E:Hp}{S S1 C:Ft}{ρ l A:kA}{σ:St}
section
variable{v:V}{t:T}{Z W:lB}{i:Nat}{s:Sl}{b p:k4}{vs:LN}{g:Hp}{c:Ft}{y:kA}{n:Bool}
theorem Stp.refl:Stp F H S ρ F H S ρ:=#[.refl _,λ_ _ h _=>h,λ_ h=>h,λb h z=>o2 h z,λ_ h=>.inl h,λ_ _ h _=>#[h,rfl]]
theorem Ste.refl:Ste F H S ρ F H S ρ:=#[Stp.refl,λ_ t h=>#[t,h]]
theorem Stp.trans(a:Stp F H S ρ X m S1 l)(b:Stp X m S1 l B E C A):Stp F H S ρ B E C A where
 ff:=a.ff.trans b.ff
 hh:=λx u h n=>b.hh x u (a.hh x u h n) λz=>by rcases a.uu x z with q|q;exact n q;rw[q]at h;cases h
 dm:=λx h=>a.dm x (b.dm x h)
 fn:=λx h z=>by
  by_cases q:X x=kd;rcases b.fn x q z with w|w
  ·exact a.uu x w
  exact .inr (a.dm x w);exact a.fn x h q
 uu:=λx h=>by rcases b.uu x h with w|w;exact a.uu x w;exact .inr (a.dm x w)
 bo:=λj t h n=>by let#[o,f]:=b.bo j t h n;let#[e,k]:=a.bo j t o n;exact#[e,f.trans k]
theorem Ste.trans(a:Ste F H S ρ X m S1 l)(b:Ste X m S1 l B E C A):Ste F H S ρ B E C A:=#[a.toStp.trans b.toStp,λj t h=>by let#[x,z]:=b.ow j t h;exact a.ow j x z]
theorem Stp.keep(s:Stp F H S ρ X m S1 l){st:Bool}(h:Tr K F H st v t Z)(n:∀b,Z b->¬ U ρ S b):Tr K X m st v t Z :=
 h.mono s.ff λb hb=>by
  let#[x,w]:=h.dom b hb;refine#[?_,?_];cases e:H b with|none=>exact o2 e x|some u=>exact s.hh b u e (n b hb)
  by_cases q:X b=kd
  ·exact q
  rcases s.fn b w q with z|z
  ·exact o2 z (n b hb)
  exact o2 z x
theorem Rl.dom(I:Rl K F H S ρ σ)(h:ρ[i]?=jr (jr s))(hb:S i b):H b≠kd/\F b=none:=by let#[v,_,r]:=I.sl i s h;exact r.dom b hb
theorem Rl.udom(I:Rl K F H S ρ σ)(h:U ρ S b):H b≠kd/\F b=none:=by let#[i,t,z,x]:=h;exact I.dom z x
theorem Rl.isD(I:Rl K F H S ρ σ)(h:ρ[i]?=jr (jr s))(x:s.t.isD=kb):¬ S i b:=by
 let#[v,_,r]:=I.sl i s h;generalize s.t=t at r x;generalize s.st=st at r;cases r with|d r n=>exact n b|_=>cases x
structure Held(F H:Hp)(S:Ft)(ρ:kA)(Z:lB):Prop where
 dom:∀b,Z b->H b≠kd/\F b=kd
 nw:∀(i:Nat) s,ρ[i]?=jr (jr s)->∀b,Z b->¬ S i b
theorem Held.nu(h:Held F H S ρ Z):∀b,Z b->¬ U ρ S b:=λb hb #[i,t,z,x]=>h.nw i _ z b hb x
theorem Held.step(h:Held F H S ρ Z)(s:Stp F H S ρ X m S1 l)(j:Rl K X m S1 l σ):Held X m S1 l Z where
 dom:=λb hb=>by
  let#[u,k]:=h.dom b hb;refine#[λz=>u (s.dm b z),?_];by_cases q:X b=kd;exact q;rcases s.fn b k q with z|z
  ·exact o2 z (h.nu b hb)
  exact o2 z u
 nw:=λi w e b hb z=>by
  cases w with
  |own t=>rcases s.uu b ⟨i,t,e,z⟩ with q|q;exact h.nu b hb q;exact(h.dom b hb).1 q
  |bor t =>
   cases x:t.isD with|true=>exact j.isD e x z|false=>let#[f,a]:=s.bo i t e x;rw[a]at z;exact h.nw i _ f b hb z
theorem Held.none:Held F H S ρ λ_=>False:=#[λ_ z=>z.elim,λ_ _ _ _ z=>z.elim]
theorem Held.or{Y:lB}(a:Held F H S ρ Z)(b:Held F H S ρ Y):Held F H S ρ λx=>Z x∨Y x:=#[λx h=>h.elim (a.dom x) (b.dom x),λi s e x h=>h.elim (a.nw i s e x) (b.nw i s e x)]
noncomputable def dJ(F H:Hp)(W:lB):Hp:=open Classical in λb=>if W b then H b else F b
theorem uH(h:W b):dJ F H W b=H b:=oa h
theorem pC(h:¬ W b):dJ F H W b=F b:=ot h
theorem bH(h:∀b,W b->F b=kd):Same F (dJ F H W):=λb u e=>by rw[pC λz=>by rw[h b z]at e;cases e];exact e
theorem Be(f:Same F H):Same (dJ F H W) H:=λb u e=>by by_cases hb:W b;rw[uH hb]at e;exact e;rw[pC hb]at e;exact f b u e
theorem Rl.frz(I:Rl K F H S ρ σ){W:lB}(h:Held F H S ρ W):Rl K (dJ F H W) H S ρ σ where
 fh:=Be I.fh
 len:=I.len
 sl:=λi s e=>by let#[v,u,x]:=I.sl i s e;refine#[v,u,x.mono (bH λb hb=>(h.dom b hb).2) λb hb=>#[rfl,?_]];rw[pC λz=>h.nw i s e b z hb];exact(x.dom b hb).2
 dj:=I.dj
theorem Stp.frz(s:Stp F H S ρ X m S1 l){W:lB}(x:∀b,W b->X b=kd)(fr:∀b,W b->H b=kd∨U ρ S b):Stp F H S ρ (dJ X m W) m S1 l :=
 #[s.ff.trans (bH x),s.hh,s.dm,λb h z=>by by_cases q:W b;exact(fr b q).symm;rw[pC q]at z;exact s.fn b h z,s.uu,s.bo]
theorem Ste.frz(s:Ste F H S ρ X m S1 l){W:lB}(h:∀b,W b->X b=kd)(fr:∀b,W b->H b=kd∨U ρ S b):Ste F H S ρ (dJ X m W) m S1 l:=#[s.toStp.frz h fr,s.ow]
theorem Stp.new(s:Stp F H S ρ X m S1 l){p:k4}(h:m p=kd)(o:HO):Stp F H S ρ X (CA m p o) S1 l :=
 #[s.ff,λb u e n=>NB h b u (s.hh b u e n),λb e=>by by_cases hb:b=p;rw[hb,pA]at e;cases e;rw[xA hb]at e;exact s.dm b e,s.fn,s.uu,s.bo]
theorem Ste.new(s:Ste F H S ρ X m S1 l){p:k4}(h:m p=kd)(o:HO):Ste F H S ρ X (CA m p o) S1 l:=#[s.toStp.new h o,s.ow]
theorem Rl.same(I:Rl K F H S ρ σ)(h:Same H m):Rl K F m S ρ σ where
 fh:=I.fh.trans h
 len:=I.len
 sl:=λi s e=>by
  let#[v,z,x]:=I.sl i s e;refine#[v,z,x.mono (.refl _) λb hb=>#[?_,(x.dom b hb).2]];cases e:H b with|none=>exact o2 e (x.dom b hb).1|some u=>exact h b u e
 dj:=I.dj
theorem Rl.new(I:Rl K F H S ρ σ){p:k4}(h:H p=kd)(o:HO):Rl K F (CA H p o) S ρ σ:=I.same (NB h)
theorem Stp.newT(s:Stp F H S ρ X m S1 l)(h:m p=kd)(u:X p=kd)(o:HO):Stp F H S ρ (CA X p o) (CA m p o) S1 l :=
 let x:=s.new h o
 #[s.ff.trans (NB u),x.hh,x.dm,λb e z=>by by_cases hb:b=p;rw[hb];exact .inr (s.dm p h);rw[xA hb]at z;exact s.fn b e z,s.uu,s.bo]
theorem Ste.newT(s:Ste F H S ρ X m S1 l)(h:m p=kd)(x:X p=kd)(o:HO):Ste F H S ρ (CA X p o) (CA m p o) S1 l:=#[s.toStp.newT h x o,s.ow]
theorem Rl.newT(I:Rl K F H S ρ σ)(h:H p=kd)(o:HO):Rl K (CA F p o) (CA H p o) S ρ σ where
 fh:=λb u e=>by by_cases hb:b=p;rw[hb,pA]at e ⊢;exact e;rw[xA hb]at e ⊢;exact I.fh b u e
 len:=I.len
 sl:=λi s e=>by let#[v,k,x]:=I.sl i s e;refine#[v,k,x.mono (NB (I.fh.free h)) λb hb=>?_];have w:b≠p:=λz=>(x.dom b hb).1 (by rw[z];exact h);rw[xA w,xA w];exact#[rfl,(x.dom b hb).2]
 dj:=I.dj
theorem N2(ρ:kA)(i:Nat):(lockA ρ)[i]?=ρ[i]?.map lG:=by unfold lockA;rw[Qa]
theorem iB{ρ:kA}(h:(lockA ρ)[i]?=jr (jr s)):∃x,ρ[i]?=jr (jr x)/\s=.bor x.t:=by
 rw[N2]at h;cases e:ρ[i]? with
 |none=>rw[e]at h;cases h|some o =>
  rw[e]at h;cases o with
  |none=>cases h|some x =>
   cases x with|own t=>injection h with h;injection h with h;subst h;exact#[_,rfl,rfl]|bor t=>injection h with h;injection h with h;subst h;exact#[_,rfl,rfl]
theorem gD(b:k4):¬ U (lockA ρ) S b:=λ#[i,t,h,_]=>by let#[x,_,e]:=iB h;cases e
theorem Rl.lockA(I:Rl K F H S ρ σ):Rl K F H S (lockA ρ) σ where
 fh:=I.fh
 len:=by unfold L3.lockA;rw[QD];exact I.len
 sl:=λi s e=>by let#[x,h,rfl]:=iB e;let#[v,u,z]:=I.sl i x h;exact#[v,u,z.weak]
 dj:=λi j t s _ h=>by let#[x,_,e]:=iB h;cases e
theorem Stp.unlockA(s:Stp F H S (L3.lockA ρ) X m S1 l):Stp F H S ρ X m S ρ :=
 #[s.ff,λb u e _=>s.hh b u e (gD b),s.dm,λb h z=>(s.fn b h z).elim (λq=>o2 q (gD b)) .inr,λ_ h=>.inl h,λ_ _ h _=>#[h,rfl]]
theorem Rl.unlockA(I:Rl K F H S ρ σ)(s:Stp F H S (L3.lockA ρ) X m S1 l)(f:Same X m):Rl K X m S ρ σ where
 fh:=f
 len:=I.len
 sl:=λi sl e=>by let#[v,x,h]:=I.sl i sl e;exact#[v,x,s.keep h λb _=>gD b]
 dj:=I.dj
structure VR(K:QC)(vs:LN)(g:Hp)(c:Ft)(y:kA)(F H:Hp)(S:Ft)(ρ:kA)(v:V)(t:T)(n:Bool)(Z:lB):Prop where
 tr:Tr K F H n v t Z
 fr:n=kb->∀b,Z b->g b=kd∨U y c b
 tm:n=kn->∀b,Z b->∃(i:Nat) (s:Sl),i∈vs/\ρ[i]?=jr (jr s)/\S i b
 nw:n=kb->∀(i:Nat) s,ρ[i]?=jr (jr s)->∀b,Z b->¬ S i b
theorem VR.d{vs:LN}{g:Hp}{c:Ft}{y:kA}{v:V}{x:D}(n:Bool)(r:Rep K F v x):VR K vs g c y F H S ρ v (.d x) n (λ_=>False) :=
 #[.d r λ_ z=>z,λ_ _ z=>z.elim,λ_ _ z=>z.elim,λ_ _ _ _ _ z=>z.elim]
theorem VR.held(h:VR K vs g c y F H S ρ v t kb Z):Held F H S ρ Z:=#[λb hb=>h.tr.dom b hb,h.nw rfl]
theorem VR.vars{ws:LN}(h:VR K vs g c y F H S ρ v t n Z)(k:∀i∈vs,i∈ws):VR K ws g c y F H S ρ v t n Z :=
 #[h.tr,h.fr,λe b hb=>let#[i,s,z,x]:=h.tm e b hb;#[i,s,k i z,x],h.nw]
theorem VR.from(s:Stp F H S ρ X m S1 l)(h:VR K vs m S1 l B E C A v t n Z):VR K vs H S ρ B E C A v t n Z :=
 #[h.tr,λe b hb=>by rcases h.fr e b hb with q|q;exact .inl (s.dm b q);exact(s.uu b q).symm,h.tm,h.nw]
theorem VR.frz{vs:LN}{v:V}{t:T}{n:Bool}{Z:lB}(s:Ste F H S ρ X m S1 l)(I:Rl K X m S1 l σ)(h:VR K vs H S ρ X m S1 l v t n Z) :
  ∃B o,Ste F H S ρ B m S1 l/\Rl K B m S1 l σ/\Tr K B m kn v (gA t n) o/\(RF t n=kb->Rep K B v t.er)/\(∀b,o b->∃(i:Nat) (s:Sl),i∈vs/\l[i]?=jr (jr s)/\S1 i b) /\
   ∀st a t' k,Tr K X m st a t' k->(∀b,k b->∃(i:Nat) (s:Sl),l[i]?=jr (jr s)/\S1 i b)->Tr K B m st a t' k:=by
 cases n with
 |true =>
  have w:=h.held;have j:=bH (H:=m) λb hb=>(w.dom b hb).2;have f:=h.tr.kept j λb u hb e=>by rw[uH hb];exact e
  refine#[dJ X m Z,λ_=>False,s.frz (λb hb=>(w.dom b hb).2) (h.fr rfl),I.frz w,.d f λ_ z=>z,λ_=>f,λb z=>z.elim,λst a t' k r G=>r.mono j λb hb=>#[rfl,?_]];let#[i,Y,L,J]:=G b hb;rw[pC λz=>w.nw i Y L b z J];exact(r.dom b hb).2
 |false =>
  refine#[X,Z,s,I,h.tr,?_,h.tm rfl,λ_ _ _ _ r _=>r];intro e;have q:=h.tr;cases t with
  |d x=>cases q with|d r n=>exact r
  |_=>cases e
end
end
noncomputable abbrev uB(K:QC)(vs:LN)(F H:Hp)(S:Ft)(ρ:kA)(σ:St)(Q:TK)(R:VK):Prop :=
 ∀v z x y h t n Z,Ste F H S ρ z x y h->Rl K z x y h σ->VR K vs H S ρ z x y h v t n Z->Q t n h->R v x
noncomputable abbrev GH(K:QC)(F H:Hp)(S:Ft)(ρ:kA)(σ:St)(Q:Bool->kA->Prop)(R:Bool->Hp->Prop):Prop :=
 ∀b z x y h,Ste F H S ρ z x y h->Rl K z x y h σ->Q b h->R b x
section
variable{K:QC}{ws:LN}{F H B A:Hp}{S S1:Ft}{ρ Y:kA}{σ:St}{v w:V}{a b:T}{J G:lB}{Q:TK}{R:VK}{E C:Bool}
section
variable{X o:Hp}{m:Ft}{u:kA}{p:k4}{vs:LV}{ds:List D}
theorem uB.from(k:uB K ws F H S ρ σ Q R)(s:Ste F H S ρ X o m u):uB K ws X o m u σ Q R:=λv f e y h t n Z x z r q=>k v f e y h t n Z (s.trans x) z (r.from s.toStp) q
theorem GH.from{Q:Bool->kA->Prop}{R:Bool->Hp->Prop}(k:GH K F H S ρ σ Q R)(s:Ste F H S ρ X o m u):GH K X o m u σ Q R:=λb f e y h x z q=>k b f e y h (s.trans x) z q
theorem uB.vars{us:LN}(k:uB K ws F H S ρ σ Q R)(h:∀i∈us,i∈ws):uB K us F H S ρ σ Q R:=λv e z y x t n Z s I r q=>k v e z y x t n Z s I (r.vars h) q
theorem uB.d(k:uB K ws F H S ρ σ Q R)(s:Ste F H S ρ B A S1 Y)(I:Rl K B A S1 Y σ){x:D}{n:Bool}(r:Rep K B v x)(q:Q (.d x) n Y):R v A:=k v B A S1 Y _ n _ s I (VR.d n r) q
theorem uB.list(k:uB K ws F H S ρ σ Q R)(s:Ste F H S ρ B A S1 Y)(I:Rl K B A S1 Y σ)(x:A p=kd){ts:LT}{W:lB}(r:Trs K B A kb vs ts W)
  (fr:∀b,W b->H b=kd∨U ρ S b) (y:Held B A S1 Y W) (q:Q (.lst ts) kb Y):R (.ref p) (CA A p (.lst vs)):=by
 have g:∀b,A b≠kd->b≠p:=λb h z=>h (by rw[z];exact x);refine k _ B _ S1 Y _ kb (λb=>b=p∨W b) (s.new x _) (I.new x _) #[.lst pA (I.fh.free x) (r.mono (.refl _) λb hb=>#[?_,(y.dom b hb).2]) (λz=>(y.dom p z).1 x) (λb=>WJ),λ_ b hb=>?_,λz=>(by cases z),λ_ i f e b hb z=>?_] q;rw[xA (g b (y.dom b hb).1)];rcases hb with rfl|hb
 ·exact .inl (s.dm _ x)
 exact fr b hb;rcases hb with rfl|hb
 ·exact(I.dom e z).1 x
 exact y.nw i f e b hb z
theorem uB.listD(k:uB K ws F H S ρ σ Q R)(s:Ste F H S ρ B A S1 Y)(I:Rl K B A S1 Y σ)(h:A p=kd)(r:Reps K B vs ds)(q:Q (.lst (ds.map T.d)) kb Y):R (.ref p) (CA A p (.lst vs)) :=
 k.list s I h (Trs.of_reps r) (λb z=>z.elim) .none q
theorem uB.tupD(k:uB K ws F H S ρ σ Q R)(s:Ste F H S ρ B A S1 Y)(I:Rl K B A S1 Y σ)(h:A p=kd){n:Bool}(r:Reps K B vs ds)(q:Q (.d (.tuple ds)) n Y):R (.ref p) (CA A p (.tup vs)) :=
 uB.d k (s.newT h (I.fh.free h) _) (I.newT h _) (.tup (yD.of pA) (r.mono (NB (I.fh.free h)))) q
theorem uB.tup(k:uB K ws F H S ρ σ Q R)(s:Ste F H S ρ B A S1 Y)(I:Rl K B A S1 Y σ){p:k4}(x:A p=kd){vs:LV}{ts:LT}{W:lB}(r:Trs K B A kb vs ts W)
  (fr:∀b,W b->H b=kd∨U ρ S b) (y:Held B A S1 Y W) (q:Q (vD ts) kb Y):R (.ref p) (CA A p (.tup vs)):=by
 unfold vD at q;cases e:gH ts with
 |some ds=>rw[e]at q;exact k.tupD s I x (r.un e).1 q|none =>
  rw[e]at q;have g:∀b,A b≠kd->b≠p:=λb h z=>h (by rw[z];exact x);refine k _ B _ S1 Y _ kb (λb=>b=p∨W b) (s.new x _) (I.new x _) #[.tup pA (I.fh.free x) (r.mono (.refl _) λb hb=>#[?_,(y.dom b hb).2]) (λz=>(y.dom p z).1 x) (λb=>WJ),λ_ b hb=>?_,λz=>(by cases z),λ_ i f e b hb z=>?_] q;rw[xA (g b (y.dom b hb).1)];rcases hb with rfl|hb
  ·exact .inl (s.dm _ x)
  exact fr b hb;rcases hb with rfl|hb
  ·exact(I.dom e z).1 x
  exact y.nw i f e b hb z
theorem gn{W:hE}(s:Ste F H S ρ B A S1 Y)(I:Rl K B A S1 Y σ)(Z:Tr K B A E v a J)(r:Tr K B A C w b G)(h:binT W a.vw b.vw λz n=>Q z n Y)(k:uB K ws F H S ρ σ Q R):xf K W v w A R:=by
 have g:∀{i j:Int},a.vw=.sc (.int i)->b.vw=.sc (.int j)->v=.int i/\w=.int j:=λf e=>#[Z.int f,r.int e]
 cases W with
 |Add =>
  rcases h with⟨i,j,f,e,h⟩| ⟨x,y,f,e,h⟩| ⟨P,N,ds,es,f,e,e1,e2,hl,q⟩
  let#[rfl,rfl]:=g f e;exact k.d s I (.int _) h;obtain rfl:=Z.str f;obtain rfl:=r.str e;exact#[h.1,k.d s I (.str _) h.2];let#[p,xs,_,rfl,hp,rp,_]:=Z.ls I.fh f;let#[p2,O,_,rfl,hq,rq,_]:=r.ls I.fh e;have M:=(rp.un e1).1;have L:=(rq.un e2).1;exact#[xs,O,hp,hq,by rw[M.9,L.9];exact hl,λl hl=>k.listD s I hl (M.append L) q]
 |Sub=>let#[i,j,f,e,h]:=h;let#[rfl,rfl]:=g f e;exact k.d s I (.int _) h|Mult=>let#[i,j,f,e,h]:=h;let#[rfl,rfl]:=g f e;exact#[h.1,k.d s I (.int _) h.2]|FloorDiv=>let#[i,j,f,e,h]:=h;let#[rfl,rfl]:=g f e;exact#[h.1,k.d s I (.int _) h.2]|Mod=>let#[i,j,f,e,h]:=h;let#[rfl,rfl]:=g f e;exact#[h.1,k.d s I (.int _) h.2]|_=>exact h.elim
theorem Ag{x y:D}{r:Bool->Prop}(neg:Bool)(e:Rep K A v x)(z:Rep K A w y)(h:Nu x y λk=>r (if neg then !k else k))(k:∀c,r c->R (.bl c) A):rEq K neg v w A R:=by
 have n:AE x/\AE y/\r (if neg then !PyData.eqv x y else Qp x y)->(∃l f,Rep K A v l/\Rep K A w f/\AE l/\AE f/\R (.bl (if neg then !PyData.eqv l f else Qp l f)) A):=λ#[Z,s,q] =>
  #[x,y,e,z,Z,s,k _ q]
 unfold Nu at h;split at h;cases e;cases z;exact k _ h;cases e;cases z;exact k _ h;cases e;cases z;exact k _ h;have g:=n h;rename_i n1 n2 n3;cases e with
 |int i =>
  cases z with|int j=>exact o2 rfl (n1 i j rfl)|_=>exact g
 |str i =>
  cases z with|str j=>exact o2 rfl (n2 i j rfl)|_=>exact g
 |bl i =>
  cases z with|bl j=>exact o2 rfl (n3 i j rfl)|_=>exact g
 |_=>exact g
theorem x9{F:Hp}{v w:V}{a b:D}(x:Rep K F v a)(h:Rep K F w b)(z:YB a=kb)(y:YB b=kb):Fe v w=Qp a b:=by cases x<;>cases h<;>first|exact o2 (show kn=kb from z) QG|exact o2 (show kn=kb from y) QG | (simp only[Qp];rfl) | (simp only[Qp])
theorem mX{F:Hp}{v:V}{a:D}(h:Rep K F v a)(x:YB a=kb):tG v=true:=by cases h<;>first|rfl|exact o2 (show kn=kb from x) QG
theorem KU{F:Hp}(h:Reps K F vs ds)(f:ds.all YB=kb):vs.all tG=kb :=
 Reps.ind (R:=λvs ds=>ds.all YB=kb->vs.all tG=kb) (λ_=>rfl) (λh x f=>by rw[qW,QW]at f ⊢;exact#[mX h f.1,x f.2]) h f
theorem UN{F:Hp}{v:V}{a:D}(x:Rep K F v a)(z:YB a=kb):∀{vs:LV}{ds:List D},Reps K F vs ds->ds.all YB=kb->inV v vs=ds.any λy=>Qp y a
 |_,_,.nil,_=>rfl|_,_,.cons h t,f=>by rw[qW,QW]at f;have e:=UN x z t f.2;unfold inV at e ⊢;rw[wK,wK,x9 h x f.1 z,e]
end
mutual
theorem YY{F:Hp}:∀{k:NK}{v:V},Rep K F v (tD k)->Rn K F k v
 | .s x,v,h=>by have h:Rep K F v (.str x):=h;cases h;rfl|.t ks,v,h=>by
  have h:Rep K F v (.tuple (tDs ks)):=h;cases h with|tup z y=>exact#[_,_,rfl,z,reps_key y]
theorem reps_key{F:Hp}:∀{ks:List NK}{vs:LV},Reps K F vs (tDs ks)->KyVs K F ks vs
 |[],vs,h=>by have h:Reps K F vs []:=h;cases h;rfl|k::ks,vs,h=>by
  have h:Reps K F vs (tD k::tDs ks):=h;cases h with|cons h t=>exact#[_,_,rfl,YY h,reps_key t]
end
section
variable{k x y:D}{o:HO}{ks ds:List D}{vs xs:LV}{X:Bool->Prop}{U:bb}{W:Bool->Hp->Prop}{n:String}{Y:lB}{ts:LT}
theorem UR{F:Hp}{v:V}(hk:SD kb k)(r:Rep K F v k):∃q p,k=tD q/\v=.ref p/\jP K F p q:=by let#[q,rfl,h]:=hk;have r:=YY r;let#[p,_,rfl,_]:=id r;exact#[_,p,rfl,rfl,r,h]
theorem NG(q:NK):∀(kvs:List KE),fH kvs q=(dA (kvs.map λp=>tD p.1) (tD q)).bind λn=>(kvs.map (·.2.2))[n]?
 |[]=>rfl|p::r=>by rw[QT,QT];unfold dA;by_cases e:p.1=q;rw[NS e,oa (by rw[e])];rfl;rw[OS e,ot λz=>e (EV z),NG q r];cases dA (r.map λp=>tD p.1) (tD q)<;>rfl
theorem MJ(q:Key):∀(kvs:List (Key×V)),fM kvs q=(dA (kvs.map λp=>kD p.1) (kD q)).bind λn=>(kvs.map (·.2))[n]?
 |[]=>rfl|p::r=>by rw[QT,QT];unfold dA;by_cases e:p.1=q;rw[cM e,oa (by rw[e])];rfl;rw[dM e,ot λz=>e (X8 z),MJ q r];cases dA (r.map λp=>kD p.1) (kD q)<;>rfl
theorem DK.get{a:k4}{b:Bool}(u:H1 a=jr o)(q:DK K H1 b o ks vs)(e:Rep K H1 w k)(hk:SD b k):YS K H1 a w ((dA ks k).bind λn=>vs[n]?):=by
 cases b with
 |true=>let#[v,h,rfl,rfl,rfl,g,_]:=q;let#[q,p,rfl,rfl,f]:=UR hk e;exact#[v,h,q,u,g,f,(NG q h).symm]|false =>
  let#[z,rfl]:=hk;cases e;rcases q with⟨h,_,rfl,rfl,rfl,_⟩| ⟨v,rfl,rfl,rfl⟩
  exact .inl #[h,u,(MJ (.inr z) h).symm];exact .inr #[v,u,rfl]
theorem VU{b:Bool}(q:DK K H1 b o ks vs):((dA ks k).bind λn=>vs[n]?).isSome=(dA ks k).isSome:=by
 cases e:dA ks k with
 |none=>rfl|some n =>
  have z:=(Qg.mp (TC e)).1;have h:n<vs.length:=by rw[<- q.len];exact z
  simp[h]
theorem uX{b neg:Bool}{a:k4}(u:H1 a=jr o)(q:DK K H1 b o ks vs)(z:Rep K H1 v x)(hk:SD b x)(h:R (.bl (if neg then !(dA ks x).isSome else(dA ks x).isSome)) H1):oT K neg v (.ref a) H1 R :=
 .inr (.inr #[_,q.get u z hk,by rw[VU q];exact h])
theorem Hg(neg:Bool)(z:Rep K H1 v x)(e:Rep K H1 w y)(h:Du x y λk=>X (if neg then !k else k))(k:∀c,X c->R (.bl c) H1):oT K neg v w H1 R:=by
 unfold Du at h;split at h;cases z;cases e;exact k _ h;rename_i ds;have u:=e;cases e with
 |lst l f =>
  rcases h.1 with⟨g,fs⟩| ⟨j,i⟩
  refine .inl #[_,_,rfl,.inl l,mX z g,KU f fs,?_];rw[UN z g f fs];exact k _ h.2;exact .inr (.inl #[_,ds,z,.inl u,j,i,k _ h.2])
 rename_i ds;have u:=e;cases e with
 |tup l f =>
  rcases h.1 with⟨g,fs⟩| ⟨j,i⟩
  refine .inl #[_,_,rfl,.inr l,mX z g,KU f fs,?_];rw[UN z g f fs];exact k _ h.2;exact .inr (.inl #[_,ds,z,.inr u,j,i,k _ h.2])
 let#[b,p,hk,q]:=h;cases e with
 |@dct s a o ks vs ds h m r =>
  have hl:ks.9=ds.length:=by rw[m.len,Reps.length r]
  rw[W7 (wq hl)]at q;cases kZ m p;exact uX h m z hk (k _ q)
 exact h.elim
theorem IQ{g:Int->Int->Bool}(u:Rep K H1 v x)(z:Rep K H1 w y)(h:O0 g x y X)(k:∀c,X c->R (.bl c) H1):B0 g v w H1 R:=by unfold O0 at h;split at h;cases u;cases z;exact k _ h;exact h.elim
theorem Rep.non_iff(h:Rep K H1 v x):decide (v=.non)=G8 x:=by cases h<;>rfl
theorem eX(u:Rep K H1 v x)(z:Rep K H1 w y)(h:HU U x y X)(k:∀c,X c->R (.bl c) H1):V9 K U v w H1 R:=by
 cases U with|Eq=>exact Ag kn u z h k|NotEq=>exact Ag kb u z h k|Lt=>exact IQ u z h k|LtE=>exact IQ u z h k|Gt=>exact IQ u z h k|GtE=>exact IQ u z h k|In=>exact Hg kn u z h k|NotIn=>exact Hg kb u z h k|Is=>have a:J3 x y X:=h;unfold J3 at a;split at a;cases z;have e:=u.non_iff;show R (.bl (decide (v=.non))) H1;rw[e];exact k _ a;cases z;cases u;exact#[_,rfl,k _ a];exact a.elim|IsNot=>have a:J3 x y λk=>X (!k):=h;unfold J3 at a;split at a;cases z;have e:=u.non_iff;show R (.bl (!decide (v=.non))) H1;rw[e];exact k _ a;cases z;cases u;exact#[_,rfl,k _ a];exact a.elim
theorem Me(f:Same F1 H1)(z:Rep K H1 v x)(u:Tr K F1 H1 sb w b Zb)(h:Oe U x b X)(k:∀c,X c->R (.bl c) H1):V9 K U v w H1 R:=by
 cases b with
 |d y=>exact eX z (u.rep f) h k|lst ts=>exact eX z (u.rep f) h k|tup ts=>exact eX z (u.rep f) h k|dct b ks ts =>
  let#[hk,h]:=h;cases u with
  |dct a e _ _ _ _ =>
   rcases h with⟨rfl,q⟩| ⟨rfl,q⟩
   exact uX (neg:=kn) a (e.mono f) z hk (k _ q);exact uX (neg:=kb) a (e.mono f) z hk (k _ q)
theorem cJ(r:Reps K F xs ds):(!ds.isEmpty)=!xs.isEmpty:=by cases r<;>rfl
theorem lY(z:Rep K H1 v x)(h:sI x X)(k:∀c,X c->W c H1):OF K v H1 W:=by
 unfold sI at h;split at h;cases z;exact k _ h;cases z;exact k _ h;cases z;exact k _ h;cases z;exact#[h.1,k _ h.2];cases z with|lst w u=>rw[cJ u]at h;exact#[_,.inl #[_,w,rfl],k _ h]
 cases z with|tup w u=>rw[cJ u]at h;exact#[_,.inr (.inl #[_,w,rfl]),k _ h]
 exact h.elim
theorem SX(z:Rep K H1 v x)(h:uf x X)(k:∀c,X c->W c H1):U4 v H1 W:=by unfold uf at h;split at h;cases z;exact k _ h;exact h.elim
theorem im(s:Ste F H S ρ F1 H1 S1 ρ1)(I:Rl K F1 H1 S1 ρ1 σ)(A:Tr K F1 H1 sa v a Za)(E:∀b,Za b->∃(i:Nat) (s:Sl),i∈ws/\ρ1[i]?=jr (jr s)/\S1 i b)(m:Tr K F1 H1 sb w b Zb)(h:XO a.vw b.vw λz=>Q z kn ρ1)(k:uB K ws F H S ρ σ Q R):dW K v w H1 R:=by
 rcases h with⟨z,i,c,j,g,f,e,q⟩| ⟨ts,i,d,j,g,f,q⟩| ⟨ts,i,d,j,g,f,q⟩
 obtain rfl:=A.str j;obtain rfl:=m.int g;exact#[f,c,e,k.d s I (.str _) q];let#[p,xs,G,rfl,C,l,B]:=A.ls I.fh j;obtain rfl:=m.int g;let#[x,Z,e,r,u]:=l.at f;exact#[xs,x,.inl C,e,k _ F1 H1 S1 ρ1 _ kn Z s I #[r,λz=>(by cases z),λ_ b hb=>E b (B b (u b hb)),λz=>(by cases z)] q];let#[p,xs,G,rfl,C,l,B]:=A.tp I.fh j;obtain rfl:=m.int g;let#[x,Z,e,r,u]:=l.at f;exact#[xs,x,.inr C,e,k _ F1 H1 S1 ρ1 _ kn Z s I #[r,λz=>(by cases z),λ_ b hb=>E b (B b (u b hb)),λz=>(by cases z)] q]
theorem Om(s:Ste F H S ρ F1 H1 S1 ρ1)(I:Rl K F1 H1 S1 ρ1 σ)(l:Tr K F1 H1 sa v a Za)(e:∀b,Za b->∃(i:Nat) (s:Sl),i∈ws/\ρ1[i]?=jr (jr s)/\S1 i b)(j:Rep K H1 w y)(h:UU a.vw y λz=>Q z kn ρ1)(k:uB K ws F H S ρ σ Q R):dW K v w H1 R:=by
 let#[b,ks,ts,n,d,G,hk,C,A,q]:=h;let#[p,o,vs,L,rfl,B,J,f,m,_]:=l.dc I.fh G;let#[x,Z,E,r,u]:=f.get A;have g:=(J.mono I.fh).get B j hk;rw[C]at g;have g:YS K H1 p w (vs[n]?):=g;rw[E]at g;have fin:=k _ F1 H1 S1 ρ1 _ kn Z s I #[r,λz=>(by cases z),λ_ b hb=>e b (m b (u b hb)),λz=>(by cases z)] q;cases w with|str z=>exact#[x,g,fin]|ref c=>exact#[x,g,fin]|_=>exact g.elim
theorem Reps.cut(r:Reps K F xs ds)(h z:Option Int):Reps K F (DU xs h z) (SF ds h z):=by unfold DU SF;rw[r.9];exact(r.drop _).take _
theorem fj{g i:Option Int}(s:Ste F H S ρ F1 H1 S1 ρ1)(I:Rl K F1 H1 S1 ρ1 σ)(b:Tr K F1 H1 sa v a Za)(h:BI a.vw g i λz n=>Q z n ρ1)(k:uB K ws F H S ρ σ Q R):aw K v g i H1 R:=by
 rcases h with⟨z,u,h⟩| ⟨ts,ds,u,e,q⟩| ⟨ts,ds,u,e,n,q⟩
 obtain rfl:=b.str u;exact#[h.1,k.d s I (.str _) h.2];let#[p,xs,_,rfl,f,w,_]:=b.ls I.fh u;exact .inl #[p,xs,rfl,f,λl hl=>k.listD s I hl ((w.un e).1.cut _ _) q];let#[p,xs,_,rfl,f,w,_]:=b.tp I.fh u;refine .inr #[p,xs,rfl,f,by rw[(w.un e).1.length];exact n,λl hl=>k.tupD s I hl ((w.un e).1.cut _ _) q]
theorem Cc{P:Option Int->Prop}{z:Option Int->Hp->Prop}(u:Rep K H1 v x)(h:fG x P)(k:∀o,P o->z o H1):kN v H1 z:=by unfold fG at h;split at h;cases u;exact k _ h;exact h.elim
noncomputable def iu:D->kt
 | .none=>.type "NoneType"|.bool _=>.type "bool"|.int _=>.type "int"|.str _=>.type "str"|.list _=>.type "list"|.tuple _=>.type "tuple"|.dict _=>.type "dict"
theorem Rep.ty(w:Rep K H1 v x):TyOf K H1 v (iu x)∨tz K H1 v (iu x):=by
 cases w with
 |non=>exact .inl .non|bl b=>exact .inl (.bl _)|int b=>exact .inl (.int _)|str b=>exact .inl (.str _)|lst h u=>exact .inr (.inl #[_,_,rfl,h,rfl])|tup h u=>exact .inr (.inr #[_,_,rfl,h,rfl])|@dct b _ _ _ _ _ h q _ =>
  cases b with
  |true=>let#[a,z,rfl,_]:=q;exact .inl (.dT h)|false =>
   rcases q with⟨z,_,rfl,_⟩| ⟨a,rfl,_⟩
   exact .inl (.dK h);exact .inl (.dT h)
theorem jm{k:Bool}(h:isD n x=jr k)(z:BP n=kb):QBf K (iu x) (.type n)=jr k:=by simp only[BP,wm,beq_iff_eq]at z;rcases z with((((rfl|rfl)|rfl)|rfl)|rfl)|rfl<;>cases x<;>simp[isD]at h<;>subst h<;>rfl
theorem om{k:Bool}(z:Rep K H1 v x)(h:isD n x=jr k)(u:BP n=kb)(q:R (.bl k) H1):Bj K [v,.ty n] H1 R :=
 #[iu x,.type n,k,z.ty,rfl,jm h u,q]
inductive Tn(K:QC)(F H:Hp)(Y:lB):LV->LT->Prop where
 |nil:Tn K F H Y [] []
 |cons {v:V}{t:T}{vs:LV}{ts:LT}{Z:lB}:Tr K F H kn v t Z->(∀b,Z b->Y b)->Tn K F H Y vs ts->Tn K F H Y (v::vs) (t::ts)
theorem uM(ts:LT):∀{xs:List (T×Bool)},UO xs=ts->AB xs=ts.map T.vw
 |[],h=>by subst h;rfl|p::r,h=>by subst h;simp only[AB,UO,QT,uM _ rfl]
theorem Tn.one{x:Vw}(h:Tn K F H Y vs ts)(e:ts.map T.vw=[x]):∃v t Z,vs=[v]/\ts=[t]/\t.vw=x/\Tr K F H kn v t Z/\∀b,Z b->Y b:=by
 cases h with
 |nil=>cases e|cons r z t =>
  simp only[QT,Wf]at e;cases t with|nil=>exact#[_,_,_,rfl,rfl,e.1,r,z]|cons _ _ _=>simp at e
theorem Tn.two{x y:Vw}(h:Tn K F H Y vs ts)(e:ts.map T.vw=[x,y]):∃v w t u Z a,vs=[v,w]/\ts=[t,u]/\t.vw=x/\u.vw=y/\Tr K F H kn v t Z/\Tr K F H kn w u a/\(∀b,Z b->Y b)/\(∀b,a b->Y b):=by
 cases h with|nil=>cases e|cons r z t=>simp only[QT,Wf]at e;let#[v,u,a,rfl,rfl,i,g,f]:=t.one e.2;exact#[_,_,_,_,_,_,rfl,rfl,e.1,i,r,g,z,f]
theorem AJ:∀{xs:LV}{z:LS},Reps K F xs (z.map j0)->xs=z.map V.str
 |_,[],.nil=>rfl|_,y::z,.cons h t=>by cases h;rw[QT,AJ t]
theorem uP:∀(h:LS),Reps K F (h.map V.str) (h.map j0)
 |[]=>.nil|y::h=>.cons (.str y) (uP h)
theorem sU:∀{xs:LV}{z:LJ},Reps K F xs (z.map j1)->xs=z.map V.int
 |_,[],.nil=>rfl|_,y::z,.cons h t=>by cases h;rw[QT,sU t]
theorem CP:∀(h:LJ),Reps K F (h.map V.int) (h.map j1)
 |[]=>.nil|y::h=>.cons (.int y) (CP h)
theorem V0{α:Type}{g:α->D}{u:LV}(Z:xs.Perm u):∀{l:List α},Reps K F xs (l.map g)->∃z:List α,z.Perm l/\Reps K F u (z.map g):=by
 induction Z with
 |nil=>intro l r;exact#[l,QBi _,r]|cons x _ m =>
  intro l r;cases l with
  |nil=>cases r|cons a l=>cases r with|cons h t=>let#[z,p,v]:=m t;exact#[a::z,p.cons _,.cons h v]
 |swap x y C =>
  intro l r;cases l with
  |nil=>cases r|cons a l=>cases l with
   |nil=>cases r with|cons h t=>cases t
   |cons b l=>cases r with
    |cons h t=>cases t with|cons A t=>exact#[b::a::l,QCx.swap _ _ _,.cons A (.cons h t)]
 |trans _ _ s q=>intro l r;let#[B,i,e]:=s r;let#[j,f,w]:=q e;exact#[j,f.trans i,w]
theorem bW{ls:List (LS)}(h:Reps K F xs (ls.map TD)):∀x∈xs,∃a,∃u:LS,x=.ref a/\aC K F a (u.map V.str):=by
 induction ls generalizing xs with
 |nil=>cases h;exact λ_ z=>nomatch z
 |cons l ls v =>
  cases h with
  |cons r t =>
   intro x h;rcases QL.mp h with e|h;subst e;cases r with|lst q r=>exact#[_,l,rfl,by rw[<- AJ r];exact q]
   exact v t x h
theorem Bn{O:Bi}(s:Ste F H S ρ F1 H1 S1 ρ1)(I:Rl K F1 H1 S1 ρ1 σ)(m:Tn K F1 H1 Y vs ts)(h:x4 O (ts.map T.vw) λz n=>Q z n ρ1)(k:uB K ws F H S ρ σ Q R):gt K O vs H1 R:=by
 cases O with
 |len =>
  rcases h with⟨z,e,h⟩| ⟨A,e,h⟩| ⟨A,e,h⟩
  let#[v,t,Z,rfl,rfl,e,r,_]:=m.one e;obtain rfl:=r.str e;exact .inl #[_,rfl,h.1,k.d s I (.int _) h.2];let#[v,t,Z,rfl,rfl,e,r,_]:=m.one e;let#[p,xs,_,rfl,b,f,_]:=r.ls I.fh e;exact .inr #[_,xs,rfl,.inl b,by rw[f.9];exact k.d s I (.int _) h];let#[v,t,Z,rfl,rfl,e,r,_]:=m.one e;let#[p,xs,_,rfl,b,f,_]:=r.tp I.fh e;exact .inr #[_,xs,rfl,.inr b,by rw[f.9];exact k.d s I (.int _) h]
 |any=>let#[A,bs,e,hb,q]:=h;let#[v,t,Z,rfl,rfl,e,r,_]:=m.one e;let#[p,xs,_,rfl,b,f,_]:=r.ls I.fh e;obtain rfl:=(f.un hb).1.bools;exact#[bs,b,k.d s I (.bl _) q]|min=>let#[i,j,e,q]:=h;let#[v,w,t,u,Z1,Z2,rfl,rfl,e1,e2,L,P,_]:=m.two e;obtain rfl:=L.int e1;obtain rfl:=P.int e2;exact#[i,j,rfl,k.d s I (.int _) q]|sorted =>
  rcases h with⟨A,G,e,hb,g,q⟩| ⟨A,ls,e,hb,g,q⟩| ⟨A,ns,e,hb,g,q⟩
  let#[v,t,Z,rfl,rfl,e,r,_]:=m.one e;let#[p,xs,_,rfl,b,f,_]:=r.ls I.fh e;obtain rfl:=AJ (f.un hb).1;exact#[_,rfl,.inl #[G,b,g,λl B hl C M=>k.listD s I hl (uP B) (q B C M)]];let#[v,t,Z,rfl,rfl,e,r,_]:=m.one e;let#[p,xs,_,rfl,b,f,_]:=r.ls I.fh e;have J:=(f.un hb).1;refine#[_,rfl,.inr (.inl #[xs,b,by rw[Reps.length J,QD];exact g,λx hx=>?_,λl ys hl b=>?_])];let#[a,G,e,sq]:=bW J x hx;exact#[a,G,e,I.fh.seq sq];let#[N,C,L]:=V0 b.symm J;exact k.listD s I hl L (q N C);let#[v,t,Z,rfl,rfl,e,r,_]:=m.one e;let#[p,xs,_,rfl,b,f,_]:=r.ls I.fh e;obtain rfl:=sU (f.un hb).1;exact#[_,rfl,.inr (.inr #[ns,b,g,λl E hl C M=>k.listD s I hl (CP E) (q E C M)])]
 |tuple=>let#[A,ds,e,hb,q]:=h;let#[v,t,Z,rfl,rfl,e,r,_]:=m.one e;let#[p,xs,_,rfl,b,f,_]:=r.ls I.fh e;exact#[_,xs,rfl,b,λl hl=>k.tupD s I hl (f.un hb).1 q]
theorem Xl{m:Mt}(s:Ste F H S ρ F1 H1 S1 ρ1)(I:Rl K F1 H1 S1 ρ1 σ)(w:Tr K F1 H1 sa v a Za)(b:Tn K F1 H1 Y vs ts)(h:Xu m a.vw (ts.map T.vw) λz n=>Q z n ρ1)(k:uB K ws F H S ρ σ Q R):Pd K m v vs H1 R:=by
 cases m with|index=>let#[z,y,i,u,g,e,f,q]:=h;obtain rfl:=w.str g;let#[v,t,Z,rfl,rfl,e,r,_]:=b.one e;obtain rfl:=r.str e;exact#[z,y,i,u,rfl,rfl,f,k.d s I (.int _) q]|_=>exact h.elim
theorem Mr{x:Vw}(h:x.isS=kb):∃z,x=.sc (.str z):=by
 cases x with
 |sc d=>cases d with|str z=>exact#[z,rfl]|_=>exact(QG h).elim
 |_=>exact(QG h).elim
theorem Iq{m:Mt}(u:Tr K F1 H1 sa v a Za)(h:E7 m a.vw=kb):RZ K m.ty v H1:=by
 have h:=jA h;let#[z,w]:=Mr h.1;obtain rfl:=u.str w;cases m with|index=>rfl|_=>exact(QG h.2).elim
end
end
inductive AV(K:QC)(F H:Hp):List Md->LV->List (T×Bool)->(k4->Prop)->(k4->Prop)->Prop where
 |nil {md:List Md}{W Y:lB}:(∀b,¬ W b)->AV K F H md [] [] W Y
 |chg {md:List Md}{v:V}{vs:LV}{x:T}{xs:List (T×Bool)}{W Y:lB}:(md.headD .fro).isMut=kb->AV K F H md.tail vs xs W Y->AV K F H md (v::vs) ((x,kb)::xs) W Y
 |new {md:List Md}{v:V}{vs:LV}{x:T}{xs:List (T×Bool)}{Z W W' Y:lB}:(md.headD .fro).isMut=kn->Tr K F H kb v x Z->AV K F H md.tail vs xs W' Y->(∀b,Z b->¬ W' b)->(∀b,W b↔Z b∨W' b) ->
   AV K F H md (v::vs) ((x,kb)::xs) W Y
 |tmp {md:List Md}{v:V}{vs:LV}{x:T}{xs:List (T×Bool)}{Z W Y:lB}:(md.headD .fro).isMut=kn->Tr K F H kn v x Z->(∀b,Z b->Y b)->AV K F H md.tail vs xs W Y ->
   AV K F H md (v::vs) ((x,kn)::xs) W Y
section
variable{K:QC}{F H o l:Hp}{S S1:Ft}{ρ g:kA}{σ:St}
section
variable{Y W:lB}{md:List Md}{vs:LV}{xs:List (T×Bool)}{ws:LN}{c:Hp}{w:Ft}{y:kA}
theorem AV.sub{u:lB}(h:AV K F H md vs xs W Y)(k:∀b,Y b->u b):AV K F H md vs xs W u:=by
 induction h with|nil h=>exact .nil h|chg h t x=>exact .chg h (x k)|new h r t n q x=>exact .new h r (x k) n q|tmp h r z t x=>exact .tmp h r (λb hb=>k b (z b hb)) (x k)
theorem AV.dom(h:AV K F H md vs xs W Y):∀b,W b->H b≠kd/\F b=none:=by
 induction h with|nil h=>exact λb hb=>o2 hb (h b)|chg h t x=>exact x|new h r t n q x=>exact λb hb=>((q b).mp hb).elim (r.dom b) (x b)|tmp h r z t x=>exact x
theorem AV.length(h:AV K F H md vs xs W Y):vs.9=xs.length:=by
 induction h with|nil h=>rfl|chg h t x=>simp[x]|new h r t n q x=>simp[x]|tmp h r z t x=>simp[x]
theorem AV.trs(h:AV K F H md vs xs W Y):(∀(i:Nat),(md.getD i .fro).isMut=kn)->HE xs=kb->Trs K F H kb vs (NF xs) W:=by
 induction h with
 |nil h=>exact λ_ _=>.nil h|@chg md _ _ _ _ _ _ h t u =>
  intro m;have:=m 0;cases md with|nil=>cases h|cons a r=>exact o2 h (by simpa using this)
 |@new md v vs x xs Z W k Y h r t n q u =>
  intro m e;simp only[HE,QW]at e;exact .cons r (u (λi=>by cases md with|nil=>exact m i|cons a md=>exact m (i+1)) e.2) n q
 |@tmp md v vs x xs Z W Y h r z t u =>
  intro m e;simp only[HE,QW]at e;refine .cons (S1:=λ_=>False) ?_ (u (λi=>by cases md with|nil=>exact m i|cons a md=>exact m (i+1)) e.2) (λ_ z=>z.elim) λb=>by simp
  cases x with
  |d x=>cases r with|d r n=>exact .d r λ_ z=>z
  |_=>exact o2 e.1 (by simp[RF,T.isD])
theorem Zl(i:Nat):((([]:List Md).getD i .fro).isMut)=false:=rfl
theorem AV.tn(h:AV K F H md vs xs W Y)(e:Same F o)(k:∀b,W b->o b=H b)(f:∀b,Y b->F b=kd->o b=kd)(hm:md=[]):Tn K o H Y vs (UO xs):=by
 induction h with|nil h=>exact .nil|chg h t a=>subst hm;cases h|@new md v vs x xs Z W j Y h r t n q a=>subst hm;refine .cons (Z:=λ_=>False) ?_ (λb z=>z.elim) (a (λb hb=>k b ((q b).mpr (.inr hb))) f rfl);exact .d (r.kept e λb u hb i=>by rw[k b ((q b).mpr (.inl hb))];exact i) λ_ z=>z|@tmp md v vs x xs Z W Y h r z t a=>subst hm;exact .cons (r.mono e λb hb=>#[rfl,f b (z b hb) (r.dom b hb).2]) z (a k f rfl)
structure AR(K:QC)(ws:LN)(md:List Md)(c:Hp)(w:Ft)(y:kA)(F H:Hp)(S:Ft)(ρ:kA)(vs:LV)(xs:List (T×Bool))(W Y:lB):Prop where
 av:AV K F H md vs xs W Y
 fr:∀b,W b->c b=kd∨U y w b
 tm:∀b,Y b->∃(i:Nat) (s:Sl),i∈ws/\ρ[i]?=jr (jr s)/\S i b
 nw:∀(i:Nat) s,ρ[i]?=jr (jr s)->∀b,W b->¬ S i b
theorem AR.held(h:AR K ws md c w y F H S ρ vs xs W Y):Held F H S ρ W:=#[h.av.dom,h.nw]
theorem AR.from{v u:Hp}{z:Ft}{x:kA}(s:Stp F H S ρ o l S1 g)(h:AR K ws md l S1 g v u z x vs xs W Y):AR K ws md H S ρ v u z x vs xs W Y :=
 #[h.av,λb hb=>by rcases h.fr b hb with q|q;exact .inl (s.dm b q);exact(s.uu b q).symm,h.tm,h.nw]
theorem AR.vars{us:LN}(h:AR K ws md c w y F H S ρ vs xs W Y)(k:∀i∈ws,i∈us):AR K us md c w y F H S ρ vs xs W Y :=
 #[h.av,h.fr,λb hb=>let#[i,s,z,x]:=h.tm b hb;#[i,s,k i z,x],h.nw]
theorem AR.frz{ws:LN}{vs:LV}{xs:List (T×Bool)}{W Y:lB}(s:Ste F H S ρ o l S1 g)(I:Rl K o l S1 g σ)(h:AR K ws [] H S ρ o l S1 g vs xs W Y) :
  ∃v,Ste F H S ρ v l S1 g/\Rl K v l S1 g σ/\Tn K v l Y vs (UO xs) /\
   ∀st k t' u,Tr K o l st k t' u->(∀b,u b->∃(i:Nat) (s:Sl),g[i]?=jr (jr s)/\S1 i b)->Tr K v l st k t' u:=by
 have x:=h.held;have f:=bH (H:=l) λb hb=>(x.dom b hb).2;refine#[dJ o l W,s.frz (λb hb=>(x.dom b hb).2) h.fr,I.frz x,h.av.tn f (λb hb=>uH hb) (λb m n=>?_) rfl,λst k t' u r j=>r.mono f λb hb=>#[rfl,?_]];let#[i,a,_,e,p]:=h.tm b m;rw[pC λz=>h.nw i a e b z p];exact n;let#[i,a,q,e]:=j b hb;rw[pC λz=>x.nw i a q b z e];exact(r.dom b hb).2
noncomputable def sB:List Md->LV->LV
 |_,[]=>[]|md,v::vs=>match md.headD .fro with
  | .chg=>v::sB md.tail vs|_=>sB md.tail vs
noncomputable abbrev Et(K:QC)(p:PX)(md:List Md)(F H:Hp)(S:Ft)(ρ:kA)(σ:St)(Q:List (T×Bool)->kA->Prop)(R:LV->Hp->Prop):Prop :=
 ∀vs u x z h xs W Y,Ste F H S ρ u x z h->Rl K u x z h σ->AR K (TF p) md H S ρ u x z h vs xs W Y->(sB md vs).map (λv=>jr (jr v))=(bA md p).map (λj=>σ[j]?)->Q xs h->R vs x
def Ut(K:QC)(F H:Hp)(x:XD)(h:Option k4):Prop:=∃a fs,h=jr a/\H a=jr (.xd fs)/\y1 (λ(p:Str×V) (q:Str×D)=>p.1=q.1/\Rep K F p.2 q.2) fs x.2
def ND(K:QC)(F H:Hp)(S:Ft)(ρ:kA)(E:XE)(a:XK):Prop:=∀x v u h k z,Stp F H S ρ u h k z->Same u h->Ut K u h x v->E x->a x.1 v h
theorem ND.from{E:XE}{u:XK}(h:ND K F H S ρ E u)(s:Stp F H S ρ o l S1 g):ND K o l S1 g E u:=λx k e b a z v f r q=>h x k e b a z (s.trans v) f r q
theorem ND.never:ND K F H S ρ (λ_=>False) (λ_ _ _=>False):=λ_ _ _ _ _ _ _ _ _ z=>z
inductive ArgsR(K:QC)(F H:Hp)(Y:lB):List Md->LV->LT->Prop where
 |nil {md:List Md}:ArgsR K F H Y md [] []
 |chg {md:List Md}{v:V}{vs:LV}{t:T}{ts:LT}:md.headD .fro=.chg->ArgsR K F H Y md.tail vs ts->ArgsR K F H Y md (v::vs) (t::ts)
 |rd {md:List Md}{v:V}{vs:LV}{t:T}{ts:LT}{Z:lB}:md.headD .fro≠.chg->Tr K F H kn v t Z->(∀b,Z b->Y b)->ArgsR K F H Y md.tail vs ts->ArgsR K F H Y md (v::vs) (t::ts)
structure Frm(M:lB)(F H F' H':Hp):Prop where
 ff:Same F F'
 fh:Same F' H'
 hh:∀b u,H b=jr u->¬ M b->H' b=jr u
 dm:∀b,H' b=kd->H b=kd
 fn:∀b,F b=kd->F' b≠kd->M b∨H b=kd
def lift(K:QC)(P:PSp):Sp:=λvs H Q E=>∃(F:Hp) (u:LT) (M Y:lB),Same F H/\ArgsR K F H Y P.md vs u/\Trs K F H kb (sB P.md vs) (HB P.md u) M/\(∀b,Y b->¬ M b) /\
 P.run u (λr e=>∀v z h Z k,Frm M F H z h->Tr K z h kb v r Z->Trs K z h kb (sB P.md vs) e k->(∀b,Z b->¬ k b)->(∀b,Z b∨k b->M b∨H b=kd)->Q v h)
  (λx=>∀a z h,Frm M F H z h->Ut K z h x a->E x.1 a h)
structure GOk(K:QC)(Γ:Ev)(Ψ:PEv):Prop where
 sp:∀f vs H Q E,lift K (Ψ.sp f) vs H Q E->Γ.sp f vs H Q E
 va:∀x d,Ψ.va x=jr d->∀F,Rep K F (Γ.va x) d
structure PSnd(K:QC)(Γ:Ev)(Ψ:PEv)(p:PX):Prop where
 e:∀{E:XE}{EK:XK}{F H:Hp}{S:Ft}{ρ:kA}{σ:St}{Q:TK}{R:VK},Rl K F H S ρ σ->ND K F H S ρ E EK->(pe Ψ p E).e ρ Q->uB K (TF p) F H S ρ σ Q R->(wp K Γ p EK).e σ H R
 t:∀{E:XE}{EK:XK}{F H:Hp}{S:Ft}{ρ:kA}{σ:St}{Q:Bool->kA->Prop}{R:Bool->Hp->Prop},Rl K F H S ρ σ->ND K F H S ρ E EK->(pe Ψ p E).t ρ Q->GH K F H S ρ σ Q R->(wp K Γ p EK).t σ H R
 a:∀{E:XE}{EK:XK}{F H:Hp}{S:Ft}{ρ:kA}{σ:St}{md:List Md}{Q:List (T×Bool)->kA->Prop}{R:LV->Hp->Prop},Rl K F H S ρ σ->ND K F H S ρ E EK->(∀j∈bA md p,∃v,σ[j]?=jr (jr v))->(pe Ψ p E).a md ρ Q->Et K p md F H S ρ σ Q R->(wp K Γ p EK).a σ H R
end
end
section
variable{K:QC}{Γ:Ev}{Ψ:PEv}{E:XE}{c:XK}{F H A U:Hp}{S S1:Ft}{ρ o:kA}{σ:St}
section
variable{b a u:PX}{RR:LV->Hp->Prop}{P:List (T×Bool)->kA->Prop}{Y Z:lB}{t:T}{st:Bool}{ts:LT}{v:V}
theorem Op(N:PSnd K Γ Ψ b)(I:Rl K F H S ρ σ)(X:ND K F H S ρ E c){x:T}{P:T×Bool->kA->Prop}{RR:VK}(h:sq x ρ (cu (pe Ψ b E).e) P)
  (M:∀w p g S' k y m Z,Ste F H S ρ p g S' k->Rl K p g S' k σ->(∀st v l,Tr K F H st v x l->Tr K p g st v x l)->(x.isD=kn->k=ρ/\S'=S)->VR K (TF b) H S ρ p g S' k w y m Z->P (y,m) k->RR w g) :
  (wp K Γ b c).e σ H RR:=by
 unfold sq at h;cases W:x.isD with
 |true =>
  rw[W,oa rfl]at h;refine N.e I X h λw p g S' k y m Z s C r q=>M w p g S' k y m Z s C (λst v l B=>?_) (λz=>(by rw[W]at z;cases z)) r q;cases x with
  |d x=>cases B with|d r n=>exact .d (r.mono s.ff) n
  |_=>cases W
 |false =>
  rw[W,ot (by simp)]at h;have X':ND K F H S (lockA ρ) E c:=λx dx F2 H2 S2 O Q f r q=>X x dx F2 H2 S ρ Q.unlockA f r q;refine N.e I.lockA X' h λw p g S' k y m Z s C r q=>?_;have kp:∀st v t l,Tr K F H st v t l->Tr K p g st v t l:=λst v t l B=>s.keep B λb _=>gD b;refine M w p g S ρ y m Z #[s.unlockA,λj t h=>#[t,h]] (I.unlockA s.toStp C.fh) (λst v l B=>kp st v _ l B) (λ_=>#[rfl,rfl]) #[r.tr,λe b hb=>?_,λe b hb=>?_,λe i L hi b hb z=>?_] q;exact .inl ((r.fr e b hb).elim id λz=>o2 z (gD b));let#[i,L,h1,J,G]:=r.tm e b hb;cases L with
  |own t=>let#[t0,h0]:=s.ow i t J;let#[_,_,e0]:=iB h0;cases e0|bor t =>
   cases W:t.isD with|true=>exact o2 G (C.isD J W)|false=>let#[g1,g2]:=s.bo i t J W;let#[R,g3,_]:=iB g1;rw[g2]at G;exact#[i,R,h1,g3,G]
  rcases r.fr e b hb with q|q
  ·exact(I.dom hi z).1 q
  exact o2 q (gD b)
theorem Pp{md:List Md}(O:PSnd K Γ Ψ b)(I:Rl K F H S ρ σ)(X:ND K F H S ρ E c)(hm:∀j∈bA md b,∃v,σ[j]?=jr (jr v)){x:T}(h:sq x ρ ((pe Ψ b E).a md) P)
  (N:∀ws l e S' k L W Y,Ste F H S ρ l e S' k->Rl K l e S' k σ->(∀st v g,Tr K F H st v x g->Tr K l e st v x g)->(x.isD=kn->k=ρ/\S'=S)->AR K (TF b) md H S ρ l e S' k ws L W Y->(sB md ws).map (λv=>jr (jr v))=(bA md b).map (λj=>σ[j]?)->P L k->RR ws e) :
  (wp K Γ b c).a σ H RR:=by
 unfold sq at h;cases m:x.isD with
 |true =>
  rw[m,oa rfl]at h;refine O.a I X hm h λw l e S' k y W Y s B r C q=>N w l e S' k y W Y s B (λst v g p=>?_) (λz=>(by rw[m]at z;cases z)) r C q;cases x with
  |d x=>cases p with|d r n=>exact .d (r.mono s.ff) n
  |_=>cases m
 |false =>
  rw[m,ot (by simp)]at h;have X':ND K F H S (lockA ρ) E c:=λx dx F2 H2 S2 Q R f r q=>X x dx F2 H2 S ρ R.unlockA f r q;refine O.a I.lockA X' hm h λw l e S' k y W Y s B r C q=>?_;have kp:∀st v t g,Tr K F H st v t g->Tr K l e st v t g:=λst v t g p=>s.keep p λb _=>gD b;refine N w l e S ρ y W Y #[s.unlockA,λj t h=>#[t,h]] (I.unlockA s.toStp B.fh) (λst v g p=>kp st v _ g p) (λ_=>#[rfl,rfl]) #[r.av,λb hb=>?_,λb hb=>?_,λi M hi b hb z=>?_] C q;exact .inl ((r.fr b hb).elim id λz=>o2 z (gD b));let#[i,M,h1,J,G]:=r.tm b hb;cases M with
  |own t=>let#[t0,h0]:=s.ow i t J;let#[_,_,e0]:=iB h0;cases e0|bor t =>
   cases m:t.isD with|true=>exact o2 G (B.isD J m)|false=>let#[g1,g2]:=s.bo i t J m;let#[s0,g3,_]:=iB g1;rw[g2]at G;exact#[i,s0,h1,g3,G]
  rcases r.fr b hb with q|q
  ·exact(I.dom hi z).1 q
  exact o2 q (gD b)
theorem yE(l:PSnd K Γ Ψ a)(I:Rl K F H S ρ σ)(X:ND K F H S ρ E c){P:TK}{RR:VK}(h:(pe Ψ a E).e ρ P)
  (j:∀v w z S' y x n Z,Ste F H S ρ w z S' y->Rl K w z S' y σ->ND K w z S' y E c->Tr K w z kn v (gA x n) Z->(RF x n=kb->Rep K w v x.er)->(∀b,Z b->∃(i:Nat) (s:Sl),i∈TF a/\y[i]?=jr (jr s)/\S' i b)->P x n y->RR v z) :
  (wp K Γ a c).e σ H RR:=by
 refine l.e I X h λv w z S' y x n Z s B r q=>?_;let#[C,p,k,W,g,m,f,_]:=r.frz s B;exact j v C z S' y x n p k W (X.from k.toStp) g m f q
theorem i5(ia:PSnd K Γ Ψ a)(ib:PSnd K Γ Ψ b)(I:Rl K F H S ρ σ)(X:ND K F H S ρ E c){P:T->Bool->T->Bool->kA->Prop}{RR:V->V->Hp->Prop}
  (h:(pe Ψ a E).e ρ λx n o=>sq (gA x n) o (cu (pe Ψ b E).e) λy k=>P x n y.1 y.2 k)
  (kk:∀v w l f S' z x n y m j Zb,Ste F H S ρ l f S' z->Rl K l f S' z σ->ND K l f S' z E c->Tr K l f kn v (gA x n) j->(∀b,j b->∃(i:Nat) (s:Sl),i∈TF a/\z[i]?=jr (jr s)/\S' i b)->Tr K l f kn w (gA y m) Zb ->
   P x n y m z->RR v w f):(wp K Γ a c).e σ H λv U=>(wp K Γ b c).e σ U λw W=>RR v w W:=by
 refine yE ia I X h λv A U S1 o x n j M I1 X1 p _ G R=>?_;refine Op ib I1 X1 R λw F2 W C k y m Z L I2 kp hs O Q=>?_;let#[F3,Z3,J,I3,N,_,_,k3]:=O.frz L I2;have B:∀b,j b->∃(i:Nat) (s:Sl),i∈TF a/\k[i]?=jr (jr s)/\C i b:=by
  cases q:(gA x n).isD with
  |true =>
   intro b hb;exfalso;generalize gA x n=t at p q;cases p with|d r n=>exact n b hb|_=>cases q
  |false=>let#[e1,e2]:=hs q;rw[e1,e2];exact G
 have g:=M.trans J;exact kk v w F3 W C k x n y m j Z3 g I3 (X.from g.toStp) (k3 _ _ _ _ (kp _ _ _ p) λb hb=>let#[i,s,_,h2]:=B b hb;#[i,s,h2]) B N Q
theorem TX(e:PSnd K Γ Ψ u)(I:Rl K F H S ρ σ)(X:ND K F H S ρ E c)(h:(pe Ψ u E).a [] ρ P)
  (k:∀vs z y S' x xs Y,Ste F H S ρ z y S' x->Rl K z y S' x σ->ND K z y S' x E c->Tn K z y Y vs (UO xs)->(∀b,Y b->∃(i:Nat) (s:Sl),i∈TF u/\x[i]?=jr (jr s)/\S' i b)->P xs x->RR vs y):(wp K Γ u c).a σ H RR:=by
 refine e.a (md:=[]) I X (λj f=>by cases u<;>cases f) h λvs z y S' x xs W Y s l r _ q=>?_;let#[m,w,g,t,_]:=r.frz s l;exact k vs m y S' x xs Y w g (X.from w.toStp) t r.tm q
theorem bp(ia:PSnd K Γ Ψ a)(ib:PSnd K Γ Ψ u)(I:Rl K F H S ρ σ)(X:ND K F H S ρ E c){P1:T->Bool->Prop}{P:T->Bool->List (T×Bool)->kA->Prop}{R1:V->Hp->Prop}{RR:V->LV->Hp->Prop}
  (h:(pe Ψ a E).e ρ λx n o=>P1 x n/\sq (gA x n) o ((pe Ψ u E).a []) λxs z=>P x n xs z)
  (k1:∀v f w x n k,Tr K f w kn v (gA x n) k->P1 x n->R1 v w)
  (kk:∀v vs f w S' y x n xs k Y,Ste F H S ρ f w S' y->Rl K f w S' y σ->ND K f w S' y E c->Tr K f w kn v (gA x n) k->(∀b,k b->∃(i:Nat) (s:Sl),i∈TF a/\y[i]?=jr (jr s)/\S' i b)->Tn K f w Y vs (UO xs) ->
   P x n xs y->RR v vs w):(wp K Γ a c).e σ H λv U=>R1 v U/\(wp K Γ u c).a σ U λvs p=>RR v vs p:=by
 refine yE ia I X h λv A U S1 o x n k L I1 X1 l _ C #[Q,O]=>#[k1 v A U x n k l Q,?_]
 refine Pp ib I1 X1 (λj hj=>by cases u<;>cases hj) O λvs F2 p B z xs W Y J I2 R hs M _ N=>?_;let#[F3,G,I3,tn,k3]:=M.frz J I2;have q:∀b,k b->∃(i:Nat) (s:Sl),i∈TF a/\z[i]?=jr (jr s)/\B i b:=by
  cases m:(gA x n).isD with
  |true =>
   intro b hb;exfalso;generalize gA x n=t at l m;cases l with|d r n=>exact n b hb|_=>cases m
  |false=>let#[e1,e2]:=hs m;rw[e1,e2];exact C
 have g:=L.trans G;exact kk v vs F3 p B z x n xs k Y g I3 (X.from g.toStp) (k3 _ _ _ _ (R _ _ _ l) λb hb=>let#[i,s,_,h2]:=q b hb;#[i,s,h2]) q tn N
def J4(K:QC)(F H:Hp)(Y:lB):Item->T->Prop
 | .one v,t=>∃Z,Tr K F H kn v t Z/\∀b,Z b->Y b|.tup vs,t=>∃h,t=.d (.tuple h)/\Reps K F vs h
theorem J4.mono{it:Item}(h:J4 K F H Y it t)(e:Same F A)(k:∀b,Y b->U b=H b/\A b=kd):J4 K A U Y it t:=by
 cases it with|one v=>let#[Z,r,z]:=h;exact#[Z,r.mono e λb hb=>k b (z b hb),z]|tup y=>let#[ts,x,r]:=h;exact#[ts,x,r.mono e]
theorem yX{xs:LV}(h:Trs K F H st xs ts Z)(z:∀b,Z b->Y b):y1 (J4 K F H Y) (xs.map .one) ts :=
 Trs.ind (R:=λ_ xs ts Z=>(∀b,Z b->Y b)->y1 (J4 K F H Y) (xs.map .one) ts) (λ_ _=>.nil) (λh _ _ q x z=>.cons #[_,h.weak,λb hb=>z b ((q b).mpr (.inl hb))] (x λb hb=>z b ((q b).mpr (.inr hb)))) h z
theorem vZ{Y:lB}{α:Type}(f:α->V)(g:α->D)(h:∀x,Rep K F (f x) (g x)):∀(l:List α),y1 (J4 K F H Y) (l.map λx=>.one (f x)) (l.map λx=>T.d (g x))
 |[]=>.nil|x::r=>.cons #[λ_=>False,.d (h x) λ_ z=>z,λ_ z=>z.elim] (vZ f g h r)
theorem Tr.lsS(f:Same F H)(h:Tr K F H st v t Z)(e:t.vw=.ls ts):∃a vs S',v=.ref a/\aC K H a vs/\Trs K F H kn vs ts S'/\(∀b,S' b->Z b)/\∀y x,Same F y->Same y x->(∀b,Z b->x b=H b)->aC K x a vs:=by
 cases h with
 |d r n =>
  cases r with|lst q r=>injection e with e;subst e;exact#[_,_,_,rfl,f.seq q,Trs.of_reps r,λb hb=>hb.elim,λy x w z _=>(w.trans z).seq q]|dct _ _ _=>exact(MH e).elim|_=>cases e
 |lst h _ r n q=>injection e with e;subst e;exact#[_,_,_,rfl,aC.of h,r.weak,λb hb=>(q b).mpr (.inr hb),λy x _ _ k=>aC.of ((k _ ((q _).mpr (.inl rfl))).trans h)]|tup=>cases e|dct=>cases e|lstF h r n=>injection e with e;subst e;exact#[_,_,_,rfl,f.seq h,Trs.of_reps r,λb hb=>hb.elim,λy x w z _=>(w.trans z).seq h]
theorem Tr.tpS(f:Same F H)(h:Tr K F H st v t Z)(e:t.vw=.tp ts):∃a vs S',v=.ref a/\yD K H a vs/\Trs K F H kn vs ts S'/\(∀b,S' b->Z b)/\∀y x,Same F y->Same y x->(∀b,Z b->x b=H b)->yD K x a vs:=by
 cases h with
 |d r n =>
  cases r with|tup q r=>injection e with e;subst e;exact#[_,_,_,rfl,f.tupl q,Trs.of_reps r,λb hb=>hb.elim,λy x w z _=>(w.trans z).tupl q]|dct _ _ _=>exact(bM e).elim|_=>cases e
 |tup h _ r n q=>injection e with e;subst e;exact#[_,_,_,rfl,yD.of h,r.weak,λb hb=>(q b).mpr (.inr hb),λy x _ _ k=>yD.of ((k _ ((q _).mpr (.inl rfl))).trans h)]|lst=>cases e|lstF=>cases e|dct=>cases e
theorem Tr.seqS(f:Same F H)(h:Tr K F H st v t Z)(e:t.vw.seq=jr ts):∃a vs sz,v=.ref (Src.adr sz)/\B4 K H sz vs/\(∃S',Trs K F H kn vs ts S')/\a=Src.adr sz/\∀k z,Same F k->Same k z->(∀b,Z b->z b=H b)->B4 K z sz vs:=by
 generalize ev:t.vw=w at e;cases w with|ls g=>cases e;let#[a,vs,S',rfl,y,x,_,hs]:=h.lsS f ev;exact#[a,vs,.l a,rfl,y,#[S',x],rfl,hs]|tp g=>cases e;let#[a,vs,S',rfl,y,x,_,hs]:=h.tpS f ev;exact#[a,vs,.t a,rfl,y,#[S',x],rfl,hs]|_=>cases e
end
mutual
theorem jX{F:Hp}:∀{k:NK}{v:V},Rn K F k v->Rep K F v (tD k)
 | .s x,v,h=>by cases(show v=.str x from h);exact .str x|.t ks,v,#[a,xs,e,q,p]=>by subst e;exact .tup q (ky_reps p)
theorem ky_reps{F:Hp}:∀{ks:List NK}{vs:LV},KyVs K F ks vs->Reps K F vs (tDs ks)
 |[],vs,h=>by cases(show vs=[] from h);exact .nil|k::ks,vs,#[x,r,e,p,q]=>by subst e;exact .cons (jX p) (ky_reps q)
end
theorem uZ{Y:lB}:∀{kvs:List KE}{ds:List D},HG K F kvs->Reps K F (kvs.map (·.2.2)) ds->y1 (J4 K F H Y) (kvs.map λp=>.tup [.ref p.2.1,p.2.2]) (((kvs.map λp=>tD p.1).zip ds).map λp=>T.d (.tuple [p.1,p.2]))
 |[],_,_,.nil=>.nil|p::r,_,hk,.cons h t=>by simp only[QT,QAV];exact .cons #[[_,_],rfl,.cons (jX (hk p QE).1) (.cons h .nil)] (uZ (λp x=>hk p (QF _ x)) t)
theorem xZ{Y:lB}:∀{kvs:List KE},HG K F kvs->y1 (J4 K F H Y) (kvs.map λp=>.one (.ref p.2.1)) ((kvs.map λp=>tD p.1).map T.d)
 |[],_=>.nil|p::r,hk=>.cons #[λ_=>False,.d (jX (hk p QE).1) λ_ z=>z,λ_ z=>z.elim] (xZ λp h=>hk p (QF _ h))
theorem lU{Y:lB}:∀{xs:LV}{ds:List D}(_:Reps K F xs ds) (g:Nat->Int) (n:Nat),y1 (J4 K F H Y) ((xs.zipIdx n).map λp=>.tup [.int (g p.2),p.1]) ((ds.zipIdx n).map λp=>T.d (.tuple [.int (g p.2),p.1]))
 |_,_,.nil,g,n=>by simp only[List.zipIdx_nil,wT];exact .nil|_,_,.cons h t,g,n=>by simp only[List.zipIdx_cons,QT];exact .cons #[[_,_],rfl,.cons (.int _) (.cons h .nil)] (lU t g (n+1))
theorem uN{α x:Type}{R:α->x->Prop}:∀{l z:List α}{m y:List x},y1 R l m->y1 R z y->y1 R (l++z) (m++y)
 |_,_,_,_,.nil,h=>h|_,_,_,_,.cons r t,h=>.cons r (uN t h)
theorem vN{α h:Type}{R:α->h->Prop}:∀{l:List α}{m:List h},y1 R l m->y1 R l.reverse m.reverse
 |_,_,.nil=>.nil|_,_,.cons r t=>by rw[wj,wj];exact uN (vN t) (.cons r .nil)
theorem vK{L:ItK}{Y:lB}{vs:LV}{ts:LT}{S:LT->Prop}{RR:List Item->(Hp->Prop)->Hp->Prop}(f:Same F H)(X:Tn K F H Y vs ts)(h:LB L (ts.map T.vw) S)
  (k:∀xs Q st,y1 (J4 K F H Y) xs Q->(∀l w,Same F l->Same l w->(∀b,Y b->w b=H b)->st w)->S Q->RR xs st H):uC K L vs H RR:=by
 cases L with
 |val =>
  rcases h with⟨G,e,h⟩| ⟨G,e,h⟩| ⟨A,G,e,h⟩
  let#[v,t,Z,rfl,rfl,e,r,z]:=X.one e;let#[p,xs,R,rfl,I,m,E,hs]:=r.lsS f e;exact .inl #[xs,I,k _ _ _ (yX m λb hb=>z b (E b hb)) (λl w y u q=>hs l w y u λb hb=>q b (z b hb)) h];let#[v,t,Z,rfl,rfl,e,r,z]:=X.one e;let#[p,xs,R,rfl,I,m,E,hs]:=r.tpS f e;exact .inr (.inl #[xs,I,k _ _ _ (yX m λb hb=>z b (E b hb)) (λl w y u q=>hs l w y u λb hb=>q b (z b hb)) h]);let#[v,t,Z,rfl,rfl,y,W,B]:=X.one e;let#[a,o,xs,_,rfl,M,P,m,_,hs]:=W.dc f y;let#[s,g,rfl,rfl,rfl,N,_]:=P;exact .inr (.inr #[s,g,M,k _ _ _ (xZ N) (λl w y u q=>hs l w y u λb hb=>q b (B b hb)) h])
 |rng1=>let#[j,e,h]:=h;let#[v,t,Z,rfl,rfl,e,r,_]:=X.one e;obtain rfl:=r.int e;exact#[h.1,k _ _ _ (vZ (λ(i:Nat)=>.int (i:Int)) (λ(i:Nat)=>.int (i:Int)) (λc=>.int _) _) (λ_ _ _ _ _=>trivial) h.2]|rev=>let#[G,e,h]:=h;let#[v,t,Z,rfl,rfl,e,r,z]:=X.one e;let#[p,xs,R,rfl,I,m,E,hs]:=r.lsS f e;have q:=vN (yX m λb hb=>z b (E b hb));rw[<- W9]at q;exact#[xs,I,k _ _ _ q (λl w y u q=>hs l w y u λb hb=>q b (z b hb)) h]|enum=>let#[x,G,C,e,g1,O,q]:=h;let#[v,t,Z,rfl,rfl,y,W,B]:=X.one e;let#[a,xs,sz,rfl,hq,#[_,m],_,hs]:=W.seqS f (by rw[y];exact g1);exact#[sz,xs,rfl,hq,k _ _ _ (lU (m.un O).1 (λi=>(i:Int)) 0) (λl w y u q=>hs l w y u λb hb=>q b (B b hb)) q]|itm =>
  rcases h with⟨A,G,C,e,O,q⟩| ⟨e,q⟩
  rotate_left
  let#[v,t,Z,rfl,rfl,y,W,B]:=X.one e;let#[_,m]:=W.sc y;generalize ed:PyData.dict []=d at m;cases m with
  |@dct b a o A vs C h J r =>
   have ez:A.zip C=[]:=by injection ed with ed;exact ed.symm
   have hl:A.9=C.length:=by rw[J.len,Reps.length r]
   have ek:A=[]:=by
    cases A with
    |nil=>rfl|cons k A =>
     cases C with|nil=>cases hl|cons d C=>cases ez
   subst ek;have eo:∃s,o=.dT s []:=by
    cases b with
    |true =>
     let#[s,g,y,u,_]:=J;cases g with|nil=>exact#[s,y]|cons p r=>cases u
    |false =>
     rcases J with⟨g,n,_,u,_⟩| ⟨s,y,_⟩
     cases g with|nil=>exact o2 rfl n|cons p r=>cases u
     exact#[s,y]
   let#[s,rfl]:=eo;exact#[s,[],f _ _ h,k _ _ _ .nil (λl w y u _=>u _ _ (y _ _ h)) q]
  |_=>cases ed
  let#[v,t,Z,rfl,rfl,y,W,B]:=X.one e;let#[a,o,xs,_,rfl,M,P,m,_,hs]:=W.dc f y;let#[s,g,rfl,rfl,rfl,N,_]:=P;exact#[s,g,M,k _ _ _ (uZ N (m.un O).1) (λl w y u q=>hs l w y u λb hb=>q b (B b hb)) q]
end
section
variable{i j:Nat}{Z:lB}
def MF(S:Ft)(i:Nat)(Z:lB):Ft:=λj=>if j=i then Z else S j
theorem YA{S:Ft}:MF S i Z i=Z:=oa rfl
theorem oA{S:Ft}(h:j≠i):MF S i Z j=S j:=ot h
theorem cA{α:Type}{l:List α}{x y:α}(h:(l.set i x)[j]?=jr y):(i=j/\y=x/\i<l.9)∨(i≠j/\l[j]?=jr y):=by rw[wN]at h;by_cases e:i=j;subst e;rw[oa rfl]at h;by_cases hl:i<l.9;rw[oa hl]at h;cases h;exact .inl #[rfl,rfl,hl];rw[ot hl]at h;cases h;rw[ot e]at h;exact .inr #[e,h]
theorem CI{α:Type}{l:List α}{x:α}(h:i<l.9):(l.set i x)[i]?=jr x:=by rw[wN,oa rfl,oa h]
theorem EB{α:Type}{l:List α}{x:α}(h:i≠j):(l.set i x)[j]?=l[j]?:=by rw[wN,ot h]
end
section
variable{K:QC}{Γ:Ev}{Ψ:PEv}{E:XE}{G:XK}{F H C D:Hp}{S S1:Ft}{ρ B:kA}{σ:St}
section
variable{Z Y:lB}{X o:Hp}{S':Ft}{g:kA}{σ':St}{st:Bool}{A:Tg}{k:Nat}{l:List Bool}
theorem Rl.setB(I:Rl K F H S ρ σ)(i:Nat){v:V}{t:T}(r:Tr K F H kn v t Z)(m:∀(j:Nat) u,j≠i->ρ[j]?=jr (jr (.own u))->∀b,Z b->¬ S j b):Rl K F H (MF S i Z) (ρ.set i (jr (.bor t))) (σ.set i (jr v)) where
 fh:=I.fh
 len:=by simpa using I.len
 sl:=λj s h=>by
  rcases cA h with⟨rfl,e,hl⟩| ⟨w,h⟩
  cases e;exact#[v,CI (by rw[<- I.len];exact hl),by rw[YA];exact r];rw[EB w,oA (Q1 w)];exact I.sl j s h
 dj:=λj k z s n x y b hb hk=>by
  rcases cA x with⟨_,e,_⟩| ⟨f,x⟩
  cases e;rw[oA (Q1 f)]at hb;rcases cA y with⟨e,_,_⟩| ⟨a,y⟩
  subst e;rw[YA]at hk;exact m j z n x b hk hb;rw[oA (Q1 a)]at hk;exact I.dj j k z s n x y b hb hk
structure Bd(J:LN)(F H:Hp)(S:Ft)(ρ:kA)(σ:St)(X o:Hp)(S':Ft)(g:kA)(σ':St):Prop where
 ff:Same F X
 hh:Same H o
 fn:∀b,F b=kd->X b≠kd->H b=kd
 out:∀j,j∉J->g[j]?=ρ[j]?/\S' j=S j/\σ'[j]?=σ[j]?
 inn:∀j t,j∈J->g[j]?≠jr (jr (.own t))
theorem Bd.U{J:LN}(h:Bd J F H S ρ σ X o S' g σ'){b:k4}(u:U g S' b):L3.U ρ S b:=by let#[i,t,x,z]:=u;by_cases y:i∈J;exact o2 x (h.inn i t y);let#[w,v,_]:=h.out i y;rw[w]at x;rw[v]at z;exact#[i,t,x,z]
theorem Bd.dm{J:LN}(h:Bd J F H S ρ σ X o S' g σ')(b:k4)(e:o b=kd):H b=none:=h.hh.free e
theorem eY{Y:lB}(s:∀b,Y b->¬ U ρ S b):∀(w:LN) {vs:LV}{ts:LT}{S1:Ft}{B g:kA}{x:St}{J:LN},(∀i∈w,i∈J)->Rl K F H S1 B x->(∀b,U B S1 b->U ρ S b)->Tn K F H Y vs ts->eB w ts B=jr g ->
  ∃σ' S',cB w vs x=jr σ'/\Rl K F H S' g σ'/\(∀j,j∉J->g[j]?=B[j]?/\S' j=S1 j/\σ'[j]?=x[j]?)/\(∀j t,g[j]?=jr (jr (.own t))->j∉w/\B[j]?=jr (jr (.own t)))
 |[],_,_,S1,B,g,x,J,hJ,I,hu,.nil,h=>by simp only[eB,Qq]at h;subst h;exact#[x,S1,rfl,I,λ_ _=>#[rfl,rfl,rfl],λj t h=>#[(by simp),h]]|[],_,_,_,_,_,_,_,_,_,_,.cons _ _ _,h=>by simp[eB]at h|_::_,_,_,_,_,_,_,_,_,_,_,.nil,h=>by simp[eB]at h|i::w,_,_,S1,B,g,x,J,hJ,I,hu,.cons (v:=v) (t:=t) (Z:=Z) r z tl,h=>by
  simp only[eB]at h;have nu:∀b,Z b->¬ U B S1 b:=λb hb u=>s b (z b hb) (hu b u);have Q:=I.setB i r λj u _ y b hb hs=>nu b hb #[j,u,y,hs];have p:∀b,U (B.set i (jr (.bor t))) (MF S1 i Z) b->U ρ S b:=λb #[j,u,q,W]=>by
   rcases cA q with⟨_,e,_⟩| ⟨n,q⟩
   cases e;rw[oA (Q1 n)]at W;exact hu b #[j,u,q,W]
  let#[σ',S',P,O,N,M]:=eY s w (λj y=>hJ j (QF _ y)) Q p tl h;refine#[σ',S',P,O,λj y=>?_,λj u y=>?_];let#[f,a,L]:=N j y;have n:i≠j:=λe=>y (e▸hJ i QE);rw[EB n]at f L;rw[oA (Q1 n)]at a;exact#[f,a,L];let#[f,a]:=M j u y;rcases cA a with⟨_,e,_⟩| ⟨n,a⟩
  cases e;exact#[λm=>(QL.mp m).elim (λe=>n e.symm) f,a]
theorem Tn.of_trs{vs:LV}{ts:LT}(h:Trs K F H st vs ts Z)(z:∀b,Z b->Y b):Tn K F H Y vs ts :=
 Trs.ind (R:=λ_ vs ts Z=>(∀b,Z b->Y b)->Tn K F H Y vs ts) (λ_ _=>.nil) (λh _ _ q x z=>.cons h.weak (λb hb=>z b ((q b).mpr (.inl hb))) (x λb hb=>z b ((q b).mpr (.inr hb)))) h z
theorem RN{it:Item}{t:T}{R:kA->Prop}{RP:St->Hp->Prop}(I:Rl K F H S ρ σ)(hy:∀b,Y b->¬ U ρ S b)(r:J4 K F H Y it t)(h:bL A t ρ R)
  (k:∀m f w x N,Bd A.ix F H S ρ σ w x N m f->Rl K w x N m f->R m->RP f x):bindI K A it σ H RP:=by
 have nm:∀(i:Nat) {v:V}{t:T}{Z:lB}{w x:Hp}{N:Ft},Same F w->Same H x->(∀b,F b=kd->w b≠kd->H b=kd)->Rl K w x N ρ σ->N=S->Tr K w x kn v t Z->(∀b,Z b->¬ U ρ S b)->R (ρ.set i (jr (.bor t)))->A=.nm i->RP (σ.set i (jr v)) x:=by
  intro i v t Z w x N Q e2 e3 I2 hS r hz q ht;subst hS ht;refine k _ _ w x (MF N i Z) #[Q,e2,e3,λj M=>?_,λj u M hu=>?_] (I2.setB i r λj u _ M b hb hs=>hz b hb #[j,u,M,hs]) q;have n:i≠j:=λe=>M (by subst e;exact QJ.mpr rfl);exact#[EB n,oA (Q1 n),EB n];have e:j=i:=QJ.mp M;subst e;rcases cA hu with⟨_,e,_⟩| ⟨n,_⟩
  cases e;exact n rfl
 have tp:∀(y:LN) {W:LV}{O:LT}{x:Hp}{g:kA},Same H x->A=.tp y->Tn K F x Y W O->eB y O ρ=jr g->R g->∃σ',cB y W σ=jr σ'/\RP σ' x:=by intro y W O x g e2 ht r e q;subst ht;let#[σ',S',g1,g2,g3,g4]:=eY hy y (J:=y) (λi hi=>hi) (I.same e2) (λb u=>u) r e;exact#[σ',g1,k _ _ F x S' #[.refl _,e2,λb h z=>o2 h z,g3,λj u M hu=>(g4 j u hu).1 M] g2 q]
 cases it with
 |one v =>
  let#[Z,r,z]:=r;cases A with|nm i=>exact nm i (.refl _) (.refl _) (λb h z=>o2 h z) I rfl r (λb hb=>hy b (z b hb)) h rfl|tp y=>have P:(match t.vw with | .tp O=>∃g,eB y O ρ=jr g/\R g|_=>False):=h;split at P;rename_i O e;let#[g,Q,q]:=P;let#[a,W,S',rfl,L,rp,z2]:=r.tp I.fh e;let#[σ',g1,g2]:=tp y (.refl _) rfl (Tn.of_trs rp λb hb=>z b (z2 b hb)) Q q;exact#[W,σ',L,g1,g2];exact P.elim
 |tup W =>
  let#[ds,rfl,rd]:=r;cases A with|nm i=>intro p L;refine nm i (NB (I.fh.free L)) (NB L) (λb h1 P=>?_) (I.newT L (.tup W)) rfl (.d (S:=λ_=>False) (.tup (yD.of pA) (rd.mono (NB (I.fh.free L)))) λ_ z=>z) (λb z=>z.elim) h rfl;by_cases hb:b=p;rw[hb];exact L;rw[xA hb]at P;exact o2 h1 P|tp y=>intro o s;let#[g,Q,q]:=h;exact tp y s rfl (Tn.of_trs (Trs.of_reps (st:=kn) rd) λb hb=>hb.elim) Q q
noncomputable def Ge(k:Nat)(S:Ft):Ft:=λi=>if i<k then λ_=>False else S (i - k)
theorem KP:∀(m:List Bool) (ρ:kA) (i:Nat) s,(nC m ρ)[i]?=jr (jr s)->ρ[i]?=jr (jr s)/\m.getD i kn=kn
 |[],ρ,i,s,h=>by
  have e:nC [] ρ=ρ:=by cases ρ<;>rfl
  rw[e]at h;exact#[h,rfl]
 |b::m,[],i,s,h=>by simp[nC]at h|b::m,v::ρ,0,s,h=>by
  cases b with|true=>simp[nC]at h|false=>simp[nC]at h;simp[h]
 |b::m,v::ρ,i+1,s,h=>by simp only[nC,wt]at h;let#[y,x]:=KP m ρ i s h;exact#[by simpa using y,by simpa using x]
theorem JP:∀(m:List Bool) (σ:St) (i:Nat) v,σ[i]?=jr (jr v)->m.getD i kn=kn->(PC m σ)[i]?=jr (jr v)
 |[],σ,i,v,h,_=>by
  have e:PC [] σ=σ:=by cases σ<;>rfl
  rw[e];exact h
 |b::m,[],i,v,h,_=>by simp at h|b::m,w::σ,0,v,h,hb=>by
  have:b=false:=by simpa using hb
  subst this;simpa[PC]using h
 |b::m,w::σ,i+1,v,h,hb=>by simp only[PC,wt];exact JP m σ i v (by simpa using h) (by simpa using hb)
theorem ZP:∀(m:List Bool) (ρ:kA),(nC m ρ).9=ρ.9
 |[],ρ=>by cases ρ<;>rfl|_::_,[]=>rfl|b::m,v::ρ=>by simp[nC,ZP m ρ]
theorem aG{ρ:kA}{i:Nat}{s:Sl}(h:(BO k l ρ)[i]?=jr (jr s)):k<=i/\ρ[i - k]?=jr (jr s)/\l.getD (i - k) kn=false:=by unfold BO at h;rcases QBK i k with z|z;rw[qP (by simpa using z),wv]at h;split at h<;>cases h;rw[Qy (by simpa using z)]at h;simp only[wB]at h;let#[y,x]:=KP l ρ _ s h;exact#[z,y,x]
theorem Rl.ent(I:Rl K F H S ρ σ)(k:Nat)(l:List Bool):Rl K F H (Ge k S) (BO k l ρ) (nJ k l σ) where
 fh:=I.fh
 len:=by simp[BO,nJ,ZP,kK,I.len]
 sl:=λi s h=>by let#[h0,z,y]:=aG h;let#[v,w,u]:=I.sl _ s z;refine#[v,?_,?_];unfold nJ;rw[Qy (by simpa using h0)];simp only[wB];exact JP l σ _ v w y;unfold Ge;rw[ot ()];exact u
 dj:=λi j t s n z y b hb x=>by let#[m,e,_]:=aG z;let#[f,a,_]:=aG y;unfold Ge at hb x;rw[ot ()]at hb x;exact I.dj (i - k) (j - k) t s () e a b hb x
theorem tZ(b:k4):¬ U (BO k l (lockA ρ)) S' b:=λ#[i,t,h,_]=>by let#[_,x,_]:=aG h;let#[_,_,e]:=iB x;cases e
theorem Paired.get_of{α v:Type}{R:α->v->Prop}{xs:List α}{u:List v}(h:y1 R xs u):∀{i:Nat}{x:α},xs[i]?=jr x->∃y,u.drop i=y::u.drop (i+1)/\R x y:=by
 induction h with
 |nil=>intro i x e;simp at e|@cons x y xs u h t a =>
  intro i z e;cases i with|zero=>simp at e;subst e;exact#[y,by simp,h]|succ i=>let#[w,f,b]:=a (i:=i) (by simpa using e);exact#[w,by simpa using f,b]
structure Pur(F H X o:Hp):Prop where
 ff:Same F X
 hh:Same H o
 fn:∀b,F b=kd->X b≠kd->H b=kd
theorem Pur.trans{u y:Hp}(a:Pur F H C D)(b:Pur C D u y):Pur F H u y:=#[a.ff.trans b.ff,a.hh.trans b.hh,λx h z=>by by_cases q:C x=kd;exact a.hh.free (b.fn x q z);exact a.fn x h q]
theorem Pur.ste(p:Pur F H C D):Ste F H S ρ C D S ρ:=#[#[p.ff,λb u h _=>p.hh b u h,λb h=>p.hh.free h,λb h z=>.inr (p.fn b h z),λb h=>.inl h,λ_ _ h _=>#[h,rfl]],λ_ t h=>#[t,h]]
theorem Pur.rl(p:Pur F H C D)(f:Same C D)(I:Rl K F H S ρ σ):Rl K C D S ρ σ:=#[f,I.len,λi s e=>by
 let#[v,y,h]:=I.sl i s e;exact#[v,y,h.mono p.ff λb hb=>by
  let#[x,z]:=h.dom b hb;refine#[?_,?_];cases e:H b with|none=>exact o2 e x|some u=>exact p.hh b u e
  by_cases q:C b=kd
  ·exact q
  exact o2 (p.fn b z q) x],I.dj]
theorem Stp.pur(s:Stp F H S ρ C D S' g)(n:∀b,¬ U ρ S b):Pur F H C D:=#[s.ff,λb u h=>s.hh b u h (n b),λb h z=>(s.fn b h z).elim (λq=>o2 q (n b)) id]
theorem Pur.trs(p:Pur F H C D){v:LV}{t:LT}(h:Trs K F H st v t Z):Trs K C D st v t Z:=h.mono p.ff λb hb=>by
  let#[x,y]:=h.dom b hb;refine#[?_,?_];cases e:H b with|none=>exact o2 e x|some u=>exact p.hh b u e
  by_cases q:C b=kd
  ·exact q
  exact o2 (p.fn b y q) x
theorem J9{ws:LN}{M:Nat}{c:kA->(Bool->kA->Prop)->Prop}{e:kA->TK->Prop}{tc:TT}{te:TE}{us:LN}
  (ic:∀{F H:Hp}{S:Ft}{ρ:kA}{σ:St}{Q:Bool->kA->Prop}{R:Bool->Hp->Prop},Rl K F H S ρ σ->c ρ Q->GH K F H S ρ σ Q R->tc σ H R)
  (ie:∀{F H:Hp}{S:Ft}{ρ:kA}{σ:St}{Q:TK}{R:VK},Rl K F H S ρ σ->e ρ Q->uB K us F H S ρ σ Q R->te σ H R)
  {F0 H0:Hp}{S0:Ft}{O:kA}(s:Ste F0 H0 S0 O F H S ρ) (I:Rl K F H S ρ σ) {xs:List Item}{L:LT}{st:Hp->Prop}(pr:y1 (J4 K F H Y) xs L) (hyd:∀b,Y b->H b≠kd/\F b=kd) (hst:∀X o,Same F X->Same X o->(∀b,Y b->o b=H b)->st o) {Q:TK}{R:VK}
  (h:uD (iG A (BO M l (lockA ρ)) c e) L [] λL=>Q (.lst L) kb ρ) (k:uB K ws F0 H0 S0 O σ Q R) :
  LZ K xs st A tc te (nJ M l σ) H R:=by
 refine Y9 ?_;have len:=qM pr;have yk:∀{X o:Hp},Pur F H X o->∀b,Y b->o b=H b/\X b=none:=λ{X o} p b hb=>by
  let#[d1,d2]:=hyd b hb;refine#[?_,?_];cases e:H b with|none=>exact o2 e d1|some u=>exact p.hh b u e
  by_cases q:X b=kd
  ·exact q
  exact o2 (p.fn b d2 q) d1
 refine#[λi m o=>∃X w W,Pur F H X o/\Same X o/\Trs K X o kb m w W/\(∀b,W b->H b=kd)/\uD (iG A (BO M l (lockA ρ)) c e) (L.drop i) w λL=>Q (.lst L) kb ρ,
  #[F,[],λ_=>False,#[.refl _,.refl _,λb h z=>o2 h z],I.fh,.nil λ_ z=>z,λ_ z=>z.elim,by simpa using h],?_,?_,?_]
 rintro i m o _ ⟨X,w,W,p,f,_,_,_⟩;exact hst X o p.ff f λb hb=>(yk p b hb).1;rintro i x m D hx ⟨C,w,W,p1,f1,J,hw,hc⟩;let#[y,hd,ry]:=Paired.get_of pr hx;rw[hd]at hc;unfold uD at hc;unfold iG at hc;have I1:Rl K C D (Ge M S) (BO M l (lockA ρ)) (nJ M l σ):=((p1.rl f1 I).lockA).ent M l;refine RN I1 (λb _=>tZ b) (ry.mono p1.ff (yk p1)) hc λρ2 σ2 F2 H2 S2 N I2 hc=>?_;have p2:Pur C D F2 H2:=#[N.ff,N.hh,N.fn]
 have nu2:∀b,¬ U ρ2 S2 b:=λb u=>tZ b (N.U u);refine ic I2 hc λb F3 H3 S3 ρ3 s3 I3 q=>?_;have p3:Pur F2 H2 F3 H3:=s3.toStp.pur nu2;have P:∀b,¬ U ρ3 S3 b:=λb #[j,t,h1,_]=>by let#[t0,h0]:=s3.ow j t h1;by_cases hj:j∈A.ix;exact N.inn j t0 hj h0;rw[(N.out j hj).1]at h0;let#[_,h1,_]:=aG h0;let#[_,_,e]:=iB h1;cases e
 have a:=p1.trans (p2.trans p3);cases b with
 |false=>exact#[F3,w,W,a,I3.fh,p3.trs (p2.trs J),hw,q]|true =>
  refine ie I3 q λv F4 H4 S4 ρ4 z n Z s4 I4 r4 #[hk,hl,hc]=>?_;have p4:Pur F3 H3 F4 H4:=s4.toStp.pur P;have ra4:=p4.trs (p3.trs (p2.trs J));have rz:∃Z',Tr K F4 H4 kb v z Z'/\∀b,Z' b->H3 b=none:=by
   cases n with
   |true=>exact#[Z,r4.tr,λb hb=>(r4.fr rfl b hb).elim id λu=>o2 u (P b)]|false =>
    cases z with
    |d x =>
     have tr:=r4.tr;cases tr with|d r n=>exact#[λ_=>False,.d r λ_ z=>z,λ_ z=>z.elim]
    |_=>exact o2 hk (by simp[RF,T.isD])
  let#[Z',rz,fz]:=rz;refine#[by rw[J.9];exact hl,F4,_,λb=>W b∨Z' b,a.trans p4,I4.fh,ra4.append (Trs.one rz) λb hb hz=>?_,λb hb=>?_,hc];have q1:=(J.dom b hb).1;exact q1 ((p2.trans p3).hh.free (fz b hz));rcases hb with hb|hb
  ·exact hw b hb
  exact a.hh.free (fz b hb)
 rintro m o ⟨X,w,W,p,f,J,hw,hc⟩;rw[len,List.drop_length]at hc;unfold uD at hc;have I':=p.rl f I;refine#[by rw[J.9];exact hc.1,λq hq=>?_];refine uB.list (k.from s) (p.ste) I' hq J (λb hb=>.inl (hw b hb)) #[J.dom,λi sl hi b hb z=>?_] hc.2;exact(I.dom hi z).1 (hw b hb)
end
end
section
variable{K:QC}{Γ:Ev}{Ψ:PEv}{E:XE}{p:XK}{F H l c:Hp}{S S1:Ft}{ρ y:kA}{σ:St}
theorem Tr.shal{v:V}{u t:T}{Z:lB}(h:Tr K F H kn v u Z)(e:BF u=jr t):Tr K F H kn v t Z:=by
 unfold BF at e;split at e;rename_i ts ev;cases x:gH ts with
 |none=>rw[x]at e;cases e|some f =>
  rw[x]at e;injection e with e;subst e;cases h with
  |d r n =>
   cases r with|lst q r=>injection ev with ev;subst ev;rw[VA]at x;injection x with x;subst x;exact .lstF q r n|dct _ _ _=>exact(MH ev).elim|_=>cases ev
  |lst k w z b a=>injection ev with ev;subst ev;show Tr K F H kn _ (.lst (f.map T.d)) Z;rw[<- mM x];exact .lst k w z b a|tup=>cases ev|dct=>cases ev|lstF k w z=>injection ev with ev;subst ev;rw[VA]at x;injection x with x;subst x;exact .lstF k w z
 split at e
 ·injection e with e;subst e;exact h
 cases e
theorem AV.pass{Y:lB}{md:List Md}{vs:LV}{xs:List (T×Bool)}{W:lB}(h:AV K F H md vs xs W Y)(e:Same F l)(k:∀b,W b->l b=H b)(C:∀b,Y b->F b=kd->l b=kd) :
  ∀{f ts:LT},ZA md xs f=jr ts->ArgsR K l H Y md vs ts/\HB md ts=f:=by
 induction h with
 |nil h =>
  intro f ts w;cases f with|nil=>simp only[ZA,Qq]at w;subst w;exact#[.nil,rfl]|cons _ _=>simp[ZA]at w
 |@chg md v vs x xs W Y h t B =>
  intro f ts w;have hm:md.headD .fro=.chg:=by generalize md.headD .fro=m at h;cases m<;>first|rfl|cases h
  unfold ZA at w;rw[hm]at w;cases f with
  |nil=>cases w|cons o f =>
   cases a:ZA md.tail xs f with|none=>simp only[a,wn]at w;cases w|some A=>simp only[a,qD,Qq]at w;subst w;let#[j,i]:=B k C a;refine#[.chg hm j,?_];unfold HB;rw[hm];simp only[i]
 |@new md v vs x xs Z W I Y h r t n q B =>
  intro f ts w;have s:Tr K l H kn v (.d x.er) (λ_=>False):=.d (r.kept e λb u hb G=>by rw[k b ((q b).mpr (.inl hb))];exact G) λ_ z=>z;have g:=@B (λb hb=>k b ((q b).mpr (.inr hb))) C;unfold ZA at w;cases hm:md.headD .fro with
  |chg=>rw[hm]at h;cases h|fro =>
   simp only[hm,gA]at w;cases a:ZA md.tail xs f with|none=>simp only[a,wn]at w;cases w|some A=>simp only[a,qD,Qq]at w;subst w;let#[j,i]:=g a;exact#[.rd (by rw[hm];simp) s (λ_ z=>z.elim) j,by unfold HB;rw[hm];exact i]
  |shal =>
   simp only[hm,gA]at w;cases X:BF (.d x.er) with
   |none=>simp only[X]at w;cases w|some u =>
    simp only[X]at w;cases a:ZA md.tail xs f with|none=>simp only[a,wn]at w;cases w|some A=>simp only[a,qD,Qq]at w;subst w;let#[j,i]:=g a;exact#[.rd (by rw[hm];simp) (s.shal X) (λ_ z=>z.elim) j,by unfold HB;rw[hm];exact i]
  |bor =>
   simp only[hm,gA]at w;cases a:ZA md.tail xs f with|none=>simp only[a,wn]at w;cases w|some A=>simp only[a,qD,Qq]at w;subst w;let#[j,i]:=g a;exact#[.rd (by rw[hm];simp) s (λ_ z=>z.elim) j,by unfold HB;rw[hm];exact i]
 |@tmp md v vs x xs Z W Y h r z t B =>
  intro f ts w;have s:Tr K l H kn v x Z:=r.mono e λb hb=>#[rfl,C b (z b hb) (r.dom b hb).2]
  have g:=@B k C;unfold ZA at w;cases hm:md.headD .fro with
  |chg=>rw[hm]at h;cases h|fro =>
   simp only[hm,gA]at w;cases x with
   |d x =>
    cases a:ZA md.tail xs f with|none=>simp only[a,wn]at w;cases w|some A=>simp only[a,qD,Qq]at w;subst w;let#[j,i]:=g a;exact#[.rd (by rw[hm];simp) s z j,by unfold HB;rw[hm];exact i]
   |_=>cases w
  |shal =>
   simp only[hm,gA]at w;cases X:BF x with
   |none=>simp only[X]at w;cases w|some u =>
    simp only[X]at w;cases a:ZA md.tail xs f with|none=>simp only[a,wn]at w;cases w|some A=>simp only[a,qD,Qq]at w;subst w;let#[j,i]:=g a;exact#[.rd (by rw[hm];simp) (s.shal X) z j,by unfold HB;rw[hm];exact i]
  |bor =>
   simp only[hm,gA]at w;cases a:ZA md.tail xs f with|none=>simp only[a,wn]at w;cases w|some A=>simp only[a,qD,Qq]at w;subst w;let#[j,i]:=g a;exact#[.rd (by rw[hm];simp) s z j,by unfold HB;rw[hm];exact i]
theorem pD:∀(J:LN) (ρ:kA) (i:Nat) s,(clear J ρ)[i]?=jr (jr s)->i∉J/\ρ[i]?=jr (jr s)
 |[],ρ,i,s,h=>#[(by simp),h]|j::J,ρ,i,s,h=>by
  unfold clear at h;let#[u,z]:=pD J _ i s h;rcases cA z with⟨_,e,_⟩| ⟨n,x⟩
  cases e;exact#[λm=>(QL.mp m).elim (λe=>n e.symm) u,x]
theorem GP:∀(J:LN) (ρ:kA),(clear J ρ).9=ρ.9
 |[],_=>rfl|j::J,ρ=>by unfold clear;rw[GP J];simp
theorem Rl.drop(I:Rl K F H S ρ σ)(hl:y.9=ρ.9)(h:∀(i:Nat) s,y[i]?=jr (jr s)->ρ[i]?=jr (jr s)):Rl K F H S y σ :=
 #[I.fh,hl.trans I.len,λi s e=>I.sl i s (h i s e),λi j t s n z x=>I.dj i j t s n (h i _ z) (h j _ x)]
theorem jE:∀{J:LN}{ρ:kA}{x:LT},BA J ρ=jr x->x.9=J.9/\∀(i:Nat) j,J[i]?=jr j->∃t,x[i]?=jr t/\ρ[j]?=jr (jr (.own t))
 |[],ρ,x,h=>by simp only[BA,Qq]at h;subst h;exact#[rfl,λi j e=>by simp at e]|j::J,ρ,x,h=>by
  unfold BA at h;split at h;rename_i t e;cases z:BA J ρ with
  |none=>rw[z]at h;cases h|some f =>
   rw[z]at h;injection h with h;subst h;let#[w,v]:=jE z;refine#[by simp[w],λi k hk=>?_];cases i with|zero=>simp at hk;subst hk;exact#[t,rfl,e]|succ i=>let#[u,b,a]:=v i k (by simpa using hk);exact#[u,by simpa using b,a]
  cases h
theorem Rl.trs(I:Rl K F H S ρ σ):∀{J:LN}{w:LT}{vs:LV},J.Nodup->BA J ρ=jr w->vs.map (λv=>jr (jr v))=J.map (λj=>σ[j]?)->Trs K F H kb vs w (λb=>∃j∈J,S j b)
 |[],w,vs,_,h,hv=>by
  simp only[BA,Qq]at h;subst h;cases vs with|nil=>exact .nil λb #[j,m,_]=>by simp at m|cons _ _=>simp at hv
 |j::J,w,vs,nd,h,hv=>by
  unfold BA at h;split at h;rename_i t e;cases a:BA J ρ with
  |none=>rw[a]at h;cases h|some r =>
   rw[a]at h;injection h with h;subst h;cases vs with
   |nil=>simp at hv|cons v vs =>
    simp only[QT,Wf]at hv;let#[f,q,o]:=I.sl j _ e;rw[q]at hv;have:v=f:=by simpa using hv.1
    subst this;have x:=Qh.mp nd;refine .cons o (Rl.trs I x.2 a hv.2) (λb hb #[k,hk,z]=>?_) λb=>?_;let#[i,n]:=Wz.mp hk;let#[u,_,g]:=(jE a).2 i k n;exact I.dj j k t _ (λz=>x.1 (z▸hk)) e g b hb z;constructor
    ·rintro⟨k,hk,z⟩
     rcases QL.mp hk with e|e;subst e;exact .inl z;exact .inr #[k,e,z]
    rintro(z|⟨k,hk,z⟩)
    ·exact#[j,QE,z]
    exact#[k,QF _ hk,z]
  cases h
theorem Rl.setO(I:Rl K F H S ρ σ)(i:Nat){v:V}{t:T}{Z:lB}(hv:σ[i]?=jr (jr v))(r:Tr K F H kb v t Z)(w:∀(j:Nat) s,j≠i->ρ[j]?=jr (jr s)->∀b,Z b->¬ S j b):Rl K F H (MF S i Z) (ρ.set i (jr (.own t))) σ where
 fh:=I.fh
 len:=by simpa using I.len
 sl:=λj s h=>by
  rcases cA h with⟨rfl,e,hl⟩| ⟨g,h⟩
  cases e;exact#[v,hv,by rw[YA];exact r];rw[oA (Q1 g)];exact I.sl j s h
 dj:=λj k a s n u x b hb hk=>by
  rcases cA u with⟨e,_,_⟩| ⟨f,u⟩
  subst e;rw[YA]at hb;rcases cA x with⟨e,_,_⟩| ⟨z,x⟩
  exact n e;rw[oA (Q1 z)]at hk;exact w k s (Q1 z) x b hb hk;rw[oA (Q1 f)]at hb;rcases cA x with⟨e,_,_⟩| ⟨z,x⟩
  subst e;rw[YA]at hk;exact w j _ n u b hk hb;rw[oA (Q1 z)]at hk;exact I.dj j k a s n u x b hb hk
theorem DM:∀{J:LN}{w:LT}{vs:LV}{M:lB}{S1:Ft}{y x:kA},J.Nodup->Rl K F H S1 y σ->Trs K F H kb vs w M->vs.map (λv=>jr (jr v))=J.map (λj=>σ[j]?)->Held F H S1 y M->kC J w y=jr x ->
  ∃f,Rl K F H f x σ/\(∀i,i∉J->x[i]?=y[i]?/\f i=S1 i)/\∀i∈J,∀s,x[i]?=jr (jr s)->(∃t,s=.own t)/\∀b,f i b->M b
 |[],w,vs,M,S1,y,x,nd,I,r,hv,hm,h=>by
  cases w with|nil=>simp only[kC,Qq]at h;subst h;exact#[S1,I,λ_ _=>#[rfl,rfl],λi u=>by simp at u]|cons _ _=>simp[kC]at h
 |j::J,w,vs,M,S1,y,x,nd,I,r,hv,hm,h=>by
  cases r with
  |nil _=>simp[kC]at h|@cons _ v t vs R _ Z P C B n q =>
   simp only[kC]at h;simp only[QT,Wf]at hv;have a:=Qh.mp nd;have Q:=I.setO j hv.1.symm C λk s _ hk b hb=>hm.nw k s hk b ((q b).mpr (.inl hb));have Y:Held F H (MF S1 j Z) (y.set j (jr (.own t))) P:=#[λb hb=>hm.dom b ((q b).mpr (.inr hb)),λi s u b hb z=>by
    rcases cA u with⟨rfl,_,_⟩| ⟨X,u⟩
    rw[YA]at z;exact n b z hb;rw[oA (Q1 X)]at z;exact hm.nw i s u b ((q b).mpr (.inr hb)) z]
   let#[f,O,A,N]:=DM a.2 Q B hv.2 Y h;refine#[f,O,λi u=>?_,λi u s hs=>?_];have W:j≠i:=λe=>u (e▸QE);let#[o,g]:=A i λm=>u (QF _ m);rw[EB W]at o;rw[oA (Q1 W)]at g;exact#[o,g];rcases QL.mp u with e|e
   ·subst e
    let#[o,g]:=A i a.1;rw[o]at hs;rcases cA hs with⟨_,e,_⟩| ⟨X,_⟩
    injection e with e;refine#[#[t,e],λb hb=>?_];rw[g,YA]at hb;exact(q b).mpr (.inl hb);exact o2 rfl X
   let#[L,G]:=N i e s hs;exact#[L,λb hb=>(q b).mpr (.inr (G b hb))]
theorem XZ{f:Str}{as:PX}(g:GOk K Γ Ψ)(ia:PSnd K Γ Ψ as)(I:Rl K F H S ρ σ)(X:ND K F H S ρ E p){Q:TK}{R:VK}{ws:LN}(h:(pe Ψ (.call f as) E).e ρ Q)(k:uB K ws F H S ρ σ Q R):(wp K Γ (.call f as) p).e σ H R:=by
 let#[os,ho,nd,h]:=h;generalize hJ:bA (Ψ.sp f).md as=J at ho nd h;have C:∀j∈J,∃t,ρ[j]?=jr (jr (.own t)):=λj A=>by let#[i,hi]:=Wz.mp A;let#[t,_,e]:=(jE ho).2 i j hi;exact#[t,e]
 have I0:Rl K F H S (clear J ρ) σ:=I.drop (GP J ρ) λi s e=>(pD J ρ i s e).2;have P:∀b,U (clear J ρ) S b->U ρ S b:=λb #[i,t,h1,O]=>#[i,t,(pD J ρ i _ h1).2,O]
 have X0:ND K F H S (clear J ρ) E p:=λx dx F2 H2 S2 L m ff r q=>X x dx F2 H2 (λ_ _=>False) [] #[m.ff,λb u e n=>m.hh b u e λz=>n (P b z),m.dm,λb e z=>(m.fn b e z).imp (P b) id,λb #[i,t,e,_]=>by simp at e,λj t e=>by simp at e] ff r q;have hm:∀j∈bA (Ψ.sp f).md as,∃v,σ[j]?=jr (jr v):=λj A=>by let#[t,e]:=C j (hJ▸A);let#[v,h1,_]:=I.sl j _ e;exact#[v,h1]
 show(wp K Γ as p).a σ H λvs c=>Γ.sp f vs c R p;refine ia.a I0 X0 hm h λvs l c S1 y xs W Y s1 I1 r1 mv q1=>?_;rw[hJ]at mv;let#[ts,hp,q1]:=q1;have hw:=r1.held;have m:=s1.frz (λb hb=>(hw.dom b hb).2) r1.fr;have I2:=I1.frz hw;have yk:∀b,Y b->l b=kd->dJ l c W b=none:=λb hy hf=>by let#[i,sl,_,O,h3]:=r1.tm b hy;rw[pC λz=>r1.nw i sl O b z h3];exact hf
 let#[ar,mt]:=r1.av.pass (bH λb hb=>(hw.dom b hb).2) (λb hb=>uH hb) yk hp;generalize dJ l c W=F2 at m I2 yk ar;have M0:=I.trs nd ho mv;have hM:Held F H S (clear J ρ) (λb=>∃j∈J,S j b):=#[λb #[j,A,hb]=>let#[t,e]:=C j A;I.dom e hb,λi s e b #[j,A,hb] z=>by let#[G,B]:=pD J ρ i s e;let#[t,et]:=C j A;exact I.dj j i t s (λq=>G (q▸A)) et B b hb z]
 have N:=hM.step m.toStp I2;have M2:Trs K F2 c kb (sB (Ψ.sp f).md vs) (HB (Ψ.sp f).md ts) (λb=>∃j∈J,S j b):=by
  rw[mt];refine M0.mono m.ff λb hb=>?_;refine#[?_,(N.dom b hb).2];cases e:H b with|none=>exact o2 e (hM.dom b hb).1|some u=>exact m.hh b u e (hM.nu b hb)
 refine g.sp f vs c R p #[F2,ts,_,Y,I2.fh,ar,M2,λb hy hb=>?_,?_];let#[i,sl,_,O,h3]:=r1.tm b hy;exact N.nw i sl O b hb h3
 ·have up:∀b,(∃j∈J,S j b)->U ρ S b:=λb #[j,A,hb]=>let#[t,e]:=C j A;#[j,t,e,hb]
  have lk:∀b,(∃j∈J,S j b)∨c b=kd->U ρ S b∨H b=none:=λb hb=>hb.imp (up b) (m.dm b);refine(Ψ.sp f).mono ?_ ?_ q1
  rotate_left
  rintro x qx dx F' H' o xr;refine X x dx F' H' (λ_ _=>False) [] #[m.ff.trans o.ff,λb u e n=>o.hh b u (m.hh b u e λz=>n (P b z)) λz=>n (up b z),λb e=>m.dm b (o.dm b e),λb e z=>?_,λb #[i,t,e,_]=>by simp at e,λj t e=>by simp at e] o.fh xr qx;by_cases q:F2 b=kd;exact lk b (o.fn b q z);exact(m.fn b e q).imp (P b) id;rintro r os' ⟨L,hput,q⟩ v F' H' Z M' o tr trs dz hf;have I3:Rl K F' H' S1 y σ:=#[o.fh,I2.len,λi s e=>by
   let#[w,g1,g2]:=I2.sl i s e;refine#[w,g1,g2.mono o.ff λb hb=>?_];let#[d1,d2]:=g2.dom b hb;have nM:¬ ∃j∈J,S j b:=λz=>N.nw i s e b z hb;refine#[?_,?_];cases e:c b with|none=>exact o2 e d1|some u=>exact o.hh b u e nM
   by_cases z:F' b=kd
   ·exact z
   exact((o.fn b d2 z).elim nM d1).elim,I2.dj]
  have nw3:∀b,(∃j∈J,S j b)∨c b=kd->∀(i:Nat) s,y[i]?=jr (jr s)->¬ S1 i b:=λb hb i s e z=>by rcases hb with hb|hb;exact N.nw i s e b hb z;exact(I2.dom e z).1 hb
  have hM':Held F' H' S1 y M':=#[trs.dom,λi s e b hb=>nw3 b (hf b (.inr hb)) i s e]
  let#[S2,I4,g2,g3]:=DM nd I3 trs mv hM' hput;have M:∀i s,L[i]?=jr (jr s)->(i∈J/\(∃t,s=.own t)/\∀b,S2 i b->M' b)∨(i∉J/\y[i]?=jr (jr s)/\S2 i=S1 i):=λi s e=>by by_cases hi:i∈J;exact .inl #[hi,g3 i hi s e];let#[G,B]:=g2 i hi;exact .inr #[hi,G▸e,B]
  have st:Ste F H S ρ F' H' S2 L:=#[#[m.ff.trans o.ff,λb u e n=>o.hh b u (m.hh b u e λz=>n (P b z)) λz=>n (up b z),λb e=>m.dm b (o.dm b e),λb e z=>by
    by_cases q:F2 b=kd;exact lk b (o.fn b q z);exact(m.fn b e q).imp (P b) id,
   λb #[i,t,h1,O]=>by
    rcases M i _ h1 with⟨_,_,e⟩| ⟨_,G,B⟩
    exact lk b (hf b (.inr (e b O)));rw[B]at O;exact(m.uu b #[i,t,G,O]).imp (P b) id,
   λj t e hd=>by
    rcases M j _ e with⟨_,⟨t',z⟩,_⟩| ⟨_,G,B⟩
    cases z;let#[b1,b2]:=m.bo j t G hd;exact#[(pD J ρ j _ b1).2,B.trans b2]],
   λj t e=>by
    rcases M j _ e with⟨A,_,_⟩| ⟨_,G,B⟩
    exact C j A;let#[t0,e0]:=m.ow j t G;exact#[t0,(pD J ρ j _ e0).2]]
  refine k v F' H' S2 L r kb Z st I4 #[tr,λ_ b hb=>?_,λz=>(by cases z),λ_ i s e b hb z=>?_] q;exact(lk b (hf b (.inl hb))).symm;rcases M i s e with⟨_,_,B⟩| ⟨_,G,B⟩
  ·exact dz b hb (B b z)
  rw[B]at z;exact nw3 b (hf b (.inl hb)) i s G z
end
section
variable{K:QC}{Γ:Ev}{Ψ:PEv}{E:XE}{O:XK}{F H F1 H1:Hp}{S S1:Ft}{ρ Q:kA}{σ:St}
section
variable{j i:Nat}{t s:T}{b:Bool}{G C:Hp}{B:Ft}{Y:kA}{W P Z:lB}{vs L:LV}{ts us:LT}{a:k4}{M o:HO}{v A J:V}{x y:D}{ks:List D}{R:Hp->Prop}{N:T->Prop}
theorem bC(z:ρ[j]?=jr (jr (.own t))){s:Sl}(h:(ρ.set j (jr (.bor t)))[i]?=jr (jr s)):(i=j/\s=.bor t)∨(i≠j/\ρ[i]?=jr (jr s)):=by
 rcases cA h with⟨rfl,e,_⟩| ⟨n,h⟩
 injection e with e;exact .inl #[rfl,e];exact .inr #[Q1 n,h]
theorem Rl.lock1(I:Rl K F H S ρ σ)(h:ρ[j]?=jr (jr (.own t))):Rl K F H S (ρ.set j (jr (.bor t))) σ where
 fh:=I.fh
 len:=by simpa using I.len
 sl:=λi s e=>by
  rcases bC h e with⟨rfl,rfl⟩| ⟨_,e⟩
  let#[v,g,f]:=I.sl i _ h;exact#[v,g,f.weak];exact I.sl i s e
 dj:=λi k u s n p m=>by
  rcases bC h p with⟨_,z⟩| ⟨r,w⟩
  cases z;rcases bC h m with⟨q,_⟩| ⟨_,l⟩
  ·exact I.dj i k u _ n w (q▸h)
  exact I.dj i k u s n w l
theorem Rl.lock1U(I:Rl K F H S ρ σ)(w:ρ[j]?=jr (jr (.own t)))(b:k4)(hb:S j b):¬ U (ρ.set j (jr (.bor t))) S b:=λ#[i,u,h,k]=>by
 rcases bC w h with⟨_,z⟩| ⟨n,h⟩
 cases z;exact I.dj i j u _ n h w b k hb
theorem lock1U(k:ρ[j]?=jr (jr (.own t))){b:k4}(h:U (ρ.set j (jr (.bor t))) S b):U ρ S b:=by
 let#[i,u,w,e]:=h;rcases bC k w with⟨_,z⟩| ⟨n,w⟩
 cases z;exact#[i,u,w,e]
theorem ND.lock1(X:ND K F H S ρ E O)(w:ρ[j]?=jr (jr (.own t))):ND K F H S (ρ.set j (jr (.bor t))) E O:=λx k G C B Y h f r q =>
 X x k G C (λ_ _=>False) [] #[h.ff,λb u e n=>h.hh b u e λz=>n (lock1U w z),h.dm,λb e z=>(h.fn b e z).imp (lock1U w) id,λb #[i,t,e,_]=>by simp at e,λj t e=>by simp at e] f r q
theorem zU(I:Rl K F H S ρ σ)(h:ρ[j]?=jr (jr (.own t)))(s:Ste F H S (ρ.set j (jr (.bor t))) G C B Y)(l:Rl K G C B Y σ){b:k4}(hb:S j b) :
  ∀(i:Nat) w,i≠j->Y[i]?=jr (jr w)->¬ B i b:=λi w n e z=>by
 cases w with
 |own u=>rcases s.uu b ⟨i,u,e,z⟩ with q|q;exact I.lock1U h b hb q;exact(I.dom h hb).1 q
 |bor u =>
  cases f:u.isD with
  |true=>exact l.isD e f z|false =>
   let#[k,g]:=s.bo i u e f;rw[g]at z;rcases bC h k with⟨q,_⟩| ⟨_,k⟩
   exact n q;exact I.dj j i t _ (Q1 n) h k b hb z
theorem vG{t':T}{v0:V}{m:Hp}{Z':lB}(I:Rl K F H S ρ σ)(w:ρ[j]?=jr (jr (.own t)))(hv:σ[j]?=jr (jr v0))(s:Ste F H S (ρ.set j (jr (.bor t))) G C B Y)(l:Rl K G C B Y σ)
  (hH:∀b u,C b=jr u->¬ S j b->m b=jr u) (dm:∀b,m b=kd->C b=kd) (r:Tr K G m kb v0 t' Z') (hz:∀b,Z' b->S j b∨W b∨C b=kd) (hw:Held G C B Y W) (frW:∀b,W b->H b=kd∨U (ρ.set j (jr (.bor t))) S b) :
  Ste F H S ρ G m (MF B j Z') (Y.set j (jr (.own t')))/\Rl K G m (MF B j Z') (Y.set j (jr (.own t'))) σ/\∀b,S j b∨W b∨C b=kd->∀(i:Nat) h,i≠j->Y[i]?=jr (jr h)->¬ B i b:=by
 have nw:∀b,S j b∨W b∨C b=kd->∀(i:Nat) h,i≠j->Y[i]?=jr (jr h)->¬ B i b:=λb hb i h n e z=>by rcases hb with hb|hb|hb;exact zU I w s l hb i h n e z;exact hw.nw i h e b hb z;exact(l.dom e z).1 hb
 have uj:∀b,S j b->U ρ S b:=λb hb=>#[j,t,w,hb]
 have lk:∀b,S j b∨W b∨C b=kd->U ρ S b∨H b=none:=λb hb=>by rcases hb with hb|hb|hb;exact .inl (uj b hb);exact(frW b hb).symm.imp (lock1U w) id;exact .inr (s.dm b hb)
 have fS:∀b,S j b->G b=none:=λb hb=>by
  by_cases q:G b=kd;exact q;rcases s.fn b (I.dom w hb).2 q with z|z
  ·exact o2 z (I.lock1U w b hb)
  exact o2 z (I.dom w hb).1
 have fh:Same G m:=λb u e=>hH b u (l.fh b u e) λz=>by rw[fS b z]at e;cases e
 have I3:Rl K G m B (Y.set j kd) σ:=#[fh,by simpa using l.len,λi h e=>by
   rcases cA e with⟨_,z,_⟩| ⟨n,e⟩
   cases z;let#[v,p,f]:=l.sl i h e;refine#[v,p,f.mono (.refl _) λb hb=>#[?_,(f.dom b hb).2]];cases eb:C b with|none=>exact o2 eb (f.dom b hb).1|some u=>exact hH b u eb λz=>zU I w s l z i h (Q1 n) e hb,
  λi k u h n g X=>by
   rcases cA g with⟨_,z,_⟩| ⟨_,g⟩
   cases z;rcases cA X with⟨_,z,_⟩| ⟨_,X⟩
   ·cases z
   exact l.dj i k u h n g X]
 have I4:=I3.setO j hv r λi h n e b hb=>by
  rcases cA e with⟨_,z,_⟩| ⟨_,e⟩
  cases z;exact nw b (hz b hb) i h n e
 have es:(Y.set j kd).set j (jr (.own t'))=Y.set j (jr (.own t')):=by simp
 rw[es]at I4;refine#[#[#[s.ff,λb u e n=>hH b u (s.hh b u e λz=>n (lock1U w z)) λz=>n (uj b z),λb e=>s.dm b (dm b e),λb e z=>(s.fn b e z).imp (lock1U w) id,λb #[i,u,p,f]=>?_,λi u e hd=>?_],λi u e=>?_],I4,nw];rcases cA p with⟨rfl,_,_⟩| ⟨n,p⟩
 ·rw[YA]at f
  exact lk b (hz b f)
 rw[oA (Q1 n)]at f;exact(s.uu b #[i,u,p,f]).imp (lock1U w) id;rcases cA e with⟨rfl,z,_⟩| ⟨n,e⟩
 ·cases z
 let#[g,X]:=s.bo i u e hd;rcases bC w g with⟨z,_⟩| ⟨_,g⟩
 exact o2 z.symm n;exact#[g,by rw[oA (Q1 n)];exact X];rcases cA e with⟨rfl,_,_⟩| ⟨n,e⟩
 ·exact#[t,w]
 let#[t0,e0]:=s.ow i u e;rcases bC w e0 with⟨_,z⟩| ⟨_,e0⟩
 cases z;exact#[t0,e0]
theorem Trs.erase{st:Bool}{S:lB}{k:Nat}(h:Trs K F H st vs ts S)(e:ts[k]?=jr t):∃v P1 u,vs[k]?=jr v/\Tr K F H st v t P1/\Trs K F H st (vs.eraseIdx k) (ts.eraseIdx k) u/\(∀b,P1 b->¬ u b)/\∀b,P1 b∨u b->S b:=by
 revert k;refine Trs.ind (R:=λst vs ts S=>∀{k:Nat},ts[k]?=jr t->∃v P1 u,vs[k]?=jr v/\Tr K F H st v t P1/\Trs K F H st (vs.eraseIdx k) (ts.eraseIdx k) u/\(∀b,P1 b->¬ u b)/\∀b,P1 b∨u b->S b) (λn k e=>by cases e) (λ{_ _ _ _ _ _ r _} h t n q f k e=>?_) h;cases k with|zero=>cases e;exact#[_,_,_,rfl,h,t,n,λb hb=>(q b).mpr hb]|succ k=>let#[v,P1,u,p,m,l,g,w]:=f (k:=k) e;refine#[v,P1,λb=>r b∨u b,p,m,.cons h l (λb hb z=>n b hb (w b (.inr z))) λb=>WJ,λb hb z=>z.elim (λz=>n b z (w b (.inl hb))) (g b hb),λb hb=>(q b).mpr ?_];rcases hb with hb|hb|hb;exact .inr (w b (.inl hb));exact .inl hb;exact .inr (w b (.inr hb))
theorem jJ{α:Type}:∀{l:List α}{k:α},l.Nodup->¬ k∈l->(l++[k]).Nodup
 |[],k,_,_=>by simp|a::r,k,h,hk=>by let#[u,z]:=Qh.mp h;show(a::(r++[k])).Nodup;refine Qh.mpr #[λm=>?_,jJ z λm=>hk (QL.mpr (Or.inr m))];rcases Qd.mp m with q|q;exact u q;exact hk (QL.mpr (Or.inl (QJ.mp q).symm))
theorem SL(h:F a=kd)(r:Trs K F H kb L us P)(n:¬ P a):Tr K F (CA H a (.lst L)) kb (.ref a) (.lst us) λb=>b=a∨P b :=
 .lst (S':=P) pA h (r.mono (.refl _) λb hb=>#[xA λz=>n (z▸hb),(r.dom b hb).2]) n λb=>WJ
theorem mD(w:Z a)(b:k4)(u:HO)(e:H b=jr u)(hb:¬ Z b):CA H a M b=jr u:=by have h:b≠a:=λz=>hb (by rw[z];exact w);rw[xA h];exact e
theorem JB(b:k4)(e:CA H a M b=kd):H b=none:=by by_cases hb:b=a;rw[hb,pA]at e;cases e;rw[xA hb]at e;exact e
theorem Ld{m:Mt}{N:T->T->Prop}{R:VK}(f:Same F H)(r:Tr K F H kb v s Z)(rv:Trs K F H kb vs ts W)(dj:∀b,Z b->¬ W b)(h:JL m s ts N)
  (k:∀w r s' H' S1 Zr,(∀b u,H b=jr u->¬ Z b->H' b=jr u)->(∀b,H' b=kd->H b=kd)->Tr K F H' kb v s' S1->Tr K F H' kb w r Zr->(∀b,Zr b->¬ S1 b)->(∀b,S1 b∨Zr b->Z b∨W b∨H b=kd)->N r s'->R w H'):Pd K m v vs H R:=by
 cases m with
 |append =>
  let#[us0,t0,rfl,rfl,h]:=h;cases r with
  |@lst _ a xs _ _ S' h1 h2 l X e =>
   have g:Z a:=(e a).mpr (.inl rfl);cases rv with
   |@cons _ w t ws us _ W1 W2 p r2 n q =>
    cases r2 with
    |nil n2 =>
     have hW:∀b,W b↔W1 b:=λb=>by rw[q b];simp[n2 b]
     refine#[a,xs,w,rfl,rfl,h1,by rw[l.9];exact h.1,k .non (.d .none) _ _ _ (λ_=>False) (mD g) JB (SL h2 (Trs.append l (Trs.one p) λb hb hw=>dj b ((e b).mpr (.inr hb)) ((hW b).mpr hw)) λz=>z.elim X λz=>dj a g ((hW a).mpr z)) (.d .non λ_ z=>z) (λ_ z=>z.elim) (λb hb=>?_) h.2];rcases hb with(hb|hb|hb)|hb;exact .inl (hb▸g);exact .inl ((e b).mpr (.inr hb));exact .inr (.inl ((hW b).mpr hb));exact hb.elim
 |extend =>
  let#[us0,vs0,rfl,rfl,h]:=h;cases r with
  |@lst _ a xs _ _ S' h1 h2 l X e =>
   have g:Z a:=(e a).mpr (.inl rfl);cases rv with
   |@cons _ w t ws us _ W1 W2 p r2 n q =>
    cases r2 with
    |nil n2 =>
     have hW:∀b,W b↔W1 b:=λb=>by rw[q b];simp[n2 b]
     cases p with|@lst _ c zs _ _ B g1 g2 g3 g4 I=>have dw:∀b,B b->W b:=λb hb=>(hW b).mpr ((I b).mpr (.inr hb));refine#[a,c,xs,zs,rfl,rfl,h1,g1,by rw[l.9,g3.9];exact h.1,k .non (.d .none) _ _ _ (λ_=>False) (mD g) JB (SL h2 (Trs.append l g3 λb hb hw=>dj b ((e b).mpr (.inr hb)) (dw b hw)) λz=>z.elim X λz=>dj a g (dw a z)) (.d .non λ_ z=>z) (λ_ z=>z.elim) (λb hb=>?_) h.2];rcases hb with(hb|hb|hb)|hb;exact .inl (hb▸g);exact .inl ((e b).mpr (.inr hb));exact .inr (.inl (dw b hb));exact hb.elim
 |pop =>
  let#[us0,i,j,t0,rfl,rfl,hi,ht,q]:=h;cases r with
  |@lst _ a xs _ _ S' h1 h2 l X e =>
   have g:Z a:=(e a).mpr (.inl rfl);let#[w,P1,P2,g1,g2,g3,g4,I]:=l.erase ht;have na:¬ P1 a:=λz=>X (I a (.inl z));have nb:¬ P2 a:=λz=>X (I a (.inr z));cases rv with
   |cons p r2 n q2 =>
    cases r2;cases p with
    |d p n1 =>
     cases p;refine#[a,i,xs,j,w,rfl,rfl,h1,by rw[l.9];exact hi,g1,k w t0 _ _ _ P1 (mD g) JB (SL h2 g3 nb) (g2.mono (.refl _) λb hb=>#[xA λz=>na (z▸hb),(g2.dom b hb).2]) (λb hb z=>?_) (λb hb=>?_) q];rcases z with z|z
     ·exact na (z▸hb)
     exact g4 b hb z;rcases hb with(hb|hb)|hb
     ·exact .inl (hb▸g)
     exact .inl ((e b).mpr (.inr (I b (.inr hb))));exact .inl ((e b).mpr (.inr (I b (.inl hb))))
 |_=>exact h.elim
theorem Trs.setD(w:Rep K F A x){S:lB}(n:Nat)(h:Trs K F H kb vs ts S):∃P,Trs K F H kb (vs.set n A) (ts.set n (.d x)) P/\∀b,P b->S b:=by
 revert n;refine Trs.ind (R:=λst vs ts S=>∀n:Nat,∃P,Trs K F H st (vs.set n A) (ts.set n (.d x)) P/\∀b,P b->S b) (λ{_ S} z n=>#[S,.nil z,λ_ h=>h]) (λ{_ _ _ _ _ _ S1 B} h t m q k n=>?_) h;cases n with|zero=>exact#[B,.cons (S1:=λ_=>False) (.d w λ_ z=>z) t (λ_ z=>z.elim) λb=>by simp,λb hb=>(q b).mpr (.inr hb)]|succ n=>let#[P,e,u]:=k n;exact#[λb=>S1 b∨P b,.cons h e (λb hb z=>m b hb (u b z)) λb=>WJ,λb hb=>(q b).mpr (hb.imp id (u b))]
theorem Trs.part{S:lB}(h:Trs K F H kb vs ts S)(e:ts[i]?=jr t):∃v S1,vs[i]?=jr v/\Tr K F H kb v t S1/\(∀b,S1 b->S b) /\
  ∀(w:Hp) t' u,(∀b,S b->¬ S1 b->w b=H b)->Tr K F w kb v t' u->(∀b,u b->S1 b)->∃P,Trs K F w kb vs (ts.set i t') P/\∀b,P b->S b:=by
 revert i;refine Trs.ind (R:=λst vs ts S=>∀{i:Nat},ts[i]?=jr t->∃v S1,vs[i]?=jr v/\Tr K F H st v t S1/\(∀b,S1 b->S b)/\∀(w:Hp) t' u,(∀b,S b->¬ S1 b->w b=H b)->Tr K F w st v t' u->(∀b,u b->S1 b)->∃P,Trs K F w st vs (ts.set i t') P/\∀b,P b->S b) (λn i e=>by cases e) (λ{_ _ _ _ _ _ m P2} h t n q p i e=>?_) h;cases i with|zero=>cases e;exact#[_,m,rfl,h,λb hb=>(q b).mpr (.inl hb),λw t' u k r f=>#[λb=>u b∨P2 b,.cons r (t.mono (.refl _) λb hb=>#[k b ((q b).mpr (.inr hb)) λz=>n b z hb,(t.dom b hb).2]) (λb hb z=>n b (f b hb) z) λb=>WJ,λb hb=>(q b).mpr (hb.imp (f b) id)]]|succ i=>let#[v,S1,h1,h2,g,I]:=p (i:=i) e;refine#[v,S1,h1,h2,λb hb=>(q b).mpr (.inr (g b hb)),λw t' u k r f=>?_];let#[P,g1,l]:=I w t' u (λb hb X=>k b ((q b).mpr (.inr hb)) X) r f;exact#[λb=>m b∨P b,.cons (h.mono (.refl _) λb hb=>#[k b ((q b).mpr (.inl hb)) λz=>n b hb (g b z),(h.dom b hb).2]) g1 (λb hb z=>n b hb (l b z)) λb=>WJ,λb hb=>(q b).mpr (hb.imp id (l b))]
def Bu(ks:List D)(k:D):List D:=match dA ks k with
 |some _=>ks|none=>ks++[k]
def au{α:Type}(ks:List D)(vs:List α)(k:D)(x:α):List α:=match dA ks k with
 |some n=>vs.set n x|none=>vs++[x]
theorem OQ{α h:Type}[DecidableEq α](k:α)(key:h->α)(f:h->h)(hf:∀p,key (f p)=key p):∀(l:List h) (n:Nat),(l.map key).Nodup->(l.map key)[n]?=jr k->(∀(g:h->V) (x:V),(∀p,key p=k->g (f p)=x)->(l.map λp=>if key p=k then f p else p).map g=(l.map g).set n x)
 |[],n,_,e=>by simp at e|p::r,0,nd,e=>by
  intro g x w;have e:key p=k:=by simpa using e
  rw[QT]at nd;let#[u,m]:=Qh.mp nd;have e2:(r.map λp=>if key p=k then f p else p)=r:=by rw[show r=r.map id from(QCp r).symm,Qc];refine wQ λq I=>?_;have:key q≠k:=λz=>u (QX.mpr #[q,by simpa using I,z.trans e.symm]);simp[this]
  rw[QT,e2,QT,QT,oa e,w p e];rfl
 |p::r,n+1,nd,e=>by
  intro g x w;rw[QT]at nd;let#[u,m]:=Qh.mp nd;have e:(r.map key)[n]?=jr k:=by simpa using e
  have X:¬ key p=k:=λz=>u (by rw[z];exact qa e);rw[QT,QT,QT,ot X,OQ k key f hf r n m e g x w];rfl
theorem put_keys{α h z:Type}[DecidableEq α](k:α)(key:h->α)(f:h->h)(g:h->z)(u:∀p,g (f p)=g p)(l:List h):(l.map λp=>if key p=k then f p else p).map g=l.map g:=by rw[Qc];refine wQ λp _=>?_;show g (if key p=k then f p else p)=g p;split;exact u p;rfl
theorem DK.put{k:D}(f:Same F H)(ha:H a=jr o)(dk:DK K F b o ks vs)(ry:Rep K F J k)(hk:SD b k)(hl:ks.9<ku)
  (kk:∀o',DK K F b o' (Bu ks k) (au ks vs k A)->R (CA H a o')):uT K (.ref a) J A H R:=by
 cases b with
 |true =>
  let#[ep,u,rfl,rfl,rfl,h4,X]:=dk;cases UR hk ry with
  |intro q h =>
   let#[p,rfl,rfl,hq]:=h;refine#[ep,u,q,ha,λp hp=>f.key (h4 p hp),f.key hq,by simpa using hl,λI=>kk _ ?_];have w:=NG q u;unfold CM Bu au;cases e:dA (u.map λp=>tD p.1) (tD q) with
   |none =>
    rw[e]at w;have w:fH u q=none:=w;rw[w];refine#[I,u++[(q,p,A)],rfl,by simp,by simp,λx l=>?_,?_];rcases Qd.mp l with l|l
    ·exact h4 x l
    rw[QJ.mp l];exact hq;rw[QN];refine jJ X λm=>zB.mp e ?_;let#[x,l,ex]:=QX.mp m;exact QX.mpr #[x,l,by rw[ex]]
   |some n =>
    rw[e]at w;have g:=TC e;have r:(u.map (·.1))[n]?=jr q:=by
     rw[Qa]at g ⊢;cases en:u[n]? with|none=>rw[en]at g;cases g|some x=>rw[en]at g;rw[qD,Qq]at g ⊢;exact EV g
    have hs:(fH u q).isSome=true:=by
     rw[w];have:n<u.length:=by have:=(Qg.mp r).1;simpa using this
     simp[this]
    rw[oa hs];refine#[I,_,rfl,(put_keys q (·.1) (λp=>(p.1,p.2.1,A)) (λp=>tD p.1) (λ_=>rfl) u).symm,(OQ q (·.1) (λp=>(p.1,p.2.1,A)) (λ_=>rfl) u n X r (·.2.2) A λ_ _=>rfl).symm,λx l=>?_,?_];let#[y,hy,ey]:=QX.mp l;have hy:=h4 y hy;by_cases z:y.1=q;rw[oa z]at ey;subst ey;exact hy;rw[ot z]at ey;subst ey;exact hy;have:=put_keys q (·.1) (λp:KE=>(p.1,p.2.1,A)) (·.1) (λ_=>rfl) u;rw[this];exact X
 |false =>
  let#[z,rfl]:=hk;cases ry;rcases dk with⟨u,hne,rfl,rfl,rfl,X⟩| ⟨ep,rfl,rfl,rfl⟩
  rotate_left
  exact .inr #[ep,ha,kk _ (.inl #[[(.inr z,A)],by simp,rfl,rfl,rfl,by simp])];refine .inl #[u,ha,by simpa using hl,kk _ (.inl ?_)];have w:=MJ (.inr z) u;have ez:kD (.inr z)=.str z:=rfl;rw[ez]at w;unfold fW Bu au;rw[MS];cases e:dA (u.map λp=>kD p.1) (.str z) with
  |none=>rw[e]at w;have w:fM u (.inr z)=none:=w;rw[w];refine#[u++[(.inr z,A)],by simp,rfl,by simp[ez],by simp,?_];rw[QN];refine jJ X λm=>zB.mp e ?_;let#[x,l,ex]:=QX.mp m;exact QX.mpr #[x,l,by rw[ex];rfl]|some n =>
   rw[e]at w;have g:=TC e;have r:(u.map (·.1))[n]?=jr (.inr z):=by
    rw[Qa]at g ⊢;cases en:u[n]? with|none=>rw[en]at g;cases g|some x=>rw[en]at g;rw[qD,Qq]at g ⊢;exact X8 g
   have hs:(fM u (.inr z)).isSome=true:=by
    rw[w];have:n<u.length:=by have:=(Qg.mp r).1;simpa using this
    simp[this]
   rw[oa hs];refine#[_,by simpa using hne,rfl,(put_keys (.inr z) (·.1) (λp=>(p.1,A)) (λp=>kD p.1) (λ_=>rfl) u).symm,(OQ (.inr z) (·.1) (λp=>(p.1,A)) (λ_=>rfl) u n X r (·.2) A λ_ _=>rfl).symm,?_];have:=put_keys (.inr z) (·.1) (λp:Key×V=>(p.1,A)) (·.1) (λ_=>rfl) u;rw[this];exact X
theorem xS(h:F a=kd)(u:DK K F b o ks L)(r:Trs K F H kb L us P)(n:¬ P a):Tr K F (CA H a o) kb (.ref a) (.dct b ks us) λb=>b=a∨P b :=
 .dct (S':=P) pA u h (r.mono (.refl _) λb hb=>#[xA λz=>n (z▸hb),(r.dom b hb).2]) n λb=>WJ
theorem D5(f:Same F H)(r:Tr K F H kb v s Z)(ry:Rep K F J y)(rx:Rep K F A x)(h:Mp s y x N)
  (k:∀s' H' S1,(∀b u,H b=jr u->¬ Z b->H' b=jr u)->(∀b,H' b=kd->H b=kd)->Tr K F H' kb v s' S1->(∀b,S1 b->Z b)->N s'->R H'):uT K v J A H R:=by
 cases s with
 |lst ts =>
  cases y with
  |int i =>
   let#[n,hn,q]:=h;cases ry;cases r with|@lst _ a xs _ _ S' h1 h2 m I l=>have g:Z a:=(l a).mpr (.inl rfl);let#[P,X,p]:=m.setD rx n;refine#[xs,n,h1,by rw[m.9];exact hn,k _ _ _ (mD g) JB (SL h2 X λz=>I (p a z)) (λb hb=>?_) q];rcases hb with hb|hb;exact hb▸g;exact(l b).mpr (.inr (p b hb))
  |_=>exact h.elim
 |dct b ks ts =>
  let#[hk,hl,q]:=h;cases r with
  |@dct _ _ a o _ vs _ _ S' h1 dk h2 m I l =>
   have g:Z a:=(l a).mpr (.inl rfl);refine dk.put f h1 ry hk hl λo' w=>?_;unfold Bu au at w;unfold EJ at q;cases e:dA ks y with
   |some n=>rw[e]at w q;let#[P,X,p]:=m.setD rx n;refine k _ _ _ (mD g) JB (xS h2 w X λz=>I (p a z)) (λb hb=>?_) q;rcases hb with hb|hb;exact hb▸g;exact(l b).mpr (.inr (p b hb))
   |none=>rw[e]at w q;have X:=Trs.append m (Trs.one (Tr.d (S:=λ_=>False) rx λ_ z=>z)) λ_ _ z=>z;refine k _ _ _ (mD g) JB (xS h2 w X λz=>z.elim I id) (λb hb=>?_) q;rcases hb with hb|hb|hb;exact hb▸g;exact(l b).mpr (.inr hb);exact hb.elim
 |_=>exact h.elim
theorem DK.vs_inj{m:Hp}{f:List D}{u:LV}(h:DK K F b o ks vs)(h':DK K m b o f u):vs=u:=by
 cases b with|true=>let#[l,k,e,_,rfl,_]:=h;let#[g,w,z,_,rfl,_]:=h';rw[e]at z;cases z;rfl|false=>rcases h with⟨k,_,e,_,rfl,_⟩| ⟨l,e,_,rfl⟩<;>rcases h' with⟨w,_,z,_,rfl,_⟩| ⟨g,z,_,rfl⟩<;>rw[e]at z<;>cases z<;>rfl
theorem Cb{F0:Hp}{n:Nat}{w:V}(f:Same F H)(r:Tr K F H kb (.ref a) (.dct b ks ts) Z)(l:H a=jr o)(q:DK K F0 b o ks vs)(hw:vs[n]?=jr w)(ht:ts[n]?=jr s)
  (ry:Rep K F J y) (rx:Rep K F A x) (h:Mp s y x N)
  (k:∀s' g S1,(∀b u,H b=jr u->¬ Z b->g b=jr u)->(∀b,g b=kd->H b=kd)->Tr K F g kb (.ref a) (.dct b ks (ts.set n s')) S1->(∀b,S1 b->Z b)->N s'->R g):uT K w J A H R:=by
 cases r with
 |@dct _ _ a o' _ vs' _ _ S' h1 dk h2 h3 h4 p =>
  rw[l]at h1;cases h1;cases q.vs_inj dk;have ha:Z a:=(p a).mpr (.inl rfl);let#[w',S1,g1,g2,g3,g4]:=h3.part ht;rw[hw]at g1;cases g1;refine D5 f g2 ry rx h λs' g X hh dm rs sub q2=>?_;have keep:∀b,¬ S1 b->H b≠kd->g b=H b:=λb hb m=>by
   cases e:H b with|none=>exact o2 e m|some u=>exact hh b u e hb
  have na:¬ S1 a:=λz=>h4 (g3 a z);let#[P,p1,I]:=g4 g s' X (λb hb m=>keep b m (h3.dom b hb).1) rs sub;refine k _ g (λb=>b=a∨P b) (λb u e hb=>hh b u e λz=>hb ((p b).mpr (.inr (g3 b z)))) dm (.dct (S':=P) ((keep a na (by rw[l];simp)).trans l) dk h2 p1 (λz=>h4 (I a z)) λb=>WJ) (λb hb=>?_) q2;rcases hb with hb|hb;exact hb▸ha;exact(p b).mpr (.inr (I b hb))
theorem Jj{p:k4}(f:Same F H)(X:H p=kd)(r:Tr K F H kb v t Z)(ry:Rep K F J y)(h:ij y t N)
  (k:∀s' l S1,(∀b u,H b=jr u->¬ Z b->l b=jr u)->(∀b,l b=kd->H b=kd)->Tr K F l kb v s' S1->(∀b,S1 b->Z b∨b=p)->N s'->R l):ML K v [J,.ref p] (CA H p (.dT 0 [])) λ_ l=>R l:=by
 let#[ks,ts,rfl,hk,hl,h]:=h;cases r with
 |@dct _ _ a o _ vs _ _ S' h1 dk h2 h3 h4 h5 =>
  have ha:Z a:=(h5 a).mpr (.inl rfl);let#[ep,w,rfl,rfl,rfl,d4,d5]:=dk;have ap:a≠p:=JA h1 X;have fp:F p=none:=f.free X;have sm:Same H (CA H p (.dT 0 [])):=NB X;cases UR hk ry with
  |intro q hh =>
   let#[c,rfl,rfl,hq]:=hh;have vf:=NG q w;refine#[a,c,.ref p,ep,w,q,rfl,rfl,(xA ap).trans h1,λx g=>(f.trans sm).key (d4 x g),(f.trans sm).key hq,by simpa using hl,λu eu=>?_,λen I=>?_];rcases h with⟨n,e,q⟩| ⟨e,q⟩
   ·have r0:Tr K F H kb (.ref a) (.dct kb (w.map λp=>tD p.1) ts) Z:=.dct h1 #[ep,w,rfl,rfl,rfl,d4,d5] h2 h3 h4 h5
    refine k _ _ Z (λb u e _=>sm b u e) (λb e=>JB b e) (r0.mono (.refl _) λb hb=>#[xA λz=>(r0.dom b hb).1 (by rw[z];exact X),(r0.dom b hb).2]) (λb hb=>.inl hb) q
   rw[e]at vf;rw[vf]at eu;cases eu;rcases h with⟨n,e,q⟩| ⟨e,q2⟩
   ·have hn:=TC e
    rw[e]at vf;have:n<w.length:=by have:=(Qg.mp hn).1;simpa using this
    rw[vf]at en;have en:(w.map (·.2.2))[n]?=none:=en;rw[List.getElem?_eq_none_iff,QD]at en;omega
   have ep2:CM w q c (.ref p)=w++[(q,c,.ref p)]:=by unfold CM;rw[en];rfl
   rw[ep2];have np:¬ S' p:=λz=>(h3.dom p z).1 X;have g0:Tr K F (CA H p (.dT 0 [])) kb (.ref p) (.dct kb [] []) λb=>b=p :=
    .dct (S':=λ_=>False) (vs:=[]) pA #[0,[],rfl,rfl,rfl,λ_ z=>(nomatch z),Q4] fp (.nil λ_ z=>z) (λz=>z) λb=>by simp
   have g3:Trs K F (CA H p (.dT 0 [])) kb (w.map (·.2.2)) ts S':=h3.mono (.refl _) λb hb=>#[xA λz=>np (z▸hb),(h3.dom b hb).2]
   have g1:=Trs.append g3 (Trs.one g0) λb hb z=>np (z▸hb);have dk':DK K F kb (.dT I (w++[(q,c,.ref p)])) ((w.map λp=>tD p.1)++[tD q]) (w.map (·.2.2)++[.ref p]):=by
    refine#[I,_,rfl,by simp,by simp,λx g=>?_,?_];rcases Qd.mp g with g|g
    ·exact d4 x g
    rw[QJ.mp g];exact hq;rw[QN];refine jJ d5 λm=>zB.mp e ?_;let#[x,g,ex]:=QX.mp m;exact QX.mpr #[x,g,by rw[ex]]
   refine k _ _ _ (λb u e hb=>?_) (λb e=>JB b (JB b e)) (xS h2 dk' g1 λz=>z.elim h4 ap) (λb hb=>?_) q2;rw[xA λz=>hb (by rw[z];exact ha)];exact sm b u e;rcases hb with hb|hb|hb
   ·exact .inl (hb▸ha)
   exact .inl ((h5 b).mpr (.inr hb));exact .inr hb
end
end
section
variable{K:QC}{Γ:Ev}{Ψ:PEv}
section
variable{p:PX}{F H:Hp}{S:Ft}{ρ:kA}{Z:lB}
noncomputable abbrev yY(K:QC)(Γ:Ev)(Ψ:PEv)(p:PX):Prop:=∀{E:XE}{x:XK}{F H:Hp}{S:Ft}{ρ:kA}{h:St}{Q:TK}{R:VK},Rl K F H S ρ h->ND K F H S ρ E x->(pe Ψ p E).e ρ Q->uB K (TF p) F H S ρ h Q R->(wp K Γ p x).e h H R
theorem RV(f:yY K Γ Ψ p){E:XE}{w:XK}{σ:St}{Q:Bool->kA->Prop}{R:Bool->Hp->Prop}(I:Rl K F H S ρ σ)(X:ND K F H S ρ E w)(h:(pe Ψ p E).e ρ λt _ y=>sI t.er λb=>Q b y)(k:GH K F H S ρ σ Q R) :
  (wp K Γ p w).e σ H λx i=>OF K x i R :=
 f I X h λv l j g z t n Z s u r q=>lY (r.tr.rep u.fh) q λc a=>k c l j g z s u a
theorem PSnd.of_e(w:∀E ρ Q,(pe Ψ p E).t ρ Q=(pe Ψ p E).e ρ λt _ y=>sI t.er λb=>Q b y)(z:∀v σ H R,(wp K Γ p v).t σ H R=(wp K Γ p v).e σ H λx g=>OF K x g R)(f:∀E,(pe Ψ p E).a=JD.a)(u:yY K Γ Ψ p):PSnd K Γ Ψ p where
 e:=u
 t:=λI X h k=>by rw[w]at h;rw[z];exact RV u I X h k
 a:=λI X _ h k=>by rw[f]at h;exact h.elim
theorem PSnd.of_0(x:∀E,(pe Ψ p E).t=JD.t)(z:∀E,(pe Ψ p E).a=JD.a)(y:yY K Γ Ψ p):PSnd K Γ Ψ p where
 e:=y
 t:=λI X h k=>by rw[x]at h;exact h.elim
 a:=λI X _ h k=>by rw[z]at h;exact h.elim
theorem PSnd.of_t(l:∀E ρ Q,(pe Ψ p E).e ρ Q=(pe Ψ p E).t ρ λb u=>Q (.d (.bool b)) kn u)(v:∀z σ H R,(wp K Γ p z).t σ H R=(wp K Γ p z).e σ H λx n=>U4 x n R)(m:∀E,(pe Ψ p E).a=JD.a)
  (f:∀{E:XE}{z:XK}{F H:Hp}{S:Ft}{ρ:kA}{σ:St}{Q:Bool->kA->Prop}{R:VK},Rl K F H S ρ σ->ND K F H S ρ E z->(pe Ψ p E).t ρ Q->GH K F H S ρ σ Q (λb=>R (.bl b))->(wp K Γ p z).e σ H R):PSnd K Γ Ψ p where
 e:=λI X h k=>by rw[l]at h;exact f I X h λb j i g y s w q=>uB.d k s w (.bl b) q
 t:=λI X h k=>by rw[v];exact f I X h λb j i g y s w q=>k b j i g y s w q
 a:=λI X _ h k=>by rw[m]at h;exact h.elim
theorem Cf(i:Nat):yY K Γ Ψ (.var i):=by
 intro E a F H S ρ y Q R I X h k;have x:Ku ρ[i]? λt=>Q t kn ρ:=h;show(match y[i]? with|some (jr v)=>R v H|_=>False);have key:∀s,ρ[i]?=jr (jr s)->Q s.t kn ρ->(match y[i]? with|some (jr v)=>R v H|_=>False):=λs e q=>by let#[v,w,u]:=I.sl i _ e;rw[w];exact k v F H S ρ s.t kn (S i) .refl I #[u.weak,λz=>(by cases z),λ_ b hb=>#[i,s,QJ.mpr rfl,e,hb],λz=>(by cases z)] q
 unfold Ku at x;split at x;rename_i e;exact key _ e x;rename_i e;exact key _ e x;exact x.elim;exact x.elim
theorem cD{i j:Nat}{s:Sl}(h:(ρ.set i kd)[j]?=jr (jr s)):j≠i/\ρ[j]?=jr (jr s):=by
 rcases cA h with⟨_,z,_⟩| ⟨n,e⟩
 cases z;exact#[Q1 n,e]
theorem Fw(i:Nat):yY K Γ Ψ (.mv i):=by
 intro E w F H S ρ y Q R I X h k;have x:iC ρ[i]? λt=>Q t kb (ρ.set i kd):=h;show(match y[i]? with|some (jr v)=>R v H|_=>False);unfold iC at x;split at x;rename_i t hd;let#[v,u,r]:=I.sl i _ hd;rw[u];exact k v F H S (ρ.set i kd) t kb (S i) #[#[.refl _,λ_ _ h _=>h,λ_ h=>h,λb h z=>o2 h z,λb #[j,t,e,hb]=>.inl #[j,t,(cD e).2,hb],λj t e _=>#[(cD e).2,rfl]],λj t e=>#[t,(cD e).2]]
  (I.drop (by simp) λj s e=>(cD e).2) #[r,λ_ b hb=>.inr #[i,t,hd,hb],λz=>(by cases z),λ_ j s e b hb z=>I.dj i j t s (Q1 (cD e).1) hd (cD e).2 b hb z] x
 exact x.elim;exact x.elim;exact x.elim
theorem Vl{m:Mt}{v:V}{s:T}(h:isMut m=kb)(x:yJ m s=kb)(r:Tr K F H kb v s Z):RZ K m.ty v H:=by
 unfold yJ at x;split at x;cases r with
 |lst y _ _ _ _ =>
  refine .inl #[?_,_,aC.of y];cases m with|append=>rfl|pop=>rfl|extend=>rfl|_=>cases x
 cases x
theorem Gw{m:Mt}{o g:PX}(io:PSnd K Γ Ψ o)(ia:PSnd K Γ Ψ g):yY K Γ Ψ (.mt m o g):=by
 intro E EK F H S ρ L Q R I X h k;show(wp K Γ o EK).e L H λx J=>RZ K m.ty x J/\(wp K Γ g EK).a L J λA l=>Pd K m x A l R;cases hm:isMut m with
 |false =>
  have h:(pe Ψ o E).e ρ λx n M=>E7 m (gA x n).vw=kb/\sq (gA x n) M ((pe Ψ g E).a []) λf y=>Xu m (gA x n).vw (AB f) λz k=>Q z k y:=by have C:(if isMut m=kb then _ else _):=h;rw[hm,ot (by simp)]at C;exact C
  refine bp (P1:=λx n=>E7 m (gA x n).vw=kb) (R1:=λv J=>RZ K m.ty v J) (RR:=λv A l=>Pd K m v A l R) io ia I X h (λv F' H' x n Za r p=>Iq r p) λv A F' H' S' ρ' x n f Za Y s I' X' r _ tn q=>?_;rw[uM _ rfl]at q;exact Xl s I' r tn q k
 |true =>
  have h:Sf (k6 o) λj=>iC ρ[j]? λt=>yJ m t=kb/\(pe Ψ g E).a [] (ρ.set j (jr (.bor t))) λf y=>HE f=kb/\y[j]?=jr (jr (.bor t))/\JL m t (NF f) λr s'=>Q r kb (y.set j (jr (.own s'))):=by have C:(if isMut m=kb then _ else _):=h;rw[hm,oa rfl]at C;exact C
  cases o with
  |var j =>
   have h:iC ρ[j]? _:=h;unfold iC at h;split at h;rename_i t u;let#[ht,q1]:=h;let#[v0,hv,B]:=I.sl j _ u;have IL:=I.lock1 u;have n0:=I.lock1U u;have B:Tr K F H kb v0 t (S j):=B;have XL:=X.lock1 u;show(match L[j]? with|some (jr v)=>_|_=>False);rw[hv];refine#[Vl hm ht B,?_];refine ia.a (md:=[]) IL XL (λj u=>by cases g<;>cases u) q1 λA F2 l S2 y f W Y N I2 G _ P=>?_;let#[he,hj2,P]:=P;have r2:Tr K F2 l kb v0 t (S j):=N.toStp.keep B n0;have hw:=G.held;have trs:=G.av.trs Zl he;have wS:∀b,S j b->¬ W b:=λb hb hb2=>by rcases G.fr b hb2 with q|q;exact(B.dom b hb).1 q;exact n0 b hb q
   refine Ld I2.fh r2 trs wS P λw r s' H3 S3 Zr hh dm O rr dz hf q=>?_;let#[st,I3,nw]:=vG I u hv N I2 hh dm O (λb hb=>hf b (.inl hb)) hw G.fr;have zr:∀b,Zr b->S j b∨W b∨l b=none:=λb hb=>hf b (.inr hb);refine k w F2 H3 _ _ r kb Zr st I3 #[rr,λ_ b hb=>?_,λz=>(by cases z),λ_ i sl e b hb z=>?_] q;rcases zr b hb with q|q|q
   ·exact .inr #[j,t,u,q]
   exact(G.fr b q).imp id (lock1U u);exact .inl (N.dm b q);rcases cA e with⟨rfl,_,_⟩| ⟨n,e⟩
   ·rw[YA]at z
    exact dz b hb z
   rw[oA (Q1 n)]at z;exact nw b (zr b hb) i sl (Q1 n) e z
   all_goals exact h.elim
  |_=>exact h.elim
theorem uB.dct{ws:LN}{F H x y:Hp}{S S1:Ft}{ρ h:kA}{σ:St}{Q:TK}{R:VK}(k:uB K ws F H S ρ σ Q R)(s:Ste F H S ρ x y S1 h)(I:Rl K x y S1 h σ){p:k4}(g:H p=kd)(m:x p=kd)(j:Held x y S1 h λb=>b=p){o:HO}{b:Bool}{ks:List D}{vs:LV}{ts:LT}{W:lB}(B:DK K x b o ks vs)(r:Trs K x y kb vs ts W)
  (fr:∀b,W b->H b=kd∨U ρ S b) (f:Held x y S1 h W) (a:¬ W p) (q:Q (.dct b ks ts) kb h):R (.ref p) (CA y p o):=by
 have Y:∀b u,H b=jr u->b≠p:=λb u e=>JA e g;have X:Ste F H S ρ x (CA y p o) S1 h:=#[#[s.ff,λb u e n=>by rw[xA (Y b u e)];exact s.hh b u e n,λb e=>s.dm b (JB b e),s.fn,s.uu,s.bo],s.ow]
 have C:Rl K x (CA y p o) S1 h σ:=#[λb u e=>by rw[xA λz=>by rw[z,m]at e;cases e];exact I.fh b u e,I.len,λi w e=>by let#[v,A,l]:=I.sl i w e;exact#[v,A,l.mono (.refl _) λb hb=>#[xA λz=>j.nw i w e b z hb,(l.dom b hb).2]],I.dj]
 refine k _ x _ S1 h _ kb (λb=>b=p∨W b) X C #[.dct pA B m (r.mono (.refl _) λb hb=>#[xA λz=>a (z▸hb),(f.dom b hb).2]) a (λb=>WJ),λ_ b hb=>?_,λz=>(by cases z),λ_ i w e b hb z=>?_] q;rcases hb with hb|hb
 ·exact .inl (hb▸g)
 exact fr b hb;rcases hb with hb|hb
 ·exact j.nw i w e b hb z
 exact f.nw i w e b hb z
theorem VR.strict{u y:Hp}{S1:Ft}{h:kA}{ws:LN}{v:V}{t:T}{n:Bool}(r:VR K ws H S ρ u y S1 h v t n Z)(e:RF t n=kb):∃W,Tr K u y kb v t W/\Held u y S1 h W/\∀b,W b->H b=kd∨U ρ S b:=by
 cases n with
 |true=>exact#[Z,r.tr,r.held,r.fr rfl]|false =>
  have w:=r.tr;cases t with
  |d x=>cases w with|d q _=>exact#[λ_=>False,.d q λ_ z=>z,.none,λ_ z=>z.elim]
  |_=>cases e
theorem eU{σ:St}(I:Rl K F H S ρ σ){p:k4}(h:H p=kd)(o:HO):Held F (CA H p o) S ρ λb=>b=p :=
 #[λb hb=>#[by rw[hb,pA];simp,by rw[hb];exact I.fh.free h],λi x e b hb z=>(I.dom e z).1 (by rw[hb];exact h)]
theorem DA(g:GOk K Γ Ψ):∀(p:PX),PSnd K Γ Ψ p
 | .var i=>#[Cf i,λI X h k=>RV (Γ:=Γ) (Ψ:=Ψ) (Cf i) I X h k,λI X _ h k=>h.elim]|.int i=>#[λI X h k=>uB.d k .refl I (.int i) h,λI X h k=>k _ _ _ _ _ .refl I h,λI X _ h k=>h.elim]|.str x=>#[λI X h k=>uB.d k .refl I (.str x) h,λI X h k=>h.elim,λI X _ h k=>h.elim]|.bl b=>#[λI X h k=>uB.d k .refl I (.bl b) h,λI X h k=>k _ _ _ _ _ .refl I h,λI X _ h k=>h.elim]|.non=>#[λI X h k=>uB.d k .refl I .non h,λI X h k=>k _ _ _ _ _ .refl I h,λI X _ h k=>h.elim]|.glo x=>.of_e (λ_ _ _=>rfl) (λ_ _ _ _=>rfl) (λ_=>rfl) λ{E L F H S ρ G Q R} I X h k=>by have h:(match Ψ.va x with|some d=>Q (.d d) kn ρ|none=>False):=h;split at h;rename_i d e;exact uB.d k .refl I (g.va x d e F) h;exact h.elim
 | .mv i=>.of_0 (λ_=>rfl) (λ_=>rfl) (Fw i)|.bty _ _=>#[λI X h k=>h.elim,λI X h k=>h.elim,λI X _ h k=>h.elim]|.bin op a b=>.of_e (λ_ _ _=>rfl) (λ_ _ _ _=>rfl) (λ_=>rfl) λ{E L F H S ρ G Q R} I X h k =>
  i5 (P:=λx n y m M=>binT op (gA x n).vw (gA y m).vw λz k=>Q z k M) (RR:=λx y H2=>xf K op x y H2 R) (DA g a) (DA g b) I X h λv w O N S' B x n y m Za Zb s C X' ra _ rb q=>gn s C ra rb q k
 | .cmp op a b=>.of_t (λ_ _ _=>rfl) (λ_ _ _ _=>rfl) (λ_=>rfl) λ{E L F H S ρ G Q R} I X h k =>
  i5 (P:=λx n y m M=>Oe op x.er (gA y m) λk=>Q k M) (RR:=λx y H2=>V9 K op x y H2 R) (DA g a) (DA g b) I X h λv w O N S' B x n y m Za Zb s C X' ra _ rb q =>
   Me C.fh (by have:=ra.rep C.fh;rwa [nZ]at this) rb q λc qc=>k c O N S' B s C qc
 | .and a b=>#[λ{E L F H S ρ G Q R} I X h k=>by
   refine(DA g a).e (Q:=λx _ A=>uf x.er λc=>if c=kb then(pe Ψ b E).e A Q else Q (.d (.bool kn)) kn A) (R:=λx J=>U4 x J λc H2=>if c=kb then(wp K Γ b L).e G H2 R else R (.bl kn) H2) I X h λv O N S' B x n Z s C r q=>?_;refine SX (r.tr.rep C.fh) q λc qc=>?_;cases c with|false=>exact uB.d k s C (.bl kn) qc|true=>exact(DA g b).e C (X.from s.toStp) qc ((k.from s).vars λi hi=>QU _ hi),
  λ{E L F H S ρ G Q R} I X h k=>by
   refine(DA g a).t (Q:=λc A=>if c=kb then(pe Ψ b E).t A Q else Q kn A) (R:=λc J=>if c=kb then(wp K Γ b L).t G J R else R kn J) I X h λc O N S' B s C qc=>?_;cases c with|false=>exact k _ O N S' B s C qc|true=>exact(DA g b).t C (X.from s.toStp) qc (GH.from k s),λI X _ h k=>h.elim]
 | .or a b=>#[λ{E L F H S ρ G Q R} I X h k=>by
   refine(DA g a).e (Q:=λx _ A=>uf x.er λc=>if c=kb then Q (.d (.bool kb)) kn A else(pe Ψ b E).e A Q) (R:=λx J=>U4 x J λc H2=>if c=kb then R (.bl kb) H2 else(wp K Γ b L).e G H2 R) I X h λv O N S' B x n Z s C r q=>?_;refine SX (r.tr.rep C.fh) q λc qc=>?_;cases c with|true=>exact uB.d k s C (.bl kb) qc|false=>exact(DA g b).e C (X.from s.toStp) qc ((k.from s).vars λi hi=>QU _ hi),
  λ{E L F H S ρ G Q R} I X h k=>by
   refine(DA g a).t (Q:=λc A=>if c=kb then Q kb A else(pe Ψ b E).t A Q) (R:=λc J=>if c=kb then R kb J else(wp K Γ b L).t G J R) I X h λc O N S' B s C qc=>?_;cases c with|true=>exact k _ O N S' B s C qc|false=>exact(DA g b).t C (X.from s.toStp) qc (GH.from k s),λI X _ h k=>h.elim]
 | .not a=>#[λ{E L F H S ρ G Q R} I X h k=>by
   refine(DA g a).e (Q:=λx _ A=>sI x.er λc=>Q (.d (.bool (!c))) kn A) (R:=λx J=>OF K x J λc H2=>R (.bl (!c)) H2) I X h λv O N S' B x n Z s C r q=>?_;exact lY (r.tr.rep C.fh) q λc qc=>uB.d k s C (.bl _) qc,
  λ{E L F H S ρ G Q R} I X h k=>(DA g a).t (Q:=λc A=>Q (!c) A) (R:=λc J=>R (!c) J) I X h λc O N S' B s C qc=>k _ O N S' B s C qc,λI X _ h k=>h.elim]
 | .ife c a b=>.of_0 (λ_=>rfl) (λ_=>rfl) λ{E L F H S ρ G Q R} I X h k=>by
  refine(DA g c).t (Q:=λk A=>if k=kb then(pe Ψ a E).e A Q else(pe Ψ b E).e A Q) (R:=λk J=>if k=kb then(wp K Γ a L).e G J R else(wp K Γ b L).e G J R) I X h λc O N S' B s C qc=>?_;cases c with|true=>exact(DA g a).e C (X.from s.toStp) qc ((k.from s).vars λi hi=>Qn _ hi)|false=>exact(DA g b).e C (X.from s.toStp) qc ((k.from s).vars λi hi=>QU _ hi)
 | .call f as=>.of_e (λ_ _ _=>rfl) (λ_ _ _ _=>rfl) (λ_=>rfl) λ{E L F H S ρ G Q R} I X h k=>XZ g (DA g as) I X h k|.isi a c=>by
  have key:∀{E:XE}{L:XK}{F H:Hp}{S:Ft}{ρ:kA}{G:St}{Q:Bool->kA->Prop}{R:VK},Rl K F H S ρ G->ND K F H S ρ E L->(pe Ψ (.isi a c) E).t ρ Q->GH K F H S ρ G Q (λb=>R (.bl b))->(wp K Γ (.isi a c) L).e G H R:=by
   intro E L F H S ρ G Q R I X h k;refine(DA g a).e (Q:=λx _ A=>am c x.er λb=>Q b A) I X h λv O N S' B x n Z s C r q=>?_;cases c with|bty z n=>let#[b,h1,h2,q]:=q;exact om (r.tr.rep C.fh) h1 h2 (k b O N S' B s C q)|_=>exact q.elim
  refine#[λI X h k=>key I X h λb O N S' B s C q=>uB.d k s C (.bl b) q,λ{E L F H S ρ G Q R} I X h k=>?_,λI X _ h k=>h.elim];exact key (R:=λv J=>OF K v J R) I X h λb O N S' B s C q=>k b O N S' B s C q
 | .bi f as=>.of_e (λ_ _ _=>rfl) (λ_ _ _ _=>rfl) (λ_=>rfl) λ{E L F H S ρ G Q R} I X h k =>
  TX (P:=λxs A=>x4 f (AB xs) λz k=>Q z k A) (RR:=λvs J=>gt K f vs J R) (DA g as) I X h λvs O N S' B xs Y s C X' tn _ q=>by rw[uM _ rfl]at q;exact Bn s C tn q k
 | .mt m o as=>.of_e (λ_ _ _=>rfl) (λ_ _ _ _=>rfl) (λ_=>rfl) (Gw (DA g o) (DA g as))|.idx a b=>by
  have he:yY K Γ Ψ (.idx a b):=λ{E L F H S ρ G Q R} I X h k =>
   i5 (P:=λx n y m M=>(XO (gA x n).vw (gA y m).vw λz=>Q z kn M)∨(UU (gA x n).vw y.er λz=>Q z kn M)) (RR:=λx y H2=>dW K x y H2 R) (DA g a) (DA g b) I X h λv w O N S' B x n y m Za Zb s C X' ra za rb q=>by rcases q with q|q;exact im s C ra za rb q k;exact Om s C ra za (by have:=rb.rep C.fh;rwa [nZ]at this) q k
  exact#[he,λI X h k=>RV he I X h k,λI X _ h k=>h.elim]
 | .slc a lo hi=>.of_0 (λ_=>rfl) (λ_=>rfl) λ{E L F H S ρ G Q R} I X h k=>by
  have part:∀(p:PX),PSnd K Γ Ψ p->∀{F H:Hp}{S:Ft}{ρ:kA}{x:T}{P:Option Int->kA->Prop}{RP:Option Int->Hp->Prop},Rl K F H S ρ G->ND K F H S ρ E L ->
    sq (α:=Option Int) x ρ (if isNop p=kb then λρ (R:Option Int->kA->Prop)=>R kd ρ else λρ R=>(pe Ψ p E).e ρ λl _ M=>fG l.er λo=>R o M) P ->
    (∀o O N S' B,Ste F H S ρ O N S' B->Rl K O N S' B G->(∀st v Zx,Tr K F H st v x Zx->Tr K O N st v x Zx)->P o B->RP o N) ->
    (if isNop p=kb then λ(R:Option Int->Hp->Prop)=>R kd H else λR=>(wp K Γ p L).e G H λl H2=>kN l H2 R) RP:=by
   intro p ip F H S ρ x P RP I X h k;cases hn:isNop p with
   |true=>simp only[hn,if_true]at h ⊢;refine k kd F H S ρ .refl I (λ_ _ _ r=>r) ?_;unfold sq at h;split at h<;>exact h|false =>
    simp only[hn,Qu,if_false]at h ⊢;have h2:sq x ρ (cu (pe Ψ p E).e) λy B=>fG y.1.er λo=>P o B:=by unfold sq at h ⊢;exact h
    refine Op ip I X h2 λw O N S' B y m Z s C kp _ r q=>Cc (r.tr.rep C.fh) q λo qo=>k o O N S' B s C kp qo
  refine yE (DA g a) I X h λv F1 J S1 A x n Za s1 I1 X1 r1 _ z1 h1=>?_;refine part lo (DA g lo) I1 X1 h1 λl F2 H2 S2 M s2 I2 k2 h2=>?_;refine part hi (DA g hi) I2 (X1.from s2.toStp) h2 λu F3 H3 S3 ρ3 s3 I3 k3 h3=>?_;exact fj (s1.trans (s2.trans s3)) I3 (k3 _ _ _ (k2 _ _ _ r1)) h3 k
 | .nop=>#[λI X h k=>h.elim,λI X h k=>h.elim,λI X _ h k=>h.elim]|.lst as=>.of_0 (λ_=>rfl) (λ_=>rfl) λ{E L F H S ρ G Q R} I X h k=>by refine(DA g as).a (md:=[]) (R:=λxs J=>xs.9<=ku/\∀p,J p=kd->R (.ref p) (CA J p (.lst xs))) I X (λj hj=>by cases as<;>cases hj) h λvs O N S' B xs W Y s C r _ q=>?_;exact#[by rw[r.av.9];exact q.2.1,λp hp=>uB.list k s C hp (r.av.trs Zl q.1) r.fr r.held q.2.2]|.tup as=>.of_0 (λ_=>rfl) (λ_=>rfl) λ{E L F H S ρ G Q R} I X h k=>by refine(DA g as).a (md:=[]) (R:=λxs J=>xs.9<=ku/\∀p,J p=kd->R (.ref p) (CA J p (.tup xs))) I X (λj hj=>by cases as<;>cases hj) h λvs O N S' B xs W Y s C r _ q=>?_;exact#[by rw[r.av.9];exact q.2.1,λp hp=>uB.tup k s C hp (r.av.trs Zl q.1) r.fr r.held q.2.2]|.comp mask tgs tg ik its cond elt=>.of_0 (λ_=>rfl) (λ_=>rfl) λ{E L F H S ρ G Q R} I X h k=>by
  refine TX (RR:=λvs J=>uC K ik vs J λxs st H2=>LZ K xs st tg (if isNop cond=kb then λ_ H Q=>Q kb H else(wp K Γ cond (λ_ _ _=>False)).t) (wp K Γ elt (λ_ _ _=>False)).e (nJ tgs.9 mask G) H2 R) (DA g its) I X h λvs F1 J S1 A xs Y s1 I1 X1 tn tm q1=>?_;rw[uM _ rfl]at q1;refine vK I1.fh tn q1 λxs ys st pr hst hc=>?_;refine J9 (us:=TF elt) ?_ ?_ s1 I1 pr (λb hb=>?_) hst hc k;intro F H S ρ G Q R I h k;cases hn:isNop cond with|true=>simp only[hn,if_true]at h ⊢;exact k kb F H S ρ .refl I h|false=>simp only[hn,Qu,if_false]at h ⊢;exact(DA g cond).t I ND.never h k
  intro F H S ρ G Q R I h k;exact(DA g elt).e I ND.never h k;let#[i,sl,_,h2,h3]:=tm b hb;exact I1.dom h2 h3
 | .ng i=>.of_0 (λ_=>rfl) (λ_=>rfl) λI X h k=>uB.d k .refl I (.int _) h|.lrv a=>.of_0 (λ_=>rfl) (λ_=>rfl) λ{E L F H S ρ G Q R} I X h k =>
  yE (P:=λx n A=>Sb (gA x n).vw λz k=>Q z k A) (RR:=λx J=>cW K x J R) (DA g a) I X h λv O N S' B x n Z s C _ r _ _ #[us,ds,e,hb,q]=>by let#[p,xs,_,rfl,hp,rp,_]:=r.ls C.fh e;exact#[p,xs,rfl,hp,λl hl=>k.listD s C hl (rp.un hb).1.reverse q]
 | .dnew b=>.of_0 (λ_=>rfl) (λ_=>rfl) λ{E L F H S ρ G Q R} I X h k=>by
  intro p hp;have hh:=eU I hp (.dT 0 []);have e:=uB.dct (o:=.dT 0 []) (b:=b) (ks:=[]) (vs:=[]) (ts:=[]) (W:=λ_=>False) k (Ste.refl.new hp (.dT 0 [])) (I.new hp _) hp (I.fh.free hp) hh ?_ (.nil λ_ z=>z) (λ_ z=>z.elim) .none (λz=>z) h;rw[Yb]at e;exact e;cases b with
  |true=>exact#[0,[],rfl,rfl,rfl,λ_ z=>(nomatch z),Q4]
  |false=>exact .inr #[0,rfl,rfl,rfl]
 | .dsp a b=>.of_0 (λ_=>rfl) (λ_=>rfl) λ{E L F H S ρ G Q R} I X h k=>by
  intro p hp;have hh:=eU I hp (.dT 0 []);have s0:Ste F H S ρ F (CA H p (.dT 0 [])) S ρ:=Ste.refl.new hp _;refine yE (DA g a) (I.new hp _) (X.from s0.toStp) h λy F1 J S1 A x n Z s1 I1 X1 _ er _ #[he,q1]=>?_;have hh1:=hh.step s1.toStp I1;have ry:=er he;refine(DA g b).e I1 X1 q1 λv F2 H2 S2 M t m Zb s2 I2 r2 q2=>?_;have hh2:=hh1.step s2.toStp I2;let#[he2,hk,q2]:=q2;let#[W,rw,hw,frw]:=(r2.from s1.toStp).strict he2;have hp2:H2 p=jr (.dT 0 []):=s2.hh p _ (s1.hh p _ pA (hh.nu p rfl)) (hh1.nu p rfl);have np:¬ W p:=λz=>by rcases frw p z with q|q;rw[pA]at q;cases q;exact hh.nu p rfl q
  have ry2:=ry.mono s2.ff;refine#[hp2,?_];generalize x.er=d at hk ry2 q2;cases UR hk ry2 with|intro ks hh=>let#[c,rfl,rfl,hq]:=hh;refine#[c,ks,rfl,I2.fh.key hq,λep=>?_];exact uB.dct (o:=.dT ep [(ks,c,v)]) (b:=kb) (vs:=[v]) (ts:=[t]) k (s0.trans (s1.trans s2)) I2 hp (hh2.dom p rfl).2 hh2 #[ep,_,rfl,rfl,rfl,λz hz=>by rw[QJ.mp hz];exact hq,by simp] (Trs.one rw) (λb hb=>by rcases frw b hb with q|q;exact .inl (JB b q);exact .inr q) hw np q2
 | .anil=>#[λI X h k=>h.elim,λI X h k=>h.elim,λ{E L F H S ρ G md Q R} I X _ h k=>k [] F H S ρ [] (λ_=>False) (λ_=>False) .refl I #[.nil λ_ z=>z,λ_ z=>z.elim,λ_ z=>z.elim,λ_ _ _ _ z=>z.elim] (by cases md with|nil=>rfl|cons m r=>cases m<;>rfl) h]
 | .acons a as=>#[λI X h k=>h.elim,λI X h k=>h.elim,λ{E L F H S ρ G md Q R} I X hm h k=>by
  show(wp K Γ a L).e G H λx J=>(wp K Γ as L).a G J λxs H2=>R (x::xs) H2;have vr2:∀i∈TF as,i∈TF (.acons a as):=λi hi=>QU _ hi;cases hmd:(md.headD .fro).isMut with
  |true =>
   have h2:F8 a=kb/\(pe Ψ as E).a md.tail ρ λxs A=>Q ((.d .none,kb)::xs) A:=by have h3:(if(md.headD .fro).isMut=kb then _ else _):=h;rw[hmd,oa rfl]at h3;exact h3
   obtain⟨m,md',rfl⟩:∃m md',md=m::md':=by
    cases md with|nil=>cases hmd|cons m md'=>exact#[m,md',rfl]
   have em:m=.chg:=by have hmd:m.isMut=true:=hmd;cases m<;>first|rfl|cases hmd
   subst em;cases a with
   |var j=>let#[v,hv]:=hm j (show j∈j::bA md' as from QE);show(match G[j]? with|some (jr v)=>_|_=>False);rw[hv];refine(DA g as).a I X (λi hi=>hm i (QF _ hi)) h2.2 λvs O N S' B xs W Y s C r mv q=>?_;refine k (v::vs) O N S' B _ W Y s C #[.chg hmd r.av,r.fr,(r.vars vr2).tm,r.nw] ?_ q;show(jr (jr v))::(sB md' vs).map _=G[j]?::(bA md' as).map _;have mv:(sB md' vs).map (λv=>jr (jr v))=(bA md' as).map (λj=>G[j]?):=mv;rw[hv,mv]
   |_=>exact o2 h2.1 (by simp[F8])
  |false =>
   have h2:(pe Ψ a E).e ρ λx n A=>sq (α:=List (T×Bool)) (if n=kb then .d .none else x) A ((pe Ψ as E).a md.tail) λxs M=>Q ((x,n)::xs) M:=by have h3:(if(md.headD .fro).isMut=kb then _ else _):=h;rw[hmd,ot (by simp)]at h3;exact h3
   have hroots:bA md (.acons a as)=bA md.tail as:=by
    cases md with|nil=>cases as<;>rfl|cons m md'=>have hmd:m.isMut=false:=hmd;cases m<;>first|rfl|cases hmd
   have hmv:∀v vs,sB md (v::vs)=sB md.tail vs:=λv vs=>by unfold sB;generalize md.headD .fro=m at hmd;cases m<;>first | (cases vs<;>rfl)|cases hmd
   refine(DA g a).e I X h2 λv F1 J S1 A x n Z s1 I1 r1 q1=>?_;refine Pp (DA g as) I1 (X.from s1.toStp) (λi hi=>hm i (by rw[hroots];exact hi)) q1 λvs F2 H2 S2 M xs W Y s2 I2 kp hs r2 mv q2=>?_;have s12:=s1.trans s2;have r2':=(r2.from s1.toStp).vars vr2;have mv':(sB md (v::vs)).map (λv=>jr (jr v))=(bA md (.acons a as)).map (λj=>G[j]?):=by rw[hroots,hmv];exact mv
   cases n with
   |true =>
    have hd:=r1.held;have hd2:=hd.step s2.toStp I2;refine k (v::vs) F2 H2 S2 M _ (λb=>Z b∨W b) Y s12 I2 #[.new hmd (s2.toStp.keep r1.tr hd.nu) r2.av (λb hb hw=>?_) λb=>WJ,λb hb=>?_,r2'.tm,λi sl e b hb=>?_] mv' q2;rcases r2.fr b hw with q|q
    ·exact(hd.dom b hb).1 q
    exact hd.nu b hb q;rcases hb with hb|hb
    ·exact r1.fr rfl b hb
    exact r2'.fr b hb;rcases hb with hb|hb
    ·exact hd2.nw i sl e b hb
    exact r2.nw i sl e b hb
   |false =>
    have za:∀b,Z b->∃(i:Nat) (s:Sl),i∈TF a/\M[i]?=jr (jr s)/\S2 i b:=by
     cases hd:x.isD with
     |true =>
      intro b hb;exfalso;have tr:=r1.tr;cases x with
      |d x=>cases tr with|d r n=>exact n b hb
      |_=>cases hd
     |false=>let#[e1,e2]:=hs hd;rw[e1,e2];exact r1.tm rfl
    refine k (v::vs) F2 H2 S2 M _ W (λb=>Z b∨Y b) s12 I2 #[.tmp hmd (kp _ _ _ r1.tr) (λb hb=>.inl hb) (r2.av.sub λb hb=>.inr hb),r2'.fr,λb hb=>?_,r2.nw] mv' q2;rcases hb with hb|hb;let#[i,sl,h1,h2]:=za b hb;exact#[i,sl,Qn _ h1,h2];exact r2'.tm b hb]
end
end
structure Sts(C J:LN)(F H:Hp)(S:Ft)(ρ:kA)(σ:St)(F' H':Hp)(S':Ft)(ρ':kA)(σ':St):Prop where
 ff:Same F F'
 hh:∀b u,H b=jr u->¬ U ρ S b->H' b=jr u
 dm:∀b,H' b=kd->H b=kd
 fn:∀b,F b=kd->F' b≠kd->U ρ S b∨H b=kd
 uu:∀b,U ρ' S' b->U ρ S b∨H b=kd
 bo:∀(j:Nat) t,j∉J->ρ'[j]?=jr (jr (.bor t))->t.isD=kn->ρ[j]?=jr (jr (.bor t))/\S' j=S j/\σ'[j]?=σ[j]?
 sg:∀j∈C,σ'[j]?=σ[j]?
structure Stc(C:LN)(F H:Hp)(S:Ft)(ρ:kA)(σ:St)(F' H':Hp)(S':Ft)(ρ':kA)(σ':St):Prop where
 ff:Same F F'
 hh:∀b u,H b=jr u->¬ U ρ S b->H' b=jr u
 dm:∀b,H' b=kd->H b=kd
 fn:∀b,F b=kd->F' b≠kd->U ρ S b∨H b=kd
 uu:∀b,U ρ' S' b->U ρ S b∨H b=kd
 sg:∀j∈C,σ'[j]?=σ[j]?
section
variable{K:QC}{Γ:Ev}{Ψ:PEv}{E:XE}{M:XK}{F H p X B L:Hp}{S S1 G:Ft}{ρ y Y:kA}{σ g A:St}{C J:LN}
section
variable{t:T}{Z:lB}{i:Nat}
theorem Stp.sts(s:Stp F H S ρ p X S1 y):Sts C J F H S ρ σ p X S1 y σ:=#[s.ff,s.hh,s.dm,s.fn,s.uu,λj t _ e h=>let#[z,x]:=s.bo j t e h;#[z,x,rfl],λ_ _=>rfl]
theorem Sts.refl:Sts C J F H S ρ σ F H S ρ σ:=Stp.refl.sts
theorem Sts.trans(a:Sts C J F H S ρ σ p X S1 y g)(b:Sts C [] p X S1 y g B L G Y A):Sts C J F H S ρ σ B L G Y A where
 ff:=a.ff.trans b.ff
 hh:=λx u h n=>b.hh x u (a.hh x u h n) λz=>by rcases a.uu x z with q|q;exact n q;rw[q]at h;cases h
 dm:=λx h=>a.dm x (b.dm x h)
 fn:=λx h z=>by
  by_cases q:p x=kd;rcases b.fn x q z with w|w
  ·exact a.uu x w
  exact .inr (a.dm x w);exact a.fn x h q
 uu:=λx h=>by rcases b.uu x h with w|w;exact a.uu x w;exact .inr (a.dm x w)
 bo:=λj t v h n=>by let#[o,m,l]:=b.bo j t (by simp) h n;let#[f,e,k]:=a.bo j t v o n;exact#[f,m.trans e,l.trans k]
 sg:=λj v=>(b.sg j v).trans (a.sg j v)
theorem Sts.c(s:Sts C J F H S ρ σ p X S1 y g):Stc C F H S ρ σ p X S1 y g:=#[s.ff,s.hh,s.dm,s.fn,s.uu,s.sg]
theorem Stc.trans(a:Stc C F H S ρ σ p X S1 y g)(b:Stc C p X S1 y g B L G Y A):Stc C F H S ρ σ B L G Y A where
 ff:=a.ff.trans b.ff
 hh:=λx u h n=>b.hh x u (a.hh x u h n) λz=>by rcases a.uu x z with q|q;exact n q;rw[q]at h;cases h
 dm:=λx h=>a.dm x (b.dm x h)
 fn:=λx h z=>by
  by_cases q:p x=kd;rcases b.fn x q z with w|w
  ·exact a.uu x w
  exact .inr (a.dm x w);exact a.fn x h q
 uu:=λx h=>by rcases b.uu x h with w|w;exact a.uu x w;exact .inr (a.dm x w)
 sg:=λj v=>(b.sg j v).trans (a.sg j v)
theorem ND.fromS(h:ND K F H S ρ E M)(s:Sts C J F H S ρ σ p X S1 y g):ND K p X S1 y E M:=λx k B L G Y v f r q =>
 h x k B L (λ_ _=>False) [] #[s.ff.trans v.ff,λb u e n=>v.hh b u (s.hh b u e n) (λz=>(s.uu b z).elim n λw=>(by rw[w]at e;cases e)),λb e=>s.dm b (v.dm b e),λb e z=>by
  by_cases q:p b=kd;rcases v.fn b q z with w|w
  ·exact s.uu b w
  exact .inr (s.dm b w);exact s.fn b e q,λb #[i,t,e,_]=>by simp at e,λj t e=>by simp at e] f r q
structure EndsOk(K:QC)(C:LN)(F H:Hp)(S:Ft)(ρ:kA)(σ:St)(Z:PEnds)(Dn:Ends):Prop where
 nx:∀F' H' S' ρ' σ',Sts C [] F H S ρ σ F' H' S' ρ' σ'->Rl K F' H' S' ρ' σ'->Z.nx ρ'->Dn.nx σ' H'
 rt:∀v t W F' H' S' ρ' σ',Stc C F H S ρ σ F' H' S' ρ' σ'->Rl K F' H' S' ρ' σ'->Tr K F' H' kb v t W->Held F' H' S' ρ' W->(∀b,W b->H b=kd∨U ρ S b)->Z.rt t ρ'->Dn.rt v H'
 bk:∀F' H' S' ρ' σ',Sts C [] F H S ρ σ F' H' S' ρ' σ'->Rl K F' H' S' ρ' σ'->Z.bk ρ'->Dn.bk σ' H'
 ct:∀F' H' S' ρ' σ',Sts C [] F H S ρ σ F' H' S' ρ' σ'->Rl K F' H' S' ρ' σ'->Z.ct ρ'->Dn.ct σ' H'
theorem Px(s:Sts C J F H S ρ σ p X S1 y g){W:lB}(fr:∀b,W b->X b=kd∨U y S1 b):∀b,W b->H b=kd∨U ρ S b:=λb hb=>by rcases fr b hb with q|q;exact .inl (s.dm b q);exact(s.uu b q).symm
theorem EndsOk.from{Z:PEnds}{Dn:Ends}(ok:EndsOk K C F H S ρ σ Z Dn)(s:Sts C [] F H S ρ σ p X S1 y g):EndsOk K C p X S1 y g Z Dn :=
 #[λa k w z x u I q=>ok.nx a k w z x (s.trans u) I q,λv t W a k w z x u I r h fr q=>ok.rt v t W a k w z x (s.c.trans u) I r h (Px s fr) q,
  λa k w z x u I q=>ok.bk a k w z x (s.trans u) I q,λa k w z x u I q=>ok.ct a k w z x (s.trans u) I q]
theorem Sts.setD(s:Sts C J F H S ρ σ p X S1 y g)(i:Nat)(a:i∉C)(v:V)(k:t.isD=kb)(Z:lB):Sts C J F H S ρ σ p X (MF S1 i Z) (y.set i (jr (.bor t))) (g.set i (jr v)) :=
 #[s.ff,s.hh,s.dm,s.fn,λb #[j,u,z,w]=>by
  rcases cA z with⟨_,e,_⟩| ⟨n,z⟩
  cases e;rw[oA (Q1 n)]at w;exact s.uu b #[j,u,z,w],
 λj u h e x=>by
  rcases cA e with⟨_,e,_⟩| ⟨n,e⟩
  injection e with e;injection e with e;subst e;rw[k]at x;cases x;rw[oA (Q1 n),EB n];exact s.bo j u h e x,
 λj h=>by have n:i≠j:=λe=>a (e▸h);rw[EB n];exact s.sg j h]
theorem Rl.setD(I:Rl K F H S ρ σ)(i:Nat){v:V}{x:D}(r:Rep K F v x):Rl K F H (MF S i λ_=>False) (ρ.set i (bD x)) (σ.set i (jr v)) :=
 I.setB i (.d r λ_ z=>z) λ_ _ _ _ _ z=>z.elim
theorem Rl.setN(I:Rl K F H S ρ σ)(i:Nat){v:V}(r:Tr K F H kb v t Z)(w:∀(j:Nat) s,j≠i->ρ[j]?=jr (jr s)->∀b,Z b->¬ S j b):Rl K F H (MF S i Z) (ρ.set i (jr (.own t))) (σ.set i (jr v)) where
 fh:=I.fh
 len:=by simpa using I.len
 sl:=λj s h=>by
  rcases cA h with⟨rfl,e,hl⟩| ⟨a,h⟩
  cases e;exact#[v,CI (by rw[<- I.len];exact hl),by rw[YA];exact r];rw[EB a,oA (Q1 a)];exact I.sl j s h
 dj:=λj k f s n u x b hb hk=>by
  rcases cA u with⟨e,_,_⟩| ⟨l,u⟩
  subst e;rw[YA]at hb;rcases cA x with⟨e,_,_⟩| ⟨z,x⟩
  exact n e;rw[oA (Q1 z)]at hk;exact w k s (Q1 z) x b hb hk;rw[oA (Q1 l)]at hb;rcases cA x with⟨e,_,_⟩| ⟨z,x⟩
  subst e;rw[YA]at hk;exact w j _ n u b hk hb;rw[oA (Q1 z)]at hk;exact I.dj j k f s n u x b hb hk
theorem Sts.setN(s:Sts C J F H S ρ σ p X S1 y g)(i:Nat)(w:i∉C)(v:V)(t:T)(fr:∀b,Z b->H b=kd∨U ρ S b):Sts C J F H S ρ σ p X (MF S1 i Z) (y.set i (jr (.own t))) (g.set i (jr v)) :=
 #[s.ff,s.hh,s.dm,s.fn,λb #[j,u,z,x]=>by
  rcases cA z with⟨rfl,_,_⟩| ⟨n,z⟩
  rw[YA]at x;exact(fr b x).symm;rw[oA (Q1 n)]at x;exact s.uu b #[j,u,z,x],
 λj u h e k=>by
  rcases cA e with⟨_,e,_⟩| ⟨n,e⟩
  cases e;rw[oA (Q1 n),EB n];exact s.bo j u h e k,
 λj h=>by have n:i≠j:=λe=>w (e▸h);rw[EB n];exact s.sg j h]
theorem lP:∀(u:LN) (ds:List D) {ρ x:kA},eB u (ds.map T.d) ρ=jr x->∀(j:Nat) t,x[j]?=jr (jr (.bor t))->t.isD=kn->j∉u/\ρ[j]?=jr (jr (.bor t))
 |[],[],ρ,x,h,j,t,e,hd=>by simp only[wT,eB,Qq]at h;subst h;exact#[(by simp),e]|[],_::_,_,_,h,_,_,_,_=>by simp[eB]at h|_::_,[],_,_,h,_,_,_,_=>by simp[eB]at h|i::u,d::ds,ρ,x,h,j,t,e,hd=>by
  simp only[QT,eB]at h;let#[w,v]:=lP u ds h j t e hd;rcases cA v with⟨_,q,_⟩| ⟨n,q⟩
  injection q with q;injection q with q;subst q;cases hd;exact#[λm=>(QL.mp m).elim (λz=>n z.symm) w,q]
theorem Rl.frz1(I:Rl K F H S ρ σ)(h:ρ[i]?=jr (jr (.own t))):Rl K (dJ F H (S i)) H (MF S i λ_=>False) (ρ.set i (bD t.er)) σ/\Sts C [] F H S ρ σ (dJ F H (S i)) H (MF S i λ_=>False) (ρ.set i (bD t.er)) σ:=by
 let#[v,hv,r]:=I.sl i _ h;have k:=bH (H:=H) λb (hb:S i b)=>(r.dom b hb).2;have O:Rl K F H S (ρ.set i kd) σ:=I.drop (by simp) λj s e=>by
  rcases cA e with⟨_,z,_⟩| ⟨_,e⟩
  cases z;exact e
 have l:Held F H S (ρ.set i kd) (S i):=#[r.dom,λj s e b hb z=>by
  rcases cA e with⟨_,q,_⟩| ⟨n,e⟩
  cases q;exact I.dj i j t s n h e b hb z]
 have N:=O.frz l;have f:Rep K (dJ F H (S i)) v t.er:=Tr.kept k r λb u hb e=>by rw[uH hb];exact e
 have a:=N.setD i f;have W:(ρ.set i kd).set i (bD t.er)=ρ.set i (bD t.er):=by simp
 have o:σ.set i (jr v)=σ:=by apply qw;intro j;rw[wN];split;rename_i e;subst e;split;exact hv.symm;rename_i n;rw[Q2 ()];rfl
 rw[W,o]at a;refine#[a,#[k,λb u e _=>e,λb e=>e,λb e z=>.inl ?_,λb #[j,u,x,w]=>.inl ?_,λj u _ e m=>?_,λ_ _=>rfl]];by_cases hb:S i b
 ·exact#[i,t,h,hb]
 rw[pC hb]at z;exact o2 e z;rcases cA x with⟨_,q,_⟩| ⟨n,x⟩
 ·cases q
 rw[oA (Q1 n)]at w;exact#[j,u,x,w];rcases cA e with⟨_,q,_⟩| ⟨n,e⟩
 ·injection q with q;injection q with q;subst q;cases m
 exact#[e,oA (Q1 n),rfl]
theorem B2{f:Option Sl->Option Sl}:ρ.modify i f=match ρ[i]? with|some o=>ρ.set i (f o)|none=>ρ:=by
 apply qw;intro j;rw[WK];cases h:ρ[i]? with|none=>simp only;by_cases e:i=j;subst e;simp[h];simp[e]|some o=>simp only;rw[wN];by_cases e:i=j;subst e;let#[hl,rfl]:=Qg.mp h;simp[hl];simp[e]
theorem vT{α:Type}{l:List α}{o:α}(h:l[i]?=jr o):l.set i o=l:=by apply qw;intro j;rw[wN];split;rename_i e;subst e;rw[oa (Qg.mp h).1,h];rfl
theorem Rl.frzAt:∀(x:LN) {F:Hp}{S:Ft}{ρ:kA},Rl K F H S ρ σ->∃w S',Rl K w H S' (frzAt x ρ) σ/\Sts C [] F H S ρ σ w H S' (frzAt x ρ) σ/\∀i∈x,∀t,ρ[i]?=jr (jr (.own t))->∀b,S i b->w b=H b
 |[],F,S,ρ,I=>#[F,S,I,.refl,λ_ h=>by cases h]|i::x,F,S,ρ,I=>by
  have one:∃p S1,Rl K p H S1 (ρ.modify i gX) σ/\Sts C [] F H S ρ σ p H S1 (ρ.modify i gX) σ/\(∀t,ρ[i]?=jr (jr (.own t))->∀b,S i b->p b=H b)/\∀j,j≠i->S1 j=S j:=by
   rw[B2];cases h:ρ[i]? with
   |none=>exact#[F,S,I,.refl,λ_ z=>(by cases z),λ_ _=>rfl]|some o =>
    cases o with
    |none=>have e:ρ.set i (gX kd)=ρ:=vT h;simp only[e];exact#[F,S,I,.refl,λ_ z=>(by cases z),λ_ _=>rfl]|some m =>
     cases m with|bor t=>have e:ρ.set i (gX (jr (.bor t)))=ρ:=vT h;simp only[e];exact#[F,S,I,.refl,λ_ z=>(by cases z),λ_ _=>rfl]|own t=>let#[a,b]:=I.frz1 (C:=C) h;exact#[_,_,a,b,λ_ _ b hb=>uH hb,λj v=>oA v]
  let#[p,S1,W,n,r,l]:=one;let#[B,G,s,k,q]:=Rl.frzAt x W;refine#[B,G,s,n.trans k,λj v t e b hb=>?_];by_cases c:j=i;subst c;have:=r t e b hb;let#[d,_]:=I.dom e hb;cases f:H b with|none=>exact o2 f d|some u=>exact k.ff b u (this.trans f)
  refine q j ((QL.mp v).resolve_left c) t ?_ b (by rw[l j c];exact hb);rw[WK,e];show jr (if i=j then _ else _)=_;rw[ot (Q1 c)]
end
end
section
variable{K:QC}{Γ:Ev}{Ψ:PEv}{E:XE}{EK:XK}{F H F1 O F2 H2:Hp}{S S1 S2:Ft}{ρ M ρ2:kA}{σ σ1 σ2:St}{C J:LN}
theorem Sts.bind{L:LN}(s:Sts C J F H S ρ σ F1 O S1 M σ1)(b:Bd L F1 O S1 M σ1 F2 H2 S2 ρ2 σ2)(v:∀j∈L,j∈J)(w:∀j∈L,j∉C):Sts C J F H S ρ σ F2 H2 S2 ρ2 σ2 :=
 #[s.ff.trans b.ff,λx u e n=>b.hh x u (s.hh x u e n),λx e=>s.dm x (b.dm x e),λx e z=>by
  by_cases q:F1 x=kd;exact .inr (s.dm x (b.fn x q z));exact s.fn x e q,λx u=>s.uu x (b.U u),λj t h e y=>by
  let#[l,i,g]:=b.out j λz=>h (v j z);rw[l]at e;let#[f,a,k]:=s.bo j t h e y;exact#[f,i.trans a,g.trans k],λj h=>(b.out j λz=>w j z h).2.2.trans (s.sg j h)]
theorem pZ{f:Tg}{body:PEnds->kA->Prop}{tb:TS}{Z:PEnds}{Dn:Ends}{xs:List Item}{l:LT}{st:Hp->Prop}{Y:lB}
  (ib:∀{F H:Hp}{S:Ft}{ρ:kA}{σ:St}{Z:PEnds}{Dn:Ends},Rl K F H S ρ σ->ND K F H S ρ E EK->body Z ρ->EndsOk K C F H S ρ σ Z Dn->tb Dn σ H)
  (I:Rl K F H S ρ σ) (X:ND K F H S ρ E EK) (hC:∀j∈f.ix,j∉C) (pr:y1 (J4 K F H Y) xs l) (Q:∀b,Y b->¬ U ρ S b/\H b≠kd/\F b=kd) (R:∀k w,Same F k->Same k w->(∀b,Y b->w b=H b)->st w) (h:zI body f Z l ρ)
  (G:∀k w S' z σ',Sts C f.ix F H S ρ σ k w S' z σ'->Rl K k w S' z σ'->Z.nx z->Dn.nx σ' w)
  (N:∀v t W k w S' z σ',Stc C F H S ρ σ k w S' z σ'->Rl K k w S' z σ'->Tr K k w kb v t W->Held k w S' z W->(∀b,W b->H b=kd∨U ρ S b)->Z.rt t z->Dn.rt v w):Zf K xs st f tb Dn σ H:=by
 intro J hJ;have len:=qM pr;have yk:∀{F1 O:Hp}{S1:Ft}{M:kA}{σ1:St},Sts C f.ix F H S ρ σ F1 O S1 M σ1->∀b,Y b->O b=H b/\F1 b=none:=λ{F1 O S1 M σ1} s b hb=>by
  let#[n,d1,d2]:=Q b hb;refine#[?_,?_];cases e:H b with|none=>exact o2 e d1|some u=>exact s.hh b u e n
  by_cases q:F1 b=kd
  ·exact q
  exact((s.fn b d2 q).elim n d1).elim
 refine#[λi m σ' w=>i<=xs.9/\m=xs.9 - i/\∃z k S',Sts C f.ix F H S ρ σ k w S' z σ'/\Rl K k w S' z σ'/\zI body f Z (l.drop i) z,#[_,Qs _,rfl,ρ,F,S,.refl,I,by simpa using h],?_];rintro i m σ1 O ⟨hi,rfl,M,F1,S1,o,I1,L⟩;have hs:=R F1 O o.ff I1.fh λb hb=>(yk o b hb).1;rcases QBK i xs.9 with g|hge;refine .inr #[hJ.go i O hs g,λσ' w=>i+1<=xs.9/\∃z k S',Sts C f.ix F H S ρ σ k w S' z σ'/\Rl K k w S' z σ'/\zI body f Z (l.drop (i+1)) z,λσ' w #[a,b]=>#[_,(),a,rfl,b],λx H2 P=>?_];let#[it,hx,hm]:=hJ.yld i O x H2 hs g P;let#[y,hd,ry]:=Paired.get_of pr hx;rw[hd]at L;unfold zI at L;have key:L3.bindI K f it σ1 O λσ2 H2=>tb { Dn with nx:=λσ' w=>i+1<=xs.9/\∃z k S',Sts C f.ix F H S ρ σ k w S' z σ'/\Rl K k w S' z σ'/\zI body f Z (l.drop (i+1)) z,ct:=λσ' w=>i+1<=xs.9/\∃z k S',Sts C f.ix F H S ρ σ k w S' z σ'/\Rl K k w S' z σ'/\zI body f Z (l.drop (i+1)) z,bk:=Dn.nx } σ2 H2:=by
  refine RN I1 (λb hb u=>?_) (ry.mono o.ff (yk o)) L λρ2 σ2 F2 H3 S2 bd I2 h2=>?_;rcases o.uu b u with q|q
  ·exact(Q b hb).1 q
  exact(Q b hb).2.1 q;have B:=o.bind bd (λj hj=>hj) hC;exact ib I2 (X.fromS B) h2 #[λk w S' z σ' p A q=>#[g,z,k,S',B.trans p,A,q],λv t W k w S' z σ' p A r hw fr q=>N v t W k w S' z σ' (B.c.trans p) A r hw (Px B fr) q,
   λk w S' z σ' p A q=>G k w S' z σ' (B.trans p) A q,λk w S' z σ' p A q=>#[g,z,k,S',B.trans p,A,q]]
 exact SN hm key;have e:l.drop i=[]:=Wm ();rw[e]at L;exact .inl #[hJ.stop i O hs hge,G F1 O S1 M σ1 o I1 L]
theorem nG:∀(J:LN) (ρ:kA) (i:Nat) s,(kill J ρ)[i]?=jr (jr s)->ρ[i]?=jr (jr s)/\(i∈J->∀t,s=.bor t->t.isD=kb)
 |[],ρ,i,s,h=>#[h,λz=>by simp at z]|j::J,ρ,i,s,h=>by
  unfold kill at h;let#[x,w]:=nG J _ i s h;rw[WK]at x;by_cases e:j=i;subst e;simp only[reduceIte]at x;cases q:ρ[j]? with
  |none=>rw[q]at x;cases x|some o =>
   rw[q]at x;have x:xJ o=jr s:=by simpa using x
   cases o with
   |none=>cases x|some v =>
    cases v with
    |own t=>cases x;exact#[rfl,λ_ u z=>by cases z]|bor t =>
     have x:(if t.isD=kb then jr (Sl.bor t) else kd)=jr s:=x;cases y:t.isD with|true=>rw[y,oa rfl]at x;cases x;exact#[rfl,λ_ u z=>by cases z;exact y]|false=>rw[y]at x;simp at x
  simp only[e,if_false]at x;refine#[by simpa using x,λm=>w ((QL.mp m).elim (λz=>o2 z.symm e) id)]
theorem aN:∀(J:LN) (ρ:kA),(kill J ρ).9=ρ.9
 |[],_=>rfl|j::J,ρ=>by unfold kill;rw[aN J];simp
theorem Sts.kill(s:Sts C J F H S ρ σ F1 O S1 M σ1):Sts C [] F H S ρ σ F1 O S1 (L3.kill J M) σ1 :=
 #[s.ff,s.hh,s.dm,s.fn,λb #[i,t,y,x]=>s.uu b #[i,t,(nG J M i _ y).1,x],λj t _ e h=>by let#[y,x]:=nG J M j _ e;by_cases z:j∈J;rw[x z t rfl]at h;cases h;exact s.bo j t z y h,s.sg]
theorem yU:∀(L:LN) (ρ:kA) (j:Nat),(lock L ρ)[j]?=if j∈L then ρ[j]?.map lG else ρ[j]?
 |[],ρ,j=>by simp[lock]|i::L,ρ,j=>by
  have x:∀o,lG (lG o)=lG o:=λo=>by
   match o with
   |none=>rfl|some (.own _)=>rfl|some (.bor _)=>rfl
  unfold lock;rw[yU L,WK];by_cases e:i=j;subst e;cases h:ρ[i]? with|none=>simp|some o=>simp[x]
  have y:¬ j=i:=λz=>e z.symm;simp[e,y]
theorem jU:∀(L:LN) (ρ:kA),(lock L ρ).9=ρ.9
 |[],_=>rfl|i::L,ρ=>by unfold lock;rw[jU L];simp
theorem lM:∀(L:LN) (x ρ:kA) (j:Nat),(∀i∈L,i<ρ.9)->(GC L x ρ)[j]?=if j∈L then jr (x[j]?.getD kd) else ρ[j]?
 |[],x,ρ,j,_=>by simp[GC]|i::L,x,ρ,j,h=>by unfold GC;rw[lM L x _ j (λk hk=>by simpa using h k (QF _ hk)),wN];by_cases e:i=j;subst e;simp[h i QE];have y:¬ j=i:=λz=>e z.symm;simp[e,y]
theorem gM:∀(L:LN) (h ρ:kA),(GC L h ρ).9=ρ.9
 |[],_,_=>rfl|i::L,h,ρ=>by unfold GC;rw[gM L];simp
theorem AH{ρ:kA}:∀(x:LN),∀i∈gC ρ x,∃t,ρ[i]?=jr (jr (.own t))
 |[],i,h=>by simp[gC]at h|j::x,i,h=>by
  unfold gC at h;split at h
  ·rename_i ho
   rcases QL.mp h with e|e
   ·subst e
    unfold cN at ho;split at ho;rename_i t e;exact#[t,e]
    all_goals cases ho
   exact AH x i e
  exact AH x i h
theorem bN{ρ:kA}{i:Nat}{t:T}(h:ρ[i]?=jr (jr (.own t))):∀(x:LN),i∈x->i∈gC ρ x
 |[],hi=>by simp at hi|j::x,hi=>by
  unfold gC;rcases QL.mp hi with e|e;subst e;have:cN ρ[i]?=true:=by rw[h];rfl
  rw[oa this];exact QE;have:=bN h x e;split;exact QF _ this;exact this
section
variable{L:LN}(y:∀i∈L,∃t,ρ[i]?=jr (jr (.own t)))
include y
theorem kL{i:Nat}{s:Sl}(h:(lock L ρ)[i]?=jr (jr s)):(i∈L/\∃t,ρ[i]?=jr (jr (.own t))/\s=.bor t)∨(i∉L/\ρ[i]?=jr (jr s)):=by rw[yU]at h;by_cases x:i∈L;rw[oa x]at h;let#[t,e]:=y i x;rw[e]at h;injection h with h;injection h with h;exact .inl #[x,t,e,h.symm];rw[ot x]at h;exact .inr #[x,h]
theorem bF{b:k4}(h:U (lock L ρ) S b):U ρ S b:=by
 let#[i,t,x,z]:=h;rcases kL y x with⟨_,u,_,e⟩| ⟨_,x⟩
 cases e;exact#[i,t,x,z]
theorem Rl.lock(I:Rl K F H S ρ σ):Rl K F H S (L3.lock L ρ) σ where
 fh:=I.fh
 len:=by rw[jU];exact I.len
 sl:=λi s e=>by
  rcases kL y e with⟨_,t,h,rfl⟩| ⟨_,h⟩
  let#[v,u,x]:=I.sl i _ h;exact#[v,u,x.weak];exact I.sl i s h
 dj:=λi j t s n k w=>by
  rcases kL y k with⟨_,_,_,z⟩| ⟨_,u⟩
  cases z;rcases kL y w with⟨_,a,x,_⟩| ⟨_,x⟩
  ·exact I.dj i j t _ n u x
  exact I.dj i j t s n u x
theorem Rl.lockU(I:Rl K F H S ρ σ){i:Nat}(x:i∈L){b:k4}(hb:S i b):¬ U (L3.lock L ρ) S b:=λ#[j,t,h,v]=>by
 let#[w,e]:=y i x;rcases kL y h with⟨_,_,_,z⟩| ⟨u,h⟩
 cases z;exact I.dj j i t _ (λz=>u (z▸x)) h e b v hb
theorem PZ(I:Rl K F H S ρ σ)(s:Sts C [] F H S (lock L ρ) σ F1 O S1 M σ1)(W:Rl K F1 O S1 M σ1)(hl:∀i∈L,M[i]?=ρ[i]?.map lG) :
  ∃S2,Rl K F1 O S2 (GC L ρ M) σ1/\Sts C [] F H S ρ σ F1 O S2 (GC L ρ M) σ1:=by
 classical
 have N:∀i∈L,∃t,ρ[i]?=jr (jr (.own t))/\M[i]?=jr (jr (.bor t)):=λi h=>by let#[t,e]:=y i h;have:=hl i h;rw[e]at this;exact#[t,e,this]
 have P:∀i∈L,i<M.length:=λi h=>by let#[t,_,e]:=N i h;exact(Qg.mp e).1
 let S2:Ft:=λi=>if i∈L then S i else S1 i
 have l:∀i∈L,S2 i=S i:=λi h=>oa h;have g:∀i,i∉L->S2 i=S1 i:=λi h=>ot h;have get:∀i a,(GC L ρ M)[i]?=jr (jr a)->(i∈L/\∃t,ρ[i]?=jr (jr (.own t))/\M[i]?=jr (jr (.bor t))/\a=.own t)∨(i∉L/\M[i]?=jr (jr a)):=λi a e=>by rw[lM L ρ M i P]at e;by_cases h:i∈L;rw[oa h]at e;let#[t,f,Y]:=N i h;rw[f]at e;injection e with e;have e:jr (Sl.own t)=jr a:=e;injection e with e;exact .inl #[h,t,f,Y,e.symm];rw[ot h]at e;exact .inr #[h,e]
 have A:∀i∈L,∀k a,k∉L->M[k]?=jr (jr a)->∀b,S i b->¬ S1 k b:=λi h k a hk e b hb z=>by
  let#[t,f,_]:=N i h;cases a with
  |own u=>rcases s.uu b ⟨k,u,e,z⟩ with q|q;exact I.lockU y h hb q;exact(I.dom f hb).1 q
  |bor u =>
   cases o:u.isD with
   |true=>exact W.isD e o z|false =>
    let#[m,p,_]:=s.bo k u (by simp) e o;rw[p]at z;rcases kL y m with⟨q,_⟩| ⟨_,m⟩
    exact hk q;exact I.dj i k t _ (λq=>hk (q▸h)) f m b hb z
 refine#[S2,#[W.fh,by rw[gM];exact W.len,λi a e=>?_,λi k t a n f Y b hb hk=>?_],#[s.ff,λb u e n=>s.hh b u e λz=>n (bF y z),s.dm,λb e z=>(s.fn b e z).imp (bF y) id,λb #[i,t,h1,B]=>?_,λj t _ e o=>?_,s.sg]];rcases get i a e with⟨h,t,f,Y,rfl⟩| ⟨h,f⟩
 ·rw[l i h]
  let#[v,m,p]:=I.sl i _ f;cases o:t.isD with
  |true =>
   let#[v',R,Q]:=W.sl i _ Y;refine#[v',R,?_];have nb:∀b,¬ S i b:=λb=>I.isD f o;cases t with
   |d x =>
    have Q:Tr K F1 O kn v' (.d x) (S1 i):=Q;cases Q with|d r _=>exact .d r nb
   |_=>cases o
  |false =>
   let#[_,_,g5]:=s.bo i t (by simp) Y o;refine#[v,g5.trans m,?_];have p:Tr K F H kb v t (S i):=p;refine p.mono s.ff λb hb=>?_;let#[d1,d2]:=p.dom b hb;have nu:=I.lockU y h hb;refine#[?_,?_];cases eb:H b with|none=>exact o2 eb d1|some u=>exact s.hh b u eb nu
   by_cases q:F1 b=kd
   ·exact q
   exact((s.fn b d2 q).elim nu d1).elim
 rw[g i h];exact W.sl i a f;rcases get i _ f with⟨h,G,X,a2,_⟩| ⟨h,X⟩
 ·rw[l i h]at hb
  rcases get k a Y with⟨w,t2,Z,b2,_⟩| ⟨w,Z⟩
  rw[l k w]at hk;exact I.dj i k G _ n X Z b hb hk;rw[g k w]at hk;exact A i h k a w Z b hb hk
 rw[g i h]at hb;rcases get k a Y with⟨w,t2,Z,b2,_⟩| ⟨w,Z⟩
 rw[l k w]at hk;exact A k w i _ h X b hk hb;rw[g k w]at hk;exact W.dj i k t a n X Z b hb hk;rcases get i _ h1 with⟨h,G,X,a2,_⟩| ⟨h,X⟩
 ·rw[l i h]at B
  exact .inl #[i,G,X,B]
 rw[g i h]at B;exact(s.uu b #[i,t,X,B]).imp (bF y) id;rcases get j _ e with⟨_,_,_,_,z⟩| ⟨hj,f⟩
 ·cases z
 let#[m,p,R]:=s.bo j t (by simp) f o;rcases kL y m with⟨q,_⟩| ⟨_,m⟩
 exact o2 q hj;exact#[m,(g j hj).trans p,R]
end
section
variable{i a j:Nat}{is:LN}{v:V}{Z:PEnds}{Dn:Ends}{k:Int}{N:kA->Prop}{B G:PX}
theorem cR(h:(!C.contains i)=kb):i∉C:=λz=>by have:C.contains i=true:=Qo.mpr z;rw[this]at h;cases h
theorem fN(h:(is.all λi=>!C.contains i)=kb):∀i∈is,i∉C:=λi x=>cR (Qw.mp h i x)
theorem DZ:∀{xs:List (T×Bool)},eS xs=kb->∀t∈UO xs,t.isD=kb
 |[],_,t,h=>by simp[UO]at h|p::r,h,t,y=>by
  simp only[eS,QW]at h;simp only[UO,QL]at y;rcases y with rfl|y;let#[x,n]:=p;cases n with
  |true=>rfl|false =>
   have z:=h.1;cases x with|d x=>rfl|_=>cases z
  exact DZ h.2 t y
theorem Tn.bare{Y:lB}{vs:LV}{ts:LT}(h:Tn K F H Y vs ts):(∀t∈ts,t.isD=kb)->Tn K F H (λ_=>False) vs ts:=by
 induction h with
 |nil=>exact λ_=>.nil|@cons v t vs ts Z r z e w =>
  intro y;refine .cons (Z:=λ_=>False) ?_ (λ_ z=>z) (w λu b=>y u (QF _ b));have y:=y t QE;cases t with
  |d x=>cases r with|d q _=>exact .d q λ_ z=>z
  |_=>cases y
theorem x6{t:T}{W:lB}(ok:EndsOk K C F H S ρ σ Z Dn)(s:Ste F H S ρ F1 O S1 M)(I:Rl K F1 O S1 M σ)(r:Tr K F1 O kb v t W)(h:Held F1 O S1 M W)(fr:∀b,W b->H b=kd∨U ρ S b)(q:Z.rt t M):Dn.rt v O :=
 ok.rt v t W F1 O S1 M σ (s.toStp.sts (J:=[])).c I r h fr q
theorem MQ(g:GOk K Γ Ψ):∀(e:PX) {F H:Hp}{S:Ft}{ρ:kA}{σ:St}{Z:PEnds}{Dn:Ends},Rl K F H S ρ σ->ND K F H S ρ E EK->OD Ψ E Z.rt e ρ->EndsOk K C F H S ρ σ Z Dn->(wp K Γ e EK).e σ H Dn.rt:=by
  intro e F H S ρ σ Z Dn I X h ok;have m:∀e,(pe Ψ e E).e ρ (λx n M=>RF x n=kb/\Z.rt x M)->(wp K Γ e EK).e σ H Dn.rt:=λe h=>by refine(DA g e).e (Q:=λx n M=>RF x n=kb/\Z.rt x M) I X h λv F' H' P l x n Za s J r #[A,q]=>?_;let#[W,o,p,fr]:=r.strict A;exact x6 ok s J o p fr q
  cases e with
  |ife t a b =>
   have h:(pe Ψ t E).t ρ λk M=>if k=kb then OD Ψ E Z.rt a M else OD Ψ E Z.rt b M:=h
   refine(DA g t).t I X h λk F' H' P l s J q=>?_;cases k with|true=>exact MQ g a J (X.from s.toStp) q (ok.from s.toStp.sts)|false=>exact MQ g b J (X.from s.toStp) q (ok.from s.toStp.sts)
  |var i =>
   have y:tw ρ i Z.rt ρ[i]?:=h;show(match σ[i]? with|some (jr v)=>Dn.rt v _|_=>False)
   match f:ρ[i]?,y with
   |some (jr (.own t)),y =>
    let#[v,w,r]:=I.sl i _ f;rw[w];have R:Rl K F H S (ρ.set i kd) σ:=I.drop (by simp) λj s e=>by
     rcases cA e with⟨_,z,_⟩| ⟨_,e⟩
     cases z;exact e
    refine ok.rt v t (S i) F H S (ρ.set i kd) σ #[.refl _,λb u e _=>e,λb e=>e,λb e z=>o2 e z,λb #[j,u,w,L]=>.inl ?_,λ_ _=>rfl] R r #[r.dom,λj s e b hb z=>?_] (λb hb=>.inr #[i,t,f,hb]) y;rcases cA w with⟨_,z,_⟩| ⟨_,w⟩
    ·cases z
    exact#[j,u,w,L];rcases cA e with⟨_,q,_⟩| ⟨n,e⟩
    ·cases q
    exact I.dj i j t s n f e b hb z
   |some (jr (.bor t)),y =>
    let#[v,w,r]:=I.sl i _ f;rw[w];let#[Y,y]:=y;cases t with
    |d x =>
     have r:Tr K F H kn v (.d x) (S i):=r;cases r with|d q n=>exact x6 (W:=λ_=>False) ok .refl I (.d q λ_ z=>z) .none (λ_ z=>z.elim) y
    |_=>cases Y
   |some kd,y=>exact y.elim|none,y=>exact y.elim
  |_=>exact m _ h
theorem gU{L:LN}:∀(k:Nat) (ρ:kA) (j:Nat) (s:Sl),(fF L k ρ)[j]?=jr (jr s)->L.contains (k+j)=kb/\ρ[j]?=jr (jr s)
 |_,[],_,_,h=>by cases h|k,o::r,0,s,h=>by have h:jr (if L.contains k=kb then o else kd)=jr (jr s):=h;split at h;rename_i c;exact#[c,h];cases h|k,o::r,j+1,s,h=>by let#[a,b]:=gU (k+1) r j s h;rw[Nat.add_right_comm]at a;exact#[a,b]
theorem fU{L:LN}:∀(k:Nat) (ρ:kA),(fF L k ρ).9=ρ.9
 |_,[]=>rfl|k,_::r=>QP Nat.succ (fU (k+1) r)
theorem C7{C L:LN}(p:PT):dD C p=kb->dD L p=kb->dD (C++L) p=true:=by
 have h:∀i,(!C.contains i)=kb->(!L.contains i)=kb->(!(C++L).contains i)=true:=λi a b=>by simp at a b ⊢;exact#[a,b]
 have u:∀l:LN,l.all (λi=>!C.contains i)=kb->l.all (λi=>!L.contains i)=kb->l.all (λi=>!(C++L).contains i)=true:=λl a b=>Qw.mpr λi w=>h i (Qw.mp a i w) (Qw.mp b i w);induction p with|seq s r x y=>exact λa b=>qH.mpr #[x (jA a).1 (jA b).1,y (jA a).2 (jA b).2]|ife c s r x y=>exact λa b=>qH.mpr #[x (jA a).1 (jA b).1,y (jA a).2 (jA b).2]|for_ n o g f x=>exact λa b=>qH.mpr #[u _ (jA a).1 (jA b).1,x (jA a).2 (jA b).2]|set i e=>exact h i|own i e=>exact h i|tset is e=>exact u is|whl c b x=>exact x|frz is s x=>exact x|hs s x=>exact x|lnt is bs s m r x y z=>exact λa b=>qH.mpr #[x (jA a).1 (jA b).1,qH.mpr #[y (jA (jA a).2).1 (jA (jA b).2).1,z (jA (jA a).2).2 (jA (jA b).2).2]]|_=>exact λ_ _=>rfl
theorem ye{P:PEnds->kA->Prop}{Wp:Ends->St->Hp->Prop}{bs:LN}(ih:∀{F H:Hp}{S:Ft}{ρ:kA}{σ:St}{Z:PEnds}{Dn:Ends},Rl K F H S ρ σ->ND K F H S ρ E EK->P Z ρ->EndsOk K (C++(is++bs)) F H S ρ σ Z Dn->Wp Dn σ H)(I:Rl K F H S ρ σ)(X:ND K F H S ρ E EK)(ok:EndsOk K C F H S ρ σ Z Dn)(hb:∀j∈bs,∃t,ρ[j]?=jr (jr (.bor t)))(h:P (kU is bs Z ρ) (frzAt is ρ)):Wp Dn σ H:=by
 let#[F1,S1,I1,s1,fz]:=I.frzAt (C:=C++(is++bs)) is;have fin:∀Y f p y x,Stc (C++(is++bs)) F1 H S1 (frzAt is ρ) σ Y f p y x->Rl K Y f p y x->y.9=ρ.9->Rl K F f S (fF (is++bs) 0 ρ) x/\Sts C [] F H S ρ σ F f S (fF (is++bs) 0 ρ) x:=λY f p y x l s hl=>by
  have Q:=s1.c.trans l;have g:∀(j:Nat) w,(fF (is++bs) 0 ρ)[j]?=jr (jr w)->j∈is++bs/\ρ[j]?=jr (jr w)/\x[j]?=σ[j]?:=λj w h=>by let#[a,b]:=gU 0 ρ j w h;rw[w8]at a;have a:=Qo.mp a;exact#[a,b,l.sg j (QU _ a)]
  have same:∀(j:Nat) w,(fF (is++bs) 0 ρ)[j]?=jr (jr w)->∀b,S j b->f b=H b:=λj w h b o=>by
   let#[m,e,_]:=g j w h;let#[d,_]:=I.dom e o;cases hu:H b with
   |none=>exact o2 hu d|some u =>
    cases w with
    |own t =>
     have m:j∈is:=(Qd.mp m).elim id λz=>by let#[_,z]:=hb j z;rw[e]at z;cases z
     exact s.fh b u (l.ff b u ((fz j m t e b o).trans hu))
    |bor t=>exact Q.hh b u hu λ#[i,t',R,z2]=>I.dj i j t' _ (λz=>by subst z;rw[e]at R;cases R) R e b z2 o
  refine#[#[λb u e=>s.fh b u (Q.ff b u e),by rw[fU,<- hl];exact s.len,λj w h=>?_,λa b u w n L A=>I.dj a b u w n (g a _ L).2.1 (g b _ A).2.1],#[.refl _,Q.hh,Q.dm,λb h z=>o2 h z,λb #[j,u,L,A]=>.inl #[j,u,(g j _ L).2.1,A],λj u _ h _=>#[(g j _ h).2.1,rfl,(g j _ h).2.2],λj hj=>l.sg j (Qn _ hj)]];let#[_,L,A]:=g j w h;let#[v,a,b]:=I.sl j w L;exact#[v,A.trans a,b.mono (.refl _) λc hc=>#[same j w h c hc,(b.dom c hc).2]]
 refine ih I1 (X.fromS s1) h #[λY f p y x l s #[hl,q]=>?_,λv t W Y f p y x l s r hw fr #[hl,c,e,q]=>?_,λ_ _ _ _ _ _ _ q=>q.elim,λ_ _ _ _ _ _ _ q=>q.elim];let#[a,b]:=fin Y f p y x l.c s hl;exact ok.nx _ _ _ _ _ b a q;let#[a,b]:=fin Y f p y x l s hl;subst e;refine ok.rt v _ (λ_=>False) _ _ _ _ _ b.c a ?_ .none (λ_ z=>z.elim) q;cases r with|d r _=>cases r;exact .d (.bl c) λ_ z=>z
theorem Rl.move{σ':St}{t:T}(I:Rl K F H S ρ σ)(n:i≠a)(f:ρ[a]?=jr (jr (.own t)))(hv:σ[a]?=jr (jr v))(X:σ'.9=σ.9)(o:∀j,j≠i->σ'[j]?=σ[j]?)(q:i<σ.9->σ'[i]?=jr (jr v))(p:∀j∈C,σ'[j]?=σ[j]?) :
  Rl K F H (MF S i (S a)) ((ρ.set a kd).set i (jr (.own t))) σ'/\Sts C [] F H S ρ σ F H (MF S i (S a)) ((ρ.set a kd).set i (jr (.own t))) σ':=by
 let#[w,m,r]:=I.sl a _ f;rw[hv]at m;cases m;have get:∀(j:Nat) s,((ρ.set a kd).set i (jr (.own t)))[j]?=jr (jr s)->(j=i/\s=.own t/\i<ρ.9)∨(j≠i/\j≠a/\ρ[j]?=jr (jr s)):=λj s e=>by
  rcases cA e with⟨rfl,e,hl⟩| ⟨x,e⟩
  rw[qF]at hl;exact .inl #[rfl,Ql e,hl];exact .inr #[Q1 x,cD e]
 refine#[#[I.fh,by rw[qF,qF,I.len,X],λj s e=>?_,λj k u s x B G b hb hk=>?_],#[.refl _,λb u e _=>e,λb e=>e,λb e z=>o2 e z,λb #[j,u,e,hb]=>.inl ?_,λj u _ e _=>?_,p]];rcases get j s e with⟨rfl,rfl,hl⟩| ⟨h,y,e⟩
 ·exact#[v,q (by rw[<- I.len];exact hl),by rw[YA];exact r]
 let#[w,W,Y]:=I.sl j s e;exact#[w,(o j h).trans W,by rw[oA h];exact Y];rcases get j _ B with⟨rfl,B,_⟩| ⟨h,y,B⟩
 ·rw[YA]at hb
  rcases get k _ G with⟨e,_,_⟩| ⟨g,l,G⟩
  exact x e.symm;rw[oA g]at hk;exact I.dj a k t s (Q1 l) f G b hb hk
 rw[oA h]at hb;rcases get k _ G with⟨e,G,_⟩| ⟨g,l,G⟩
 rw[e,YA]at hk;exact I.dj a j t _ (Q1 y) f B b hk hb;rw[oA g]at hk;exact I.dj j k u s x B G b hb hk;rcases get j _ e with⟨rfl,_,_⟩| ⟨h,y,e⟩
 ·rw[YA]at hb
  exact#[a,t,f,hb]
 rw[oA h]at hb;exact#[j,u,e,hb];rcases get j _ e with⟨_,e,_⟩| ⟨h,y,e⟩
 ·cases e
 exact#[e,oA h,o j h]
theorem R6(g:GOk K Γ Ψ){e:PX}{R:Hp->Prop}(I:Rl K F H S ρ σ)(X:ND K F H S ρ E EK)(h:S6 Ψ E j k e ρ N)(kk:∀F' H' S' m,Ste F H S ρ F' H' S' m->Rl K F' H' S' m σ->N m->R H'):(wp K Γ (pW j k e) EK).e σ H λ_ O=>R O:=by
 let#[us,n,ts,r,hi,hu,hl,h]:=h;let#[v0,hv,s]:=I.sl j _ r;have s:Tr K F H kb v0 (.tup us) (S j):=s;show(match σ[j]? with|some (jr ov)=>dW K ov (.int k) H λw H2=>RZ K "list" w H2/\(wp K Γ e EK).e σ H2 λo H3=>NQ w [o] H3 λ_ H4=>R H4|_=>False);rw[hv];have r1:=s;cases r1 with
 |@tup _ a ws _ _ S' h1 h2 h3 h4 h5 =>
  let#[w,S1,g1,g2,g3,_]:=h3.part hu;cases g2 with
  |@lst _ b vs _ _ S2 f1 f2 f3 f4 f5 =>
   refine#[ws,.ref b,.inr (yD.of h1),?_,.inl #[rfl,_,aC.of f1],?_];unfold NC;rw[h3.9,hi];exact g1;refine yE (DA g e) (I.lock1 r) (X.lock1 r) h λo F1 O S3 M x l Zx s1 I1 X1 _ er1 _ #[he,q]=>?_;have rx:=er1 he;have r2:=s1.toStp.keep s (I.lock1U r);have same:∀c,S j c->O c=H c:=λc hc=>by
    cases e:H c with|none=>exact o2 e (s.dom c hc).1|some u=>exact s1.hh c u e (I.lock1U r c hc)
   cases r2 with
   |@tup _ _ ws' _ _ S'' A h2' h3' Y h5' =>
    rw[same a ((h5 a).mpr (.inl rfl)),h1]at A;cases A;let#[w',S1',L,g2',g3',g4']:=h3'.part hu;rw[g1]at L;cases L;cases g2' with
    |@lst _ _ y _ _ S2' f1' f2' p Q f =>
     have zb:S'' b:=g3' b ((f b).mpr (.inl rfl));refine#[b,y,o,rfl,rfl,f1',by rw[p.9];exact hl,?_];have tl:Trs K F1 (CA O b (.lst (y++[o]))) kb (y++[o]) (ts++[.d x.er]) λc=>S2' c∨False:=Trs.append (p.mono (.refl _) λc hc=>#[xA λz=>Q (by rw[<- z];exact hc),(p.dom c hc).2]) (Trs.one (.d rx λ_ z=>z)) λ_ _ z=>z;let#[P,p1,p2]:=g4' (CA O b (.lst (y++[o]))) (.lst (ts++[.d x.er])) (λc=>c=b∨S2' c∨False) (λc _ hn=>xA λz=>hn (by rw[z];exact(f b).mpr (.inl rfl))) (.lst pA f2' tl (λz=>z.elim Q id) λc=>WJ) λc hc=>by rcases hc with e|hc|hc;exact(f c).mpr (.inl e);exact(f c).mpr (.inr hc);exact hc.elim
     have tt:Tr K F1 (CA O b (.lst (y++[o]))) kb (.ref a) (.tup (us.set n (.lst (ts++[.d x.er])))) λc=>c=a∨P c:=.tup ((xA λz=>Y (by rw[z];exact zb)).trans (by rw[same a ((h5 a).mpr (.inl rfl))];exact h1)) h2' p1 (λz=>Y (p2 a z)) λc=>WJ;have sj:∀c,c=a∨S'' c->S j c:=λc hc=>(h5' c).mpr hc;let#[st,I3,_]:=vG (W:=λ_=>False) I r hv s1 I1 (λc u e n=>(xA λz=>n (by rw[z];exact sj b (.inr zb))).trans e) (λc=>JB c) tt (λc hc=>.inl (sj c (hc.imp id (p2 c)))) .none (λ_ z=>z.elim);exact kk _ _ _ _ st I3 q
theorem Fg(g:GOk K Γ Ψ){D:Ends}(Y:i∉C)(n:i≠a)(r:i<σ.9)(hv:σ[a]?=jr (jr v))(I:Rl K F H S ρ σ)(X:ND K F H S ρ E EK)(h:lm Ψ E i a k B G ρ N)(p:∀f u S' x,Sts C [] F H S ρ σ f u S' x (σ.set i (jr v))->Rl K f u S' x (σ.set i (jr v))->N x->D.nx (σ.set i (jr v)) u):HJ K Γ EK %[.expr (pW i k B),.expr (pW i k G)|2] D (σ.set i (jr v)) H:=by let#[t,W,h]:=h;let#[L,w]:=I.move (C:=C) (σ':=σ.set i (jr v)) n W hv (qF ..) (λj y=>EB (Q1 y)) (λl=>CI l) λj y=>EB λz=>Y (z▸y);have e:=X.fromS w;refine R6 g L e h λF1 O S1 M b R A=>R6 g R (e.from b.toStp) A λF2 H2 S2 ρ2 o Q #[t',s,q]=>?_;let#[P,m]:=Q.move (C:=C) (σ':=σ.set i (jr v)) (Q1 n) s (CI r) rfl (λ_ _=>rfl) (λ_=>(EB n).trans hv) λ_ _=>rfl;exact p _ _ _ _ ((w.trans (b.trans o).toStp.sts).trans m) P q
theorem Sts.pin{p:k4}{u:HO}(s:Sts C J F H S ρ σ F1 O S1 M σ1)(h:H p=jr u)(n:¬ U ρ S p):O p=jr u/\¬ U M S1 p:=#[s.hh p u h n,λz=>(s.uu p z).elim n λq=>by rw[h]at q;cases q]
theorem Xm(g:GOk K Γ Ψ){b:Nat}{tb:T}(hi:i∉C)(I:Rl K F H S ρ σ)(X:ND K F H S ρ E EK)(ok:EndsOk K C F H S ρ σ Z Dn)(A:i≠a/\i≠b/\i<ρ.9)(hb:ρ[b]?=jr (jr (.own tb)))(h:lm Ψ E i a k B G ρ λL=>lm Ψ E i b k B G L Z.nx):HJ K Γ EK (.for_ (.nm i) .val %[.tup %[.var a,.var b|1]|1] %[.expr (pW i k B),.expr (pW i k G)|2]) Dn σ H:=by
 let#[ta,ha,_]:=id h;let#[w,sa,_]:=I.sl a _ ha;let#[f,sb,_]:=I.sl b _ hb;have il:i<σ.length:=by rw[<- I.len];exact A.2.2
 show(match σ[a]? with|some (jr v)=>(match σ[b]? with|some (jr u)=>[v,u].9<=ku/\∀p,H p=kd->uC K .val [.ref p] (CA H p (.tup [v,u])) λxs st H2=>Zf K xs st (.nm i) _ Dn σ H2|_=>False)|_=>False);rw[sa,sb];refine#[by show 2<=_;omega,λp hp=>.inr (.inl #[[w,f],yD.of pA,?_])];intro J Y;have s0:Sts C [] F H S ρ σ F (CA H p (.tup [w,f])) S ρ σ:=(Stp.refl.new hp _).sts;have I0:=I.new hp (.tup [w,f]);have n0:¬ U ρ S p:=λz=>(I.udom z).1 hp;refine#[λn m x l=>(n=0/\m=2/\x=σ/\l=CA H p (.tup [w,f]))∨(n=1/\m=1/\x=σ.set i (jr w)/\∃F1 S1 M,Sts C [] F H S ρ σ F1 l S1 M x/\Rl K F1 l S1 M x/\(l p=jr (.tup [w,f])/\¬ U M S1 p)/\lm Ψ E i b k B G M Z.nx)∨(n=2/\m=0/\l p=jr (.tup [w,f])/\Dn.nx x l),#[2,.inl #[rfl,rfl,rfl,rfl]],?_];rintro n m x l (⟨rfl,rfl,rfl,rfl⟩| ⟨rfl,rfl,rfl,F1,S1,M,s,I1,⟨W,P⟩,h1⟩| ⟨rfl,rfl,R,q⟩);have st:yD K (CA H p (.tup [w,f])) p [w,f]:=yD.of pA;refine .inr #[Y.go 0 _ st (by show 0<2;decide),λσ2 H2=>σ2=x.set i (jr w)/\∃F1 S1 M,Sts C [] F H S ρ x F1 H2 S1 M σ2/\Rl K F1 H2 S1 M σ2/\(H2 p=jr (.tup [w,f])/\¬ U M S1 p)/\lm Ψ E i b k B G M Z.nx,λσ2 H2 #[e,z]=>#[1,by decide,.inr (.inl #[rfl,rfl,e,z])],λy H2 Q=>?_];let#[it,r,o]:=Y.yld 0 _ y H2 st (by show 0<2;decide) Q;cases r;let#[rfl,rfl]:=o;refine Fg g hi A.1 il sa I0 (X.fromS s0) h λF1 O S1 M s I1 q=>#[rfl,F1,S1,M,s0.trans s,I1,s.pin pA n0,q]
 have st:yD K l p [w,f]:=yD.of W;refine .inr #[Y.go 1 _ st (by show 1<2;decide),λσ2 H2=>H2 p=jr (.tup [w,f])/\Dn.nx σ2 H2,λσ2 H2 z=>#[0,by decide,.inr (.inr #[rfl,rfl,z])],λy H2 Q=>?_];let#[it,r,o]:=Y.yld 1 _ y H2 st (by show 1<2;decide) Q;cases r;let#[rfl,rfl]:=o;refine Fg g hi A.2.1 (by rw[qF];exact il) ((EB A.2.1).trans sb) I1 (X.fromS s) h1 λF2 H3 S2 ρ2 s2 I2 q=>#[(s2.pin W P).1,ok.nx _ _ _ _ _ (s.trans s2) I2 q]
 exact .inl #[Y.stop 2 _ (yD.of R) (by show 2<=2;decide),q]
theorem Tb(g:GOk K Γ Ψ){A e:PX}{f:Str}{z:Nat}(I:Rl K F H S ρ σ)(X:ND K F H S ρ E EK)(ok:EndsOk K C F H S ρ σ Z Dn)(ne:j≠z/\z<ρ.9)
  (h:(pe Ψ A E).e ρ λx _ M=>uf x.er λc=>c=kb/\(∃t,M[j]?=jr (jr (.own t)))/\(pe Ψ e E).e M λy n ρ2=>RF y n=kb/\(pe Ψ (.call f %[.var j,.var z|1]) E).e (ρ2.set z (jr (.own y))) λv _ l=>∃c,v=.d (.bool c)/\Z.rt v (l.set z kd)):HJ K Γ EK (.ret (.and A (.call f %[.var j,e|1]))) Dn σ H:=by
 show(wp K Γ A EK).e σ H λx O=>U4 x O λc H2=>if c=kb then(wp K Γ (.call f %[.var j,e|1]) EK).e σ H2 Dn.rt else Dn.rt (.bl kn) H2
 refine(DA g A).e I X h λv F1 O S1 M x n Z1 Y R r1 q1=>SX (r1.tr.rep R.fh) q1 λc #[hc,#[t,hj],q]=>?_;rw[oa hc];let#[vj,sj,_]:=R.sl j _ hj;show(match σ[j]? with|some (jr v)=>(wp K Γ e EK).e σ O λy H2=>Γ.sp f [v,y] H2 Dn.rt EK|_=>False);rw[sj];have X1:=X.from Y.toStp;refine(DA g e).e R X1 q λm F2 H2 S2 ρ2 y n Zy s2 I2 r2 #[he,q2]=>?_;have zl:z<σ.length:=by rw[<- I.len];exact ne.2
 have r:=Y.trans s2;let#[W,L,hw,fr]:=(r2.from Y.toStp).strict he;have I3:=I2.setN z L λi sl _ e b hb=>hw.nw i sl e b hb;have st:Sts [] [] F H S ρ σ F2 H2 (MF S2 z W) (ρ2.set z (jr (.own y))) (σ.set z (jr m)):=r.toStp.sts.setN z (by simp) m y fr;have key:(wp K Γ (.call f %[.var j,.var z|1]) EK).e (σ.set z (jr m)) H2 Dn.rt:=by
  refine XZ (ws:=TF (.call f %[.var j,.var z|1])) g (DA g _) I3 (X.fromS st) q2 λv F3 H3 S3 l x n Z3 s3 p r3 #[c,e,q]=>?_;subst e;have o:=st.trans s3.toStp.sts;have get:∀(k:Nat) s,(l.set z kd)[k]?=jr (jr s)->z≠k/\l[k]?=jr (jr s):=λk s e=>#[Q1 (cD e).1,(cD e).2]
  refine ok.rt v _ (λ_=>False) F3 H3 S3 (l.set z kd) σ #[o.ff,o.hh,o.dm,o.fn,λb #[k,u,Q,P]=>o.uu b #[k,u,(get k _ Q).2,P],λ_ _=>rfl] #[p.fh,?_,λk s e=>?_,λa b u s n Q P=>p.dj a b u s n (get a _ Q).2 (get b _ P).2] ?_ .none (λ_ z=>z.elim) q;have:=p.len;rw[qF]at this;rw[qF];exact this;let#[n,e]:=get k s e;let#[w,g1,g2]:=p.sl k s e;rw[EB n]at g1;exact#[w,g1,g2];cases r3.tr with|d q _=>exact .d q λ_ z=>z
 have key:(match (σ.set z (jr m))[j]? with|some (jr v)=>(match (σ.set z (jr m))[z]? with|some (jr y)=>Γ.sp f [v,y] H2 Dn.rt EK|_=>False)|_=>False):=key;rw[EB (Q1 ne.1),sj,CI zl]at key;exact key
theorem DF(g:GOk K Γ Ψ):∀(p:PT) {C:LN}{F H:Hp}{S:Ft}{ρ:kA}{σ:St}{Z:PEnds}{Dn:Ends},dD C p=kb->Rl K F H S ρ σ->ND K F H S ρ E EK->vB Ψ E p Z ρ->EndsOk K C F H S ρ σ Z Dn->HJ K Γ EK p Dn σ H
 | .nil,C,_,_,_,_,_,_,_,c,I,X,h,ok=>ok.nx _ _ _ _ _ .refl I h|.seq s r,C,_,_,_,_,_,_,_,c,I,X,h,ok=>by let#[c1,c2]:=jA c;exact DF g s c1 I X h #[λF' H' S' L R s' J q=>DF g r c2 J (X.fromS s') q (ok.from s'),ok.rt,ok.bk,ok.ct]|.set i e,C,F,H,S,ρ,σ,Z,Dn,c,I,X,h,ok=>by have hi:=cR c;refine yE (RR:=λx O=>Dn.nx (σ.set i (jr x)) O) (DA g e) I X h λv F' H' S' L x n Za s J X' r er _ #[he,q]=>?_;exact ok.nx _ _ _ _ _ (s.toStp.sts.setD i hi v rfl _) (J.setD i (er he)) q|.expr e,C,F,H,S,ρ,σ,Z,Dn,c,I,X,h,ok=>(DA g e).e I X h λv F' H' S' L x n Za s J r q=>ok.nx _ _ _ _ _ s.toStp.sts J q|.ret e,C,F,H,S,ρ,σ,Z,Dn,c,I,X,h,ok=>MQ g e I X h ok|.ife t a b,C,F,H,S,ρ,σ,Z,Dn,c,I,X,h,ok=>by
  let#[c1,c2]:=jA c;refine(DA g t).t I X h λk F' H' S' L s J q=>?_;cases k with|true=>exact DF g a c1 J (X.from s.toStp) q (ok.from s.toStp.sts)|false=>exact DF g b c2 J (X.from s.toStp) q (ok.from s.toStp.sts)
 | .for_ tg ik its body,C,F,H,S,ρ,σ,Z,Dn,c,I,X,h,ok=>by
  let#[c1,c2]:=jA c;have hC:=fN c1;refine TX (RR:=λvs O=>uC K ik vs O λxs st H2=>Zf K xs st tg (HJ K Γ EK body) Dn σ H2) (DA g its) I X h λvs F1 O S1 M xs Y s1 I1 X1 tn tm q=>?_;rw[uM _ rfl]at q;have ok1:=ok.from s1.toStp.sts;cases ha:eS xs with
  |true=>have tn':=tn.bare (DZ ha);refine vK I1.fh tn' q λits ys st pr hst hc=>?_;rw[ha,oa rfl]at hc;refine pZ (λI X h ok=>DF g body c2 I X h ok) I1 X1 hC pr (λb z=>z.elim) hst hc ?_ ?_;exact λF' H' S' L R s' I' q=>ok1.nx _ _ _ _ _ s'.kill (I'.drop (aN _ _) λi sl e=>(nG _ _ i sl e).1) q;exact λv t W F' H' S' L R s' I' r hw fr q=>ok1.rt v t W F' H' S' L R s' I' r hw fr q|false =>
   refine vK I1.fh tn q λits' ys st pr hst hc=>?_;rw[ha,ot (by simp)]at hc;have hL:=AH (ρ:=M) (TF its);have IL:=I1.lock hL;have sL:Sts C [] F1 O S1 M σ F1 O (λ_ _=>False) [] σ:=#[.refl _,λb u e _=>e,λb e=>e,λb e z=>o2 e z,λb #[i,t,e,_]=>by simp at e,λj t _ e=>by simp at e,λ_ _=>rfl]
   have XL:ND K F1 O S1 (lock (gC M (TF its)) M) E EK:=λx dx F2 H2 S2 ρ2 s2 f r q =>
    X1 x dx F2 H2 (λ_ _=>False) [] #[s2.ff,λb u e n=>s2.hh b u e λz=>n (bF hL z),s2.dm,λb e z=>(s2.fn b e z).imp (bF hL) id,λb #[i,t,e,_]=>by simp at e,λj t e=>by simp at e] f r q
   refine pZ (λI X h ok=>DF g body c2 I X h ok) IL XL hC pr (λb hb=>?_) hst hc ?_ ?_;let#[i,sl,h1,h2,h3]:=tm b hb;refine#[λu=>?_,I1.dom h2 h3];cases sl with
   |own t=>exact I1.lockU hL (bN h2 _ h1) h3 u|bor t =>
    let#[j,t',B,G]:=u;rcases kL hL B with⟨_,_,_,z⟩| ⟨_,B⟩
    cases z;exact I1.dj j i t' _ (λz=>by subst z;rw[h2]at B;cases B) B h2 b G h3
   intro F' H' S' L R s' I' #[q1,q2];have sk:=s'.kill;have Ik:=I'.drop (aN tg.ix L) λi sl e=>(nG _ _ i sl e).1;let#[S2,I2,s2]:=PZ hL I1 sk Ik λi hi=>(q1 i hi).2;exact ok1.nx _ _ _ _ _ s2 I2 q2;intro v t W F' H' S' L R s' I' r hw fr q;exact ok1.rt v t W F' H' S' L R #[s'.ff,λb u e n=>s'.hh b u e λz=>n (bF hL z),s'.dm,λb e z=>(s'.fn b e z).imp (bF hL) id,λb u=>(s'.uu b u).imp (bF hL) id,s'.sg] I' r hw (λb hb=>(fr b hb).imp id (bF hL)) q
 | .own i e,C,F,H,S,ρ,σ,Z,Dn,c,I,X,h,ok=>by refine(DA g e).e (Q:=λx n M=>RF x n=kb/\Z.nx (M.set i (jr (.own x)))) I X h λv F' H' S' L x n Za s J r #[he,q]=>?_;let#[W,r2,hw,fr]:=r.strict he;exact ok.nx _ _ _ _ _ (s.toStp.sts.setN i (cR c) v x fr) (J.setN i r2 λj sl _ e b hb=>hw.nw j sl e b hb) q|.tset is e,C,F,H,S,ρ,σ,Z,Dn,c,I,X,h,ok=>by
  have hc:=fN c;refine yE (RR:=λx O=>CD K (.tp is) x σ O Dn.nx) (DA g e) I X h λv F' H' S' L x n Za s J X' r er _ #[he,q]=>?_;have q2:bL (.tp is) (.d x.er) L λρ2=>Z.nx ρ2/\∀(j:Nat) t,ρ2[j]?=jr (jr (.bor t))->t.isD=kn->j∉is:=by
   generalize x.er=d at q;cases d with
   |tuple ds=>let#[ρ2,e,q]:=q;exact#[ρ2,e,q,λj t h1 h2=>(lP is ds e j t h1 h2).1]|dict kvs =>
    have q:(match DB kvs with | .tp ts=>∃ρ2,eB is ts L=jr ρ2/\Z.nx ρ2|_=>False):=q;unfold DB at q;cases ek:xD kvs with|none=>rw[ek]at q;exact q.elim|some b=>rw[ek]at q;exact q.elim
   |_=>exact q.elim
  refine RN (Y:=λ_=>False) (it:=.one v) J (λb z=>z.elim) #[λ_=>False,.d (er he) λ_ z=>z,λ_ z=>z] q2 λρ2 σ2 F2 H2 S2 bd J2 qn=>?_;have st:=(s.toStp.sts (σ:=σ) (C:=C) (J:=is)).bind bd (λj hj=>hj) hc;exact ok.nx _ _ _ _ _ #[st.ff,st.hh,st.dm,st.fn,st.uu,λj t _ e hd=>st.bo j t (qn.2 j t e hd) e hd,st.sg] J2 qn.1
 | .six o i e,C,F,H,S,ρ,σ,Z,Dn,c,I,X,h,ok=>by
  have later:∀{j:Nat}{t:T}{v0:V},ρ[j]?=jr (jr (.own t))->Tr K F H kb v0 t (S j)->∀{F' H':Hp}{S':Ft}{L:kA},Ste F H S (ρ.set j (jr (.bor t))) F' H' S' L->Tr K F' H' kb v0 t (S j)/\∀b,S j b->H' b=H b:=λ{j t v0} hj r0 {F' H' S' L} s=>#[s.toStp.keep r0 (I.lock1U hj),λb hb=>by
   cases e:H b with|none=>exact o2 e (r0.dom b hb).1|some u=>exact s.hh b u e (I.lock1U hj b hb)]
  cases o with
  |var j =>
   have h:iC ρ[j]? _:=h;unfold iC at h;split at h;rename_i t hj;let#[v0,hv,r0]:=I.sl j _ hj;have r0:Tr K F H kb v0 t (S j):=r0;show(wp K Γ e EK).e σ H λv O=>(wp K Γ (.var j) EK).e σ O λov H2=>(wp K Γ i EK).e σ H2 λiv H3=>uT K ov iv v H3 λH4=>Dn.nx σ H4;refine yE (DA g e) (I.lock1 hj) (X.lock1 hj) h λxv F1 O S1 M x n Zx s1 I1 X1 _ er1 _ #[he,q1]=>?_;have rx:=er1 he;show(match σ[j]? with|some (jr v)=>_|_=>False);rw[hv];refine yE (DA g i) I1 X1 q1 λiv F2 H2 S2 ρ2 y m Zy s2 I2 X2 _ er2 _ #[he2,hj2,q2]=>?_;have s12:=s1.trans s2;refine D5 I2.fh (later hj r0 s12).1 (er2 he2) (rx.mono s2.ff) q2 λt' H3 S3 hh dm rt sub q=>?_;let#[st,I3,_]:=vG (W:=λ_=>False) I hj hv s12 I2 hh dm rt (λb hb=>.inl (sub b hb)) .none (λ_ z=>z.elim);exact ok.nx _ _ _ _ _ st.toStp.sts I3 q
   all_goals exact h.elim
  |idx a k =>
   cases a with
   |var j =>
    have h:iC ρ[j]? _:=h;unfold iC at h;split at h;rename_i t hj;let#[v0,hv,r0]:=I.sl j _ hj;have r0:Tr K F H kb v0 t (S j):=r0;show(wp K Γ e EK).e σ H λv O=>(wp K Γ (.var j) EK).e σ O λov H2=>(wp K Γ k EK).e σ H2 λzv H3=>dW K ov zv H3 λow H4=>(wp K Γ i EK).e σ H4 λiv H5=>uT K ow iv v H5 λH6=>Dn.nx σ H6;refine yE (DA g e) (I.lock1 hj) (X.lock1 hj) h λxv F1 O S1 M x n Zx s1 I1 X1 _ er1 _ #[he,q1]=>?_;have rx:=er1 he;show(match σ[j]? with|some (jr v)=>_|_=>False);rw[hv];refine yE (DA g k) I1 X1 q1 λzv F2 H2 S2 ρ2 z l Zz s2 I2 X2 _ er2 _ #[hez,b,ks,ts,n,s,et,hk,hf,ht,q2]=>?_;have s12:=s1.trans s2;have rz:=er2 hez;subst et;let#[r2,k2]:=later hj r0 s12;obtain⟨a,o,vs,ea,ho,dk,hw⟩:∃a o vs,v0=.ref a/\H2 a=jr o/\DK K F2 b o ks vs/\∃w,vs[n]?=jr w/\S j a:=by
     cases r2 with|dct h1 dk h2 h3 h4 h5=>let#[w,_,g1,_]:=h3.get ht;exact#[_,_,_,rfl,h1,dk,w,g1,(h5 _).mpr (.inl rfl)]
    let#[w,hw,sa]:=hw;subst ea;have gd:=(dk.mono I2.fh).get ho (rz.mono I2.fh) hk;rw[hf]at gd;have gd:YS K H2 a zv (vs[n]?):=gd;rw[hw]at gd;have fin:(wp K Γ i EK).e σ H2 λiv H5=>uT K w iv xv H5 λH6=>Dn.nx σ H6:=by
     refine yE (DA g i) I2 X2 q2 λiv F3 H3 S3 ρ3 y m Zy s3 I3 X3 _ er3 _ #[he3,hj3,q3]=>?_;have s13:=s12.trans s3;let#[r3,k3]:=later hj r0 s13;have ho3:H3 a=jr o:=by rw[k3 a sa,<- k2 a sa];exact ho
     refine Cb I3.fh r3 ho3 dk hw ht (er3 he3) ((rx.mono s2.ff).mono s3.ff) q3 λt' H4 S4 hh dm rt sub q=>?_;let#[st,I4,_]:=vG (W:=λ_=>False) I hj hv s13 I3 hh dm rt (λb hb=>.inl (sub b hb)) .none (λ_ z=>z.elim);exact ok.nx _ _ _ _ _ st.toStp.sts I4 q
    cases zv with|str z=>exact#[w,gd,fin]|ref c=>exact#[w,gd,fin]|_=>exact gd.elim
    all_goals exact h.elim
   |_=>exact h.elim
  |_=>exact h.elim
 | .sdf j k,C,F,H,S,ρ,σ,Z,Dn,c,I,X,h,ok=>by
  have h:iC ρ[j]? _:=h;unfold iC at h;split at h;rename_i t hj;let#[v0,hv,r0]:=I.sl j _ hj;have r0:Tr K F H kb v0 t (S j):=r0;let#[hd,h]:=h;show(match σ[j]? with|some (jr v)=>RZ K "dict" v H/\(wp K Γ k EK).e σ H λx O=>∀p,O p=kd->ML K v [x,.ref p] (CA O p (.dT 0 [])) λ_ H2=>Dn.nx σ H2|_=>False);rw[hv];constructor;cases r0 with
  |@dct _ b _ _ _ _ _ _ _ h1 dk _ _ _ _ =>
   cases b with|true=>let#[ep,kvs,rfl,_]:=dk;exact .inr (.inr (.inl #[rfl,.inr #[ep,kvs,h1]]))|false=>cases hd
  |_=>cases hd
  refine yE (DA g k) (I.lock1 hj) (X.lock1 hj) h λiv F1 O S1 M y m Zy s1 I1 X1 _ er _ #[he,hj1,q1]=>?_;intro p hp;have r1:=s1.toStp.keep r0 (I.lock1U hj);refine Jj I1.fh hp r1 (er he) q1 λt' H3 S3 hh dm rt sub q=>?_;let#[st,I3,_]:=vG (W:=λ_=>False) I hj hv s1 I1 hh dm rt (λb hb=>(sub b hb).imp id λ(z:b=p)=>.inr (by rw[z];exact hp)) .none (λ_ z=>z.elim);exact ok.nx _ _ _ _ _ st.toStp.sts I3 q
  all_goals exact h.elim
 | .whl t body,C,F,H,S,ρ,σ,Z,Dn,c,I,X,h,ok=>by
  let#[W,#[m0,w0],turn]:=h;refine#[λm R H'=>∃L F' S',Sts C [] F H S ρ σ F' H' S' L R/\Rl K F' H' S' L R/\W m L,#[m0,ρ,F,S,.refl,I,w0],?_];rintro m σ1 O ⟨M,F1,S1,s1,I1,w1⟩;refine(DA g t).t I1 (X.fromS s1) (turn m M w1) λk F' H' S' L s' J q=>?_;have s2:=s1.trans s'.toStp.sts;cases k with
  |false=>exact ok.nx _ _ _ _ _ s2 J q|true =>
   refine#[λR H'=>∃m',m' < m/\∃L F' S',Sts C [] F H S ρ σ F' H' S' L R/\Rl K F' H' S' L R/\W m' L,λ_ _ z=>z,?_];refine DF g body c J (X.fromS s2) q #[?_,?_,?_,?_];exact λF' H' S' L R s' I' #[m',hm,w]=>#[m',hm,L,F',S',s2.trans s',I',w]
   exact λv t W F' H' S' L R s' I' r hw fr q=>ok.rt v t W F' H' S' L R (s2.c.trans s') I' r hw (Px s2 fr) q;exact λF' H' S' L R s' I' q=>ok.nx _ _ _ _ _ (s2.trans s') I' q;exact λF' H' S' L R s' I' #[m',hm,w]=>#[m',hm,L,F',S',s2.trans s',I',w]
 | .frz is s,C,F,H,S,ρ,σ,Z,Dn,c,I,X,h,ok=>by let#[F',S',I',s',_]:=I.frzAt (C:=C) is;exact DF g s c I' (X.fromS s') h (ok.from s')|.hs s,C,F,H,S,ρ,σ,Z,Dn,c,I,X,h,ok=>by
  rcases h with⟨i,a,b,k,B,G,rfl,ne,⟨tb,hb⟩,h⟩| ⟨A,f,j,e,z,rfl,ne,h⟩
  exact Xm g (fN (jA c).1 i QE) I X ok ne hb h;exact Tb g I X ok ne h
 | .lnt is bs a b r,C,F,H,S,ρ,σ,Z,Dn,c,I,X,h,ok=>by
  let#[hs,ha,hb,h]:=h;have c1:=jA c;have c2:=jA c1.2;exact ye (C:=C) (P:=λZ ρ=>vB Ψ E a { Z with nx:=λM=>vB Ψ E b Z M } ρ) (Wp:=λD σ H=>HJ K Γ EK a { D with nx:=λσ H=>HJ K Γ EK b D σ H } σ H) (Z:={ Z with nx:=λρ=>vB Ψ E r Z ρ }) (Dn:={ Dn with nx:=λσ H=>HJ K Γ EK r Dn σ H })
   (λ{F H S ρ σ Z Dn} I X h ok=>DF g a (C7 a c1.1 ha) I X h #[λF' H' S' L R s' J q=>DF g b (C7 b c2.1 hb) J (X.fromS s') q (ok.from s'),ok.rt,ok.bk,ok.ct]) I X #[λF' H' S' L R s' J q=>DF g r c2.2 J (X.fromS s') q (ok.from s'),ok.rt,ok.bk,ok.ct] hs h
end
end
section
variable{z:Ev}{n:Need}
noncomputable def Fv(x:Str)(n:String):Bool:=(x==("bool":Str)&&n == "bool")||(x==("int":Str)&&n == "int")||(x==("str":Str)&&n == "str")||(x==("list":Str)&&n == "list")||(x==("tuple":Str)&&n == "tuple")||(x==("ValueError":Str)&&n == "ValueError")
theorem Ai{x:Str}{n:String}(h:Fv x n=kb):gp x=jr (.type n):=by simp only[Fv,wm,QW,beq_iff_eq]at h;rcases h with((((⟨rfl,rfl⟩| ⟨rfl,rfl⟩)|⟨rfl,rfl⟩)|⟨rfl,rfl⟩)|⟨rfl,rfl⟩)|⟨rfl,rfl⟩<;>kernel_rfl
structure Need where
 fn:LS
 va:LS
 no:LS
noncomputable def yx(n:Need):ItK->Bool
 | .val=>kb|.rng1=>n.no.contains ("range":Str)|.enum=>n.no.contains ("enumerate":Str)|.rev=>n.no.contains ("reversed":Str)|.itm=>kb
def fB(n:Need):PX->Bool
 | .glo x=>n.va.contains x|.bty x t=>n.no.contains x&&Fv x t|.bin _ a b | .cmp _ a b | .and a b | .or a b | .idx a b | .acons a b | .dsp a b=>fB n a&&fB n b
 | .not a | .lst a | .tup a=>fB n a
 | .lrv a=>n.no.contains "list" && (n.no.contains "reversed" && fB n a)|.ife a b c | .slc a b c=>fB n a&&(fB n b&&fB n c)
 | .call f y=>n.fn.contains f&&fB n y|.bi f y=>n.no.contains f.nm&&fB n y|.isi a c=>n.no.contains ("isinstance":Str)&&(fB n a&&fB n c)|.mt _ o y=>fB n o&&fB n y|.comp _ _ _ w u h v=>yx n w&&(fB n u&&(fB n h&&fB n v))|_=>kb
def KC(n:Need):PT->Bool
 | .seq s r=>KC n s&&KC n r|.set _ e=>fB n e|.own _ e=>fB n e|.expr e=>fB n e|.ret e=>fB n e|.ife c a b=>fB n c&&(KC n a&&KC n b)|.for_ _ y x h=>yx n y&&(fB n x&&KC n h)|.tset _ e=>fB n e|.six o i e=>fB n o&&(fB n i&&fB n e)|.sdf i k=>fB n (Ep i k)|.whl c b=>fB n c&&KC n b|.frz _ s=>KC n s|.hs s=>KC n s|.lnt _ _ a b r=>KC n a&&(KC n b&&KC n r)|.nil=>kb
noncomputable def TR(z:Ev)(n:Need):Glob:=#[z,λf=>f∈n.fn,λx=>x∈n.va,λx=>x∈n.no]
theorem N8{x:ItK}(h:yx n x=kb):Sr (TR z n) x:=by
 cases x with|val=>trivial|itm=>trivial|_=>exact Qo.mp h
theorem OC:∀(p:PX),fB n p=kb->EA (TR z n) p:=by
 intro p;induction p with
 |glo x=>intro h;exact Qo.mp h|bty x t=>intro h;let#[v,u]:=jA h;exact#[Qo.mp v,Ai u]|bin _ a b y w|cmp _ a b y w|and a b y w|or a b y w|idx a b y w|acons a b y w|dsp a b y w=>intro h;let#[v,u]:=jA h;exact#[y v,w u]
 |not a y|lst a y|tup a y=>intro h;exact y h
 |ife a b c y w g|slc a b c y w g=>intro h;let#[v,e]:=jA h;let#[u,k]:=jA e;exact#[y v,w u,g k]
 |call f l y=>intro h;let#[v,u]:=jA h;exact#[Qo.mp v,y u]|lrv a y=>intro h;let#[v,u]:=jA h;let#[k,i]:=jA u;exact#[Qo.mp v,Qo.mp k,y i]|bi f l y=>intro h;let#[v,u]:=jA h;exact#[Qo.mp v,y u]|isi a c y g=>intro h;let#[v,e]:=jA h;let#[u,k]:=jA e;exact#[Qo.mp v,y u,g k]|mt _ o l q y=>intro h;let#[v,u]:=jA h;exact#[q v,y u]|comp _ _ _ Z m j Y X s r=>intro h;let#[v,h]:=jA h;let#[u,h]:=jA h;let#[k,i]:=jA h;exact#[N8 v,X u,s k,r i]|_=>intro _;trivial
theorem C1:∀(p:PT),KC n p=kb->ZC (TR z n) p:=by
 intro p;induction p with
 |seq s r f g=>intro h;let#[u,y]:=jA h;exact#[f u,g y]|set _ e|own _ e|expr e|ret e|tset _ e=>intro h;exact OC _ h
 |six o i e=>intro h;let#[u,x]:=jA h;let#[y,w]:=jA x;exact#[OC _ u,OC _ y,OC _ w]|sdf i k=>intro h;exact OC _ h|frz _ s f=>intro h;exact f h|hs s f=>intro h;exact f h|lnt f bs a b r j v g=>intro h;let#[u,x]:=jA h;let#[y,w]:=jA x;exact#[j u,v y,g w]|whl c b v=>intro h;let#[u,y]:=jA h;exact#[OC _ u,v y]|ife c a b j v=>intro h;let#[u,x]:=jA h;let#[y,w]:=jA x;exact#[OC _ u,j y,v w]|for_ _ q m l v=>intro h;let#[u,x]:=jA h;let#[y,w]:=jA x;exact#[N8 u,OC _ y,v w]|_=>intro _;trivial
noncomputable def KN(N h:LS)(sc:hQ):Bool:=sc.kind==.function&&!sc.isCoroutine&&!sc.isGenerator&&jK N&&N.take h.9==h &&
 h.all (λx=>sc.names.lookup x==jr .local||sc.names.lookup x==jr .cell)&&sc.names.all λy=>y.2 != .free
theorem vL{N x:LS}{sc:hQ}(h:KN N x sc=kb):FnScope N x sc:=by simp only[KN,QW,Qw,wm,beq_iff_eq,Q7,bne_iff_ne,ne_eq]at h;let#[#[#[#[#[#[b,a],k],w],v],u],y]:=h;exact#[b,a,k,DE w,v,u,y]
def MA(n:Need)(b:PT)(N h:LS)(st:g7):Bool:=KN N h (LA st)&&lK b #[N,LA st] (vC st)&&KC n b
def ck:Md->T->Sl
 | .chg,t=>.own t|_,t=>.bor t
noncomputable def fE:List Md->LT->kA
 |_,[]=>[]|md,t::ts=>jr (ck (md.headD .fro) t)::fE md.tail ts
def mB(N:LS)(md:List Md)(ts:LT):kA:=fE md ts++QAa (N.9 - ts.9) kd
noncomputable def XB:Nat->List Md->Nat->LN
 |_,_,0=>[]|k,md,n+1=>match md.headD .fro with
  | .chg=>k::XB (k+1) md.tail n|_=>XB (k+1) md.tail n
def rW:Option (LT)->(LT->Prop)->Prop
 |some os,Q=>Q os|none,_=>False
def YC(P:PSp)(n:Nat)(Q:T->LT->Prop):PEnds where
 nx:=λh=>rW (BA (XB 0 P.md n) h) (Q (.d .none))
 rt:=λt h=>rW (BA (XB 0 P.md n) h) (Q t)
abbrev Bz(Ψ:PEv)(b:PT)(p:PSp)(N h:LS)(ds:LT)(Q:T->LT->Prop):Prop:=ds.9=h.9/\pF Ψ b (YC p h.9 Q) (mB N p.md ds)
abbrev JE(Ψ:PEv)(b:PT)(p:PSp)(N x:LS):Prop:=∀(h:LT) (Q:T->LT->Prop) (E:XE),p.run h Q E->h.9=x.9/\pF Ψ b (YC p x.9 Q) (mB N p.md h)
def HV(mg:Str->Option kt)(x:Str):V:=((mg x).bind jO).getD .non
def Bs(K:QC)(mg:Str->Option kt)(Ψ:PEv):Ev:=#[λf=>lift K (Ψ.sp f),HV mg]
structure ValsOk(P:vb)(w:xb)(K:QC)(mg:Str->Option kt)(Ψ:PEv)(va:LS):Prop where
 rep:∀x d,Ψ.va x=jr d->∀F,Rep K F (HV mg x) d
 has:∀x∈va,∃u v,mg x=jr u/\jO u=jr v
theorem ZY{u:kt}{v:V}(h:jO u=jr v):aA v u:=by cases u<;>first | (obtain rfl:=Ql h;first|rfl|exact#[_,rfl])|exact nomatch (show(none:Option V)=jr v from h)
end
section
variable{P:vb}{w:xb}{K:QC}{mg:Str->Option kt}{base:xk}{Ψ:PEv}
section
variable{k:Nat}{F H:Hp}{Y M:lB}{md:List Md}{vs:LV}{ts:LT}{N l:LS}{R:PSp}{x o:Str}{st:g7}{f:k4}{p:g6}{b:PT}{n:Need}
def JC(P:vb)(w:xb)(K:QC)(mg:Str->Option kt)(base:xk)(Ψ:PEv)(k:Nat)(f:Str):Prop :=
 ∃(a:k4) (p:g6) (l:LS),FnOk P w K mg base M4 k a p l (lift K (Ψ.sp f))/\mg f=jr (.ref a)/\wW K (.ref a)=kb/\LH K p l []
theorem JC.mono{j:Nat}{f:Str}(h:JC P w K mg base Ψ j f)(hk:j<=k):JC P w K mg base Ψ k f:=by let#[a,p,l,z,y]:=h;exact#[a,p,l,z.mono hk,y]
theorem ArgsR.length(h:ArgsR K F H Y md vs ts):vs.9=ts.length:=by
 induction h with|nil=>rfl|chg _ _ e=>exact QP Nat.succ e|rd _ _ _ _ e=>exact QP Nat.succ e
theorem SI:∀(m:List Md) (ts:LT),(fE m ts).9=ts.9
 |_,[]=>rfl|m,d::ds=>by unfold fE;rw[QM,QM,SI]
theorem P6{m:Md}(h:m≠.chg)(t:T):ck m t=.bor t:=by cases m<;>first|rfl|exact o2 rfl h
theorem EH(md:List Md)(v:V)(vs:LV):sB md (v::vs)=match md.headD .fro with | .chg=>v::sB md.tail vs|_=>sB md.tail vs:=by first | (rw[sB];done) | (rw[sB];cases md.headD .fro<;>rfl)
theorem nN(md:List Md)(v:T)(vs:LT):HB md (v::vs)=match md.headD .fro with | .chg=>v::HB md.tail vs|_=>HB md.tail vs:=by first | (rw[HB];done) | (rw[HB];cases md.headD .fro<;>rfl)
theorem aP(md:List Md)(t:T)(ts:LT):fE md (t::ts)=jr (ck (md.headD .fro) t)::fE md.tail ts:=by rw[fE]
theorem bf(h:ArgsR K F H Y md vs ts)(r:Trs K F H kb (sB md vs) (HB md ts) M) :
  ∃Z:Ft,(∀(i:Nat) s,(fE md ts)[i]?=jr (jr s)->∃v,vs[i]?=jr v/\Tr K F H s.st v s.t (Z i))/\(∀(i:Nat) t,(fE md ts)[i]?=jr (jr (.own t))->∀b,Z i b->M b)/\(∀(i:Nat) t,(fE md ts)[i]?=jr (jr (.bor t))->∀b,Z i b->Y b) /\
   ∀(i j:Nat) t u,i≠j->(fE md ts)[i]?=jr (jr (.own t))->(fE md ts)[j]?=jr (jr (.own u))->∀b,Z i b->¬ Z j b:=by
 induction h generalizing M with
 |nil=>exact#[λ_ _=>False,λi s e=>by simp[fE]at e,λi t e=>by simp[fE]at e,λi t e=>by simp[fE]at e,λi j t u _ e=>by simp[fE]at e]|@chg md v vs t ts hm L W =>
  have I:sB md (v::vs)=v::sB md.tail vs:=by rw[EH,hm]
  have G:HB md (t::ts)=t::HB md.tail ts:=by rw[nN,hm]
  rw[I,G]at r;cases r with
  |@cons _ _ _ _ _ _ J S X O n q =>
   let#[Z,C,a,B,A]:=W O;have E:fE md (t::ts)=jr (.own t)::fE md.tail ts:=by rw[aP,hm];rfl
   rw[E];refine#[λi=>match i with|0=>J|i+1=>Z i,λi s e=>?_,λi u e b hb=>?_,λi u e b hb=>?_,λi j u w m e g b hb y=>?_];cases i with|zero=>simp at e;subst e;exact#[v,rfl,X]|succ i=>exact C i s (by simpa using e)
   cases i with|zero=>exact(q b).mpr (.inl hb)|succ i=>exact(q b).mpr (.inr (a i u (by simpa using e) b hb))
   cases i with|zero=>simp at e|succ i=>exact B i u (by simpa using e) b hb
   cases i with
   |zero =>
    cases j with|zero=>exact m rfl|succ j=>exact n b hb (a j w (by simpa using g) b y)
   |succ i =>
    cases j with|zero=>exact n b y (a i u (by simpa using e) b hb)|succ j=>exact A i j u w (λz=>m (by rw[z])) (by simpa using e) (by simpa using g) b hb y
 |@rd md v vs t ts J hm X Q L W =>
  have I:sB md (v::vs)=sB md.tail vs:=by rw[EH];cases e:md.headD .fro<;>first|exact o2 e hm|rfl
  have G:HB md (t::ts)=HB md.tail ts:=by rw[nN];cases e:md.headD .fro<;>first|exact o2 e hm|rfl
  rw[I,G]at r;let#[Z,C,a,B,A]:=W r;have E:fE md (t::ts)=jr (.bor t)::fE md.tail ts:=by rw[aP,P6 hm]
  rw[E];refine#[λi=>match i with|0=>J|i+1=>Z i,λi s e=>?_,λi u e b hb=>?_,λi u e b hb=>?_,λi j u w m e g b hb y=>?_];cases i with|zero=>simp at e;subst e;exact#[v,rfl,X]|succ i=>exact C i s (by simpa using e)
  cases i with|zero=>simp at e|succ i=>exact a i u (by simpa using e) b hb
  cases i with|zero=>exact Q b hb|succ i=>exact B i u (by simpa using e) b hb
  cases i with
  |zero=>simp at e|succ i =>
   cases j with|zero=>simp at g|succ j=>exact A i j u w (λz=>m (by rw[z])) (by simpa using e) (by simpa using g) b hb y
theorem C5(f:Same F H)(h:ArgsR K F H Y md vs ts)(hm:Trs K F H kb (sB md vs) (HB md ts) M)(B:∀b,Y b->¬ M b) :
  ∃S,Rl K F H S (mB N md ts) (sD N vs)/\∀b,U (mB N md ts) S b->M b:=by
 let#[Z,W,a,X,r]:=bf h hm;have hl:=h.9;have get:∀(i:Nat) s,(mB N md ts)[i]?=jr (jr s)->(fE md ts)[i]?=jr (jr s):=λi s e=>by
  unfold mB at e;rcases QBK i ts.9 with z|z
  ·rwa [qP (by rw[SI];exact z)]at e
  rw[Qy (by rw[SI];exact z),wv]at e;split at e<;>cases e
 refine#[Z,#[f,?_,λi s e=>?_,λi j t s n q m b hb y=>?_],λb #[i,t,e,hb]=>a i t (get i _ e) b hb];unfold mB sD;rw[QI,QI,SI,QD,wB,wB,hl];let#[v,g,A]:=W i s (get i s e);refine#[v,?_,A];unfold sD;rw[qP (by rw[QD];exact(Qg.mp g).1),Qa,g];rfl;cases s with|own u=>exact r i j t u n (get i _ q) (get j _ m) b hb y|bor u=>exact B b (X j u (get j _ m) b y) (a i t (get i _ q) b hb)
theorem LP:∀{md:List Md}{k n:Nat}{vs:LV}{σ:St},vs.9=n->(∀(i:Nat) v,vs[i]?=jr v->σ[k+i]?=jr (jr v))->(sB md vs).map (λv=>jr (jr v))=(XB k md n).map λj=>σ[j]?
 |md,k,0,vs,σ,h,g=>by
  cases vs with|nil=>rfl|cons _ _=>cases h
 |md,k,n+1,vs,σ,h,g=>by
  cases vs with
  |nil=>cases h|cons v vs =>
   have y:=LP (md:=md.tail) (k:=k+1) (n:=n) (vs:=vs) (σ:=σ) (by simpa using h) λi w z=>by have:=g (i+1) w (by simpa using z);rw[show k+1+i=k+(i+1) by omega];exact this
   have g0:=g 0 v rfl;rw[EH];unfold XB;cases e:md.headD .fro with|chg=>simp only[QT,y];rw[show σ[k]?=jr (jr v) from g0]|_=>exact y
theorem GN:∀{md:List Md}{k n j:Nat},j∈XB k md n->k<=j
 |md,k,0,j,h=>by simp[XB]at h|md,k,n+1,j,h=>by
  unfold XB at h;cases e:md.headD .fro with
  |chg=>rw[e]at h;rcases QL.mp h with z|z;omega;have:=GN z;omega
  |_=>rw[e]at h;have:=GN h;omega
theorem LU:∀(md:List Md) (k n:Nat),(XB k md n).Nodup
 |md,k,0=>Q4|md,k,n+1=>by
  have h:=LU md.tail (k+1) n;unfold XB;cases e:md.headD .fro with|chg=>exact Qh.mpr #[λz=>by have:=GN z;omega,h]|_=>exact h
theorem k9(F:Fun K x o st f p)(KB:MA n b N l st=kb)(hc:dD (XB 0 R.md l.9) b=kb)
  (fns:∀g∈n.fn,JC P w K mg base Ψ k g) (G:ValsOk P w K mg Ψ n.va) (nos:∀y∈n.no,mg y=kd)
  (body:∀ts Q E,R.run ts Q E->ts.9=l.9/\pF Ψ b (YC R l.9 Q) (mB N R.md ts)):FnOk P w K mg base M4 (k+1) f p l (lift K R):=by
 let#[c12,c3]:=jA KB;let#[c1,c2]:=jA c12;have S:=vL c1;refine F.ok S (λvs H Q E h=>?_) (λcdv A L s H vs Q E hr h=>?_);let#[F',ts,M,Y,h1,h2,h3,h4,h5]:=h;rw[h2.9];exact(body ts _ _ h5).1;let#[F',ts,M,Y,h1,h2,h3,h4,h5]:=h;have q:=(body ts _ _ h5).2;have hlen:=(body ts _ _ h5).1;have ok:OkS ((sX M4 P w K mg base N o (LA st) f cdv A L s H E).nox) #[N,LA st] (TR (Bs K mg Ψ) n) E0:={
  N:=rfl
  sc:=rfl
  calm:=rfl
  un:=by have:=hr.un;show(A.deeper _).units+66<hZ;omega
  fn:=λg hg=>by let#[a,gd,gps,g1,g2,g3,g4]:=fns g hg;exact#[M4,k,a,gd,gps,g1,hr,g2,g3,g4,Jq,λ_ _ _ _ _ z=>z]
  val:=λy hy=>by let#[u,v,e1,e2]:=G.has y hy;refine#[u,e1,?_];show aA (HV mg y) u;unfold HV;rw[e1];show aA ((jO u).getD .non) u;rw[e2];exact ZY e2
  no:=λy hy=>nos y hy
  po:=PassesOwn.never
  nd:=S.nd
  cel:=λ_=>rfl }
 refine#[_,(yw b ok c2 (C1 b c3)).1,?_];let#[S0,I,hU]:=C5 (N:=N) h1 h2 h3 h4;have g:GOk K (Bs K mg Ψ) Ψ:=#[λ_ _ _ _ _ h=>h,λy d e F=>G.rep y d e F]
 have hvl:vs.9=l.length:=h2.length.trans hlen;have fin:∀v t W C B J m X,Stc (XB 0 R.md l.9) F' H S0 (mB N R.md ts) (sD N vs) C B J m X->Rl K C B J m X->Tr K C B kb v t W->Held C B J m W->(∀b,W b->H b=kd∨U (mB N R.md ts) S0 b) ->
   rW (BA (XB 0 R.md l.9) m) (λos=>∀v F3 H3 Z M',Frm M F' H F3 H3->Tr K F3 H3 kb v t Z->Trs K F3 H3 kb (sB R.md vs) os M'->(∀b,Z b->¬ M' b)->(∀b,Z b∨M' b->M b∨H b=kd)->Q v H3)->Q v B:=by
  intro v t W C B J m X s I2 r hw fr q;cases eo:BA (XB 0 R.md l.9) m with
  |none=>rw[eo]at q;exact q.elim|some os =>
   rw[eo]at q;have hv:(sB R.md vs).map (λv=>jr (jr v))=(XB 0 R.md l.9).map λj=>X[j]?:=by rw[LP (md:=R.md) (k:=0) (n:=l.9) (vs:=vs) (σ:=sD N vs) hvl λi w hw=>?_];exact wQ λj O=>(s.sg j O).symm;unfold sD;rw[w8,qP (by rw[QD];exact(Qg.mp hw).1),Qa,hw];rfl
   have trs:=I2.trs (LU _ _ _) eo hv;have own:∀j∈XB 0 R.md l.9,∃t,m[j]?=jr (jr (.own t)):=λj O=>by let#[i,hi]:=Wz.mp O;let#[t,_,e]:=(jE eo).2 i j hi;exact#[t,e]
   have lk:∀b,U (mB N R.md ts) S0 b∨H b=kd->M b∨H b=none:=λb hb=>hb.imp (hU b) id;refine q v C B W _ #[s.ff,I2.fh,λb u e n=>s.hh b u e λz=>n (hU b z),s.dm,λb e z=>lk b (s.fn b e z)] r trs (λb hb #[j,O,z]=>?_) λb hb=>?_;let#[t',e]:=own j O;exact hw.nw j _ e b hb z;rcases hb with hb|⟨j,O,z⟩
   ·exact lk b (fr b hb).symm
   let#[t',e]:=own j O;exact lk b (s.uu b #[j,t',e,z])
 refine DF g b hc I (λ_ _ _ _ _ _ _ _ _ z=>z.elim) q #[?_,?_,λ_ _ _ _ _ _ _ z=>z.elim,λ_ _ _ _ _ _ _ z=>z.elim];intro C B J m X s I2 q;exact fin .non (.d .none) (λ_=>False) C B J m X s.c I2 (.d .non λ_ z=>z) .none (λ_ z=>z.elim) q;intro v t W C B J m X s I2 r hw fr q;exact fin v t W C B J m X s I2 r hw fr q
theorem A8{h:PEv}(F:Fun K x o st f p)(hm:mg x=jr (.ref f))(hb:LH K p l [])(KB:MA n b N l st=kb)(hc:dD (XB 0 R.md l.9) b=kb)
  (v:∀g∈n.fn,JC P w K mg base Ψ k g) (z:ValsOk P w K mg Ψ n.va) (u:∀y∈n.no,mg y=kd)
  (body:∀ts Q E,R.run ts Q E->ts.9=l.9/\pF Ψ b (YC R l.9 Q) (mB N R.md ts)) (a:h.sp x=R):JC P w K mg base h (k+1) x :=
 #[f,p,l,by rw[a];exact k9 F KB hc v z u body,hm,F.kp,hb]
theorem ae(F:Fun K x o st f p)(hm:mg x=jr (.ref f))(hb:LH K p l [])(KB:MA n b N l st=kb)(u:∀ts Q E,¬ (Ψ.sp x).run ts Q E):JC P w K mg base Ψ (k+1) x:=by refine#[f,p,l,F.ok (vL (jA (jA KB).1).1) (λvs H Q E h=>?_) (λi A y s H vs Q E m h=>?_),hm,F.kp,hb];let#[j,ts,M,Y,g,e,a,v,z]:=h;exact(u _ _ _ z).elim;let#[j,ts,M,Y,g,e,a,v,z]:=h;exact(u _ _ _ z).elim
end
end
noncomputable def EQ:PSp where
 md:=[.shal]
 run:=λx Q _=>∃h:LJ,h.9<=63/\(∀n∈h,QAK n<=1048576)/\x=[.lst ((h.map j1).map T.d)]/\Q (.d (.bool kb)) []
def La:PSp:=#[[],λ_ _ _=>False,λ_ _ h=>h]
theorem mP{K:QC}{F:Hp}:∀(ns:LJ),Reps K F (ns.map V.int) (ns.map j1)
 |[]=>.nil|n::r=>.cons (.int n) (mP r)
theorem XM{K:QC}{F:Hp}:∀(ns:LS),Reps K F (ns.map V.str) (ns.map j0)
 |[]=>.nil|n::r=>.cons (.str n) (XM r)
theorem Pl(K:QC)(H:Hp)(a:k4)(ns:LJ)(hl:ns.9<=63)(h:∀n∈ns,QAK n<=1048576)(x:aC K H a (ns.map V.int)):lift K EQ [.ref a] H (λv _=>v=.bl kb) λ_ _ _=>False:=by
 refine#[H,[.lst ((ns.map j1).map T.d)],λ_=>False,λ_=>False,.refl _,.rd (Z:=λ_=>False) (by simp[EQ]) (.lstF x (mP ns) λ_ z=>z) (λ_ z=>z) .nil,.nil λ_ z=>z,λ_ z=>z.elim,ns,hl,h,rfl,λv w u Z y _ r _ _ _=>?_];cases r with|d r _=>cases r;rfl
theorem FV{ns:LJ}:∀n∈ns,QAA (.int n)<=wy (ns.map QAE.int):=by
 induction ns with|nil=>intro n h;cases h|cons m ns x=>intro n h;show _<=QAA (.int m)+1+wy (ns.map QAE.int);rcases QL.mp h with rfl|h;omega;have:=x n h;omega
theorem zf{ns:LJ}(h:QAE.layableAll [.list (ns.map .int)]=kb):∀n∈ns,QAK n<=1048576:=by
 intro n z;have v:=(PySem.W.layableW_iff.mp (PySem.W.layableW_arg h _ QE)).2.2;have k:wy (ns.map QAE.int)<=2 ^ 20:=v;have y:=FV n z;have u:QAA (.int n)=if n==0 then 0 else n.natAbs.log2+1:=rfl
 rw[PySem.intBits_le_iff];by_cases x:n=0;subst x;exact Nat.pow_pos (by decide);have:(n==0)=false:=by simpa using x
 rw[u,this]at y;have w:n.natAbs.log2+1<=1048576:=by have:n.natAbs.log2+1<=wy (ns.map QAE.int):=y;omega
 exact(Nat.log2_lt (show n.natAbs≠0 by omega)).mp ()
def JV(K:QC)(x:Str)(st:g7):Prop:=∃f h,wA K vx x=jr (jr (.ref f))/\Fun K x x st f h
def yO(K:QC)(x:Str)(d:D):Prop:=∃u v,wA K vx x=jr (jr u)/\jO u=jr v/\∀F,Rep K F v d
theorem m5{K:QC}{x:Str}{f:k4}{xs:LS}{v:Option k4}{its:LW}{n:Nat}{z:Array (Option kt)}(a:wA K vx x=jr (jr (.ref f)))
  (l:K.lookup f=jr #[.type "tuple",v,.seq its.toArray n,z]) (h:its.map jO=xs.map λy=>jr (.str y)) (k:xs.9<=ku):yO K x (.tuple (xs.map j0)):=by
 refine#[_,_,a,rfl,λF=>.tup (.inr #[_,its.toArray,n,l,rfl,rfl,?_,?_]) (XM xs)];have:=QP qR h;simp at this;simp;omega;have key:∀(its:LW) (xs:LS),its.map jO=xs.map (λy=>jr (.str y))->nA (xs.map V.str) its:=by
  intro its;induction its with
  |nil =>
   intro xs h;cases xs with|nil=>exact .nil|cons _ _=>simp at h
  |cons u its w =>
   intro xs h;cases xs with|nil=>simp at h|cons y xs=>simp only[QT,Wf]at h;exact .cons (ZY h.1) (w xs h.2)
 simpa using key its xs h
section
variable{P:vb}{w:xb}{K:QC}{mg:Str->Option kt}{base h:xk}{Ψ:PEv}
section
variable{x:Str}{c:PEv}{st:g7}{z:LS}{k:Nat}{n:Need}
theorem yO.inMg(X:K.In h)(G:h.Ns vx mg){d:D}(v:yO K x d):(∀F,Rep K F (HV mg x) d)/\∃u v,mg x=jr u/\jO u=jr v:=by
 let#[u,v,b,y,a]:=v;have e:=WG X G b;refine#[λF=>?_,u,v,e,y];have:HV mg x=v:=by unfold HV;rw[e];show(jO u).getD .non=v;rw[y];rfl
 rw[this];exact a F
theorem E8{R:PSp}{N:LS}{b:PT}(X:K.In h)(G:h.Ns vx mg)(D:JV K x st)(KB:MA n b N z st=kb)(hc:dD (XB 0 R.md z.9) b=kb)
  (hb:∀(kV i l:kt) (p:Option k4) (j ct:kt) (us:LW),us.9=z.9->lv (ql x x (MC st) (vC st) (LA st) .none kV i l p j ct) #[us,[]]=aj (z.zip us))
  (e:∀g∈n.fn,JC P w K mg base Ψ k g) (u:ValsOk P w K mg Ψ n.va) (v:∀y∈n.no,wA K vx y=jr kd)
  (body:∀ts Q E,R.run ts Q E->ts.9=z.9/\pF Ψ b (YC R z.9 Q) (mB N R.md ts)) (o:c.sp x=R):JC P w K mg base c (k+1) x:=by
 let#[f,q,a,F]:=D;exact A8 F (WG X G a) (F.binds hb) KB hc e u (λy m=>QAW X G (v y m)) body o
theorem C3{N:LS}{b:PT}(X:K.In h)(G:h.Ns vx mg)(D:JV K x st)(KB:MA n b N z st=kb)
  (hb:∀(kV y v:kt) (g:Option k4) (u ct:kt) (us:LW),us.9=z.9->lv (ql x x (MC st) (vC st) (LA st) .none kV y v g u ct) #[us,[]]=aj (z.zip us))
  (e:∀ts Q E,¬ (Ψ.sp x).run ts Q E):JC P w K mg base Ψ (k+1) x:=by
 let#[f,i,a,F]:=D;exact ae F (WG X G a) (F.binds hb) KB e
theorem JC.to(h:JC P w K mg base Ψ k x)(e:c.sp x=Ψ.sp x):JC P w K mg base c k x:=by let#[f,v,z,u,y]:=h;exact#[f,v,z,by rw[e];exact u,y]
theorem Tl{j:k4}(X:K.In h)(G:h.Ns vx mg)(D:JV K "law" st)(q:z=[x])(g:mg "law"=jr (.ref j))(hs:Ψ.sp "law"=EQ)
  (hb:∀(kV v i:kt) (l:Option k4) (b ct:kt) (us:LW),us.9=z.9->lv (ql "law" "law" (MC st) (vC st) (LA st) .none kV v i l b ct) #[us,[]]=aj (z.zip us))
  (H:∀base:xk,K.In base->base.Ns vx mg->∀f y,Fun K "law" "law" st f y->mg "law"=jr (.ref f)->FnOk P w K mg base M4 k f y z (lift K (Ψ.sp "law"))) :
  ∃y:g6,(∀(s:ko) (u:kt),nL s y #[[u],[]] [(x,u)])/\∀base:xk,K.In base->base.Ns vx mg->FnOk P w K mg base M4 k j y [x] (lift K EQ):=by
 let#[f,y,a,F]:=D;have e:=g.symm.trans (WG X G a);cases e;subst q;refine#[y,λs u=>?_,λbase p o=>?_];let#[Z,Y,kV,v,i,l,b,ct,m,rfl,lk,r]:=F.ex;exact .of_eq (hb kV v i l b ct [u] rfl);rw[<- hs];exact H base p o j y F g
end
end
theorem tB{α:Type}{body:T->(Option T->Prop)->Prop}(g f:α->T):∀(l:List α) (h:LT) (Q:LT->Prop),(∀x∈l,∀R:Option T->Prop,R (jr (f x))->body (g x) R)->h.9+l.9<=ku->Q (h++l.map f)->uD body (l.map g) h Q
 |[],h,Q,_,hl,q=>by simp only[wT,uD];exact#[by simpa using hl,by simpa using q]|x::r,h,Q,hb,hl,q=>by simp only[QT,uD];refine hb x QE _ ?_;simp only[QM]at hl;refine#[(),tB g f r _ Q (λy z=>hb y (QF _ z)) (by simp;omega) (by simpa using q)]
theorem lA{α:Type}{body:T->(Option T->Prop)->Prop}(g f:α->T)(p:α->Bool):∀(l:List α) (h:LT) (Q:LT->Prop),(∀x∈l,∀R:Option T->Prop,R (if p x=kb then jr (f x) else kd)->body (g x) R)->h.9+l.9<=ku->Q (h++(l.filter p).map f)->uD body (l.map g) h Q
 |[],h,Q,_,hl,q=>by simp only[wT,uD];exact#[by simpa using hl,by simpa using q]|x::r,h,Q,hb,hl,q=>by
  simp only[QT,uD];refine hb x QE _ ?_;simp only[QM]at hl;cases u:p x with|true=>refine#[(),lA g f p r _ Q (λy z=>hb y (QF _ z)) (by simp;omega) ?_];rw[wI,oa u]at q;simpa using q|false=>refine lA g f p r _ Q (λy z=>hb y (QF _ z)) () ?_;rw[wI,ot (by rw[u];simp)]at q;exact q
theorem EL{α:Type}{xs:List α}{i:Int}(h0:0<=i)(x:i<xs.9):∃v,NC xs i=jr v/\xs[i.toNat]?=jr v:=by
 have h:i.toNat<xs.length:=()
 have e:((i.toNat:Nat):Int)=i:=()
 have q:=xC (Qi h);rw[e]at q;exact#[xs[i.toNat],q,Qi h]
theorem XF{α h:Type}(f:α->h)(xs:List α)(i:Int):NC (xs.map f) i=(NC xs i).map f:=by
 unfold NC;rw[QD];cases FR xs.9 i with|none=>rfl|some j=>exact Qa
theorem FA{Ψ:PEv}{E:XE}{α:Type}{body:PT}{u:Tg}{Z:PEnds}(g:α->T)(W:List α->kA->Prop)(h0:∀ρ,W [] ρ->Z.nx ρ)
  (hs:∀x xs ρ (N:kA->Prop),(∀y,W xs y->N y)->W (x::xs) ρ->bL u (g x) ρ λz=>vB Ψ E body { Z with nx:=N,ct:=N,bk:=Z.nx } z):∀(xs:List α) (ρ:kA),W xs ρ->zI (vB Ψ E body) u Z (xs.map g) ρ
 |[],ρ,w=>h0 ρ w|x::xs,ρ,w=>hs x xs ρ (λh=>zI (vB Ψ E body) u Z (xs.map g) h) (λh v=>FA g W h0 hs xs h v) w
noncomputable def Hf(y:List (Str×PSp))(h:List (Str×D)):PEv:=#[λf=>(y.lookup f).getD La,λx=>h.lookup x]
theorem dY{P:vb}{w:xb}{K:QC}{mg:Str->Option kt}{h:xk}{v:List (Str×PSp)}{tbl:List (Str×D)}{z:LS}(X:K.In h)(G:h.Ns vx mg)(u:∀p∈tbl,yO K p.1 p.2)
  (y:(z.all λx=>(tbl.map qp).contains x)=kb):ValsOk P w K mg (Hf v tbl) z:=by
 refine#[λx d e F=>((u (x,d) (qS e)).inMg X G).1 F,λx k=>?_];have:=Qw.mp y x k;let#[p,a,e]:=QX.mp (Qo.mp this);rw[<- e];exact((u p a).inMg X G).2
theorem sQ{α:Type}[BEq α][LawfulBEq α]{l m:List α}(h:(l.all λx=>m.contains x)=kb):∀x∈l,x∈m:=λx y=>Qo.mp (Qw.mp h x y)
section
variable{a b c:PX}{i:Nat}{n:Int}{x:Str}{m:Mt}{f:Str}{g:Bi}{u:hE}{w:bb}{is:List Bool}{h:LS}{z:Tg}{v:ItK}{y:String}
theorem bY:TF (.var i)=[i]:=rfl
theorem vP:TF (.acons a b)=TF a++TF b:=rfl
theorem HS:TF .anil=[]:=rfl
end
def vF{α:Type}(o:Option α)(K:α->Prop):Prop:=∃a,o=jr a/\K a
theorem vF.mk{α:Type}{o:Option α}{a:α}{K:α->Prop}(e:o=jr a)(k:K a):vF o K:=#[a,e,k]
theorem OA{α:Type}{a:α}{K:α->Prop}:vF (jr a) K=K a:=o9 #[λ#[_,e,k]=>by cases e;exact k,λk=>#[a,rfl,k]]
theorem kF{α h:Type}{o:Option α}{f:α->h}{K:h->Prop}:vF (o.map f) K=vF o λa=>K (f a):=by
 cases o with|none=>exact o9 #[λ#[_,e,_]=>(by cases e),λ#[_,e,_]=>(by cases e)]|some a=>rw[qD,OA,OA]
def jB(Ψ:PEv)(e:PX)(E:XE)(ρ:kA)(K:TK):Prop:=(pe Ψ e E).e ρ K
def yN(Ψ:PEv)(e:PX)(E:XE)(ρ:kA)(K:Bool->kA->Prop):Prop:=(pe Ψ e E).t ρ K
def zN(Ψ:PEv)(e:PX)(E:XE)(md:List Md)(ρ:kA)(K:List (T×Bool)->kA->Prop):Prop:=(pe Ψ e E).a md ρ K
def rL(p:PSp)(ts:LT)(K:T->LT->Prop)(E:XE):Prop:=p.run ts K E
def Z4(x:T)(n:Bool)(Ψ:PEv)(b:PX)(E:XE)(ρ:kA)(K:TK):Prop:=sq (gA x n) ρ (cu (pe Ψ b E).e) λy h=>K y.1 y.2 h
def Ga(x:T)(n:Bool)(Ψ:PEv)(b:PX)(E:XE)(md:List Md)(ρ:kA)(K:List (T×Bool)->kA->Prop):Prop:=sq (if n=kb then .d .none else x) ρ ((pe Ψ b E).a md) K
def jI(i:Nat)(σ ρ:kA)(K:TK):Prop:=Ku σ[i]? λt=>K t kn ρ
def u6(i:Nat)(σ:kA)(ρ:kA)(j:Nat)(R:T->kA->Prop):Prop:=tw ρ j R σ[i]?
def sO(Ψ:PEv)(E:XE)(r:PT)(Z:PEnds)(i:Nat)(x:T)(n:Bool)(ρ:kA):Prop:=RF x n=kb/\vB Ψ E r Z (ρ.set i (bD x.er))
def Zq(Ψ:PEv)(E:XE)(r:PT)(Z:PEnds)(i:Nat)(x:T)(n:Bool)(ρ:kA):Prop:=RF x n=kb/\vB Ψ E r Z (ρ.set i (jr (.own x)))
def rC(x:T)(n:Bool)(P:Prop):Prop:=RF x n=kb/\P
def mK(h:hE)(x:T)(n:Bool)(y:T)(m:Bool)(Q:T->Bool->Prop):Prop:=binT h (gA x n).vw (gA y m).vw Q
def PB(h:bb)(x y:T)(Q:Bool->Prop):Prop:=Oe h x.er y Q
def Kb(x:T)(Q:Bool->Prop):Prop:=sI x.er Q
def nz(x:T)(Q:Bool->Prop):Prop:=uf x.er Q
def VO(c:PX)(x:T)(Q:Bool->Prop):Prop:=am c x.er Q
def jQ(f:Bi)(xs:List (T×Bool))(Q:T->Bool->Prop):Prop:=x4 f (AB xs) Q
def KA(x:T)(n:Bool)(y:T)(m:Bool)(Q:T->Prop):Prop:=XO (gA x n).vw (gA y m).vw Q∨UU (gA x n).vw y.er Q
def Po(Ψ:PEv)(E:XE)(c:PX)(q:PT)(Z:PEnds)(ρ:kA):Prop:=vB Ψ E (.whl c q) Z ρ
def Pf(t y x:T)(Q:T->Prop):Prop:=Mp t y.er x.er Q
def Fp(z t:T)(Q:T->(T->T)->Prop):Prop:=Gp z.er t Q
def Ap(y t:T)(Q:T->Prop):Prop:=ij y.er t Q
def lH(x:T)(n:Bool)(l u:Option Int)(Q:T->Bool->Prop):Prop:=BI (gA x n).vw l u Q
def ZL(xs:List (T×Bool))(C:LT->Prop):Prop:=HE xs=kb/\C (NF xs)
def xK(h:ItK)(xs:List (T×Bool))(R:LT->Prop):Prop:=LB h (AB xs) R
def rB(md:List Md)(xs:List (T×Bool))(C:LT->Prop):Prop:=vF (ZA md xs []) C
def eG(Ψ:PEv)(E:XE)(x:List Bool)(y:LS)(u:Tg)(h z:PX)(ρ:kA):T->(Option T->Prop)->Prop:=iG u (BO y.9 x (lockA ρ)) (if isNop h=kb then λρ R=>R kb ρ else(pe Ψ h E).t) (pe Ψ z E).e
def OP(h:Tg)(x:T)(ρ:kA)(K:kA->Prop):Prop:=bL h x ρ K
section
variable{Ψ:PEv}{E:XE}{ρ:kA}{K:TK}{L:Bool->kA->Prop}{M:List (T×Bool)->kA->Prop}{a b c Y its U V:PX}{Z:T->kA->Prop}
section
variable{i j:Nat}{x:T}{w:bb}{f t u:Str}{p:PSp}{md:List Md}{v m:List Bool}{g:LS}{o:Tg}{X:ItK}{R:Option T->Prop}{s:Option Sl}{σ:kA}{n:Bool}{ts:LT}
theorem fu{i:Int}:jB Ψ (.ng i) E ρ K=K (.d (.int (-i))) kn ρ:=rfl
theorem Oy{b:PX}{x y:Str}{l:LN}(h:qE x y 0 x.9 1=i::l)(A:∀K,jB Ψ a E ρ K=K (.d (.str x)) kn ρ)(hb:∀K,jB Ψ b E ρ K=K (.d (.str y)) kn ρ)(q:K (.d (.int (i:Int))) kn ρ):jB Ψ (.mt .index a %[b|1]) E ρ K:=by show jB Ψ a E ρ λx n e=>E7 .index (gA x n).vw=kb/\sq (gA x n) e ((pe Ψ %[b|1] E).a []) λW r=>Xu .index (gA x n).vw (AB W) λz k=>K z k r;rw[A];refine#[rfl,?_];show jB Ψ b E ρ λz n e=>sq (α:=List (T×Bool)) (if n=kb then .d .none else z) e ((pe Ψ .anil E).a []) λW r=>_;rw[hb];exact#[x,y,i,l,rfl,rfl,h,q]
theorem vi:jB Ψ (.var i) E ρ K=jI i ρ ρ K:=rfl
theorem Xh:yN Ψ (.var i) E ρ L=jI i ρ ρ λt _ ρ=>Kb t λb=>L b ρ:=rfl
theorem Ki{i:Int}:jB Ψ (.int i) E ρ K=K (.d (.int i)) kn ρ:=rfl
theorem ui{x:Str}:jB Ψ (.str x) E ρ K=K (.d (.str x)) kn ρ:=rfl
theorem gu{x:Bool}:jB Ψ (.bl x) E ρ K=K (.d (.bool x)) kn ρ:=rfl
theorem Ji:jB Ψ .non E ρ K=K (.d .none) kn ρ:=rfl
theorem HH{x:Str}{d:D}(h:Ψ.va x=jr d):jB Ψ (.glo x) E ρ K=K (.d d) kn ρ:=by show(match Ψ.va x with|some d=>K (.d d) kn ρ|none=>False)=_;rw[h]
theorem Ca{w:hE}:jB Ψ (.bin w a b) E ρ K=jB Ψ a E ρ λx n e=>Z4 x n Ψ b E e λy m h=>mK w x n y m λz k=>K z k h:=rfl
theorem Ch:yN Ψ (.cmp w a b) E ρ L=jB Ψ a E ρ λx n z=>Z4 x n Ψ b E z λy m h=>PB w x (gA y m) λk=>L k h:=rfl
theorem Ui:jB Ψ (.cmp w a b) E ρ K=yN Ψ (.cmp w a b) E ρ λk h=>K (.d (.bool k)) kn h:=rfl
theorem Ci:jB Ψ (.and a b) E ρ K=jB Ψ a E ρ λx _ h=>nz x λc=>if c=kb then jB Ψ b E h K else K (.d (.bool kn)) kn h:=rfl
theorem Dh:yN Ψ (.and a b) E ρ L=yN Ψ a E ρ λc h=>if c=kb then yN Ψ b E h L else L kn h:=rfl
theorem Bt:yN Ψ (.or a b) E ρ L=yN Ψ a E ρ λc h=>if c=kb then L kb h else yN Ψ b E h L:=rfl
theorem si:jB Ψ (.not a) E ρ K=jB Ψ a E ρ λx _ h=>Kb x λc=>K (.d (.bool (!c))) kn h:=rfl
theorem Uh:yN Ψ (.not a) E ρ L=yN Ψ a E ρ λc h=>L (!c) h:=rfl
theorem zA(h:Ψ.sp f=p)(hm:p.md=md)(C:(md.all λm=>!m.isMut)=kb):jB Ψ (.call f Y) E ρ K=zN Ψ Y E md ρ λxs y=>rB md xs λts=>rL p ts (λr l=>l=[]/\K r kb y) E:=by
 have A:∀(md:List Md) (Y:PX),(md.all λm=>!m.isMut)=kb->bA md Y=[]:=by
  intro md;induction md with
  |nil=>intro Y _;cases Y<;>rfl|cons m md B =>
   intro Y h;rw[qW,QW]at h;cases m with
   |chg=>cases h.1|_=>cases Y with|acons a Y=>exact B Y h.2|_=>rfl
 show(∃l,BA (bA (Ψ.sp f).md Y) ρ=jr l/\(bA (Ψ.sp f).md Y).Nodup/\(pe Ψ Y E).a (Ψ.sp f).md (clear (bA (Ψ.sp f).md Y) ρ) λxs y=>∃ts,ZA (Ψ.sp f).md xs l=jr ts/\(Ψ.sp f).run ts (λr q=>∃z,kC (bA (Ψ.sp f).md Y) q y=jr z/\K r kb z) E)=_;rw[h,hm,A md Y C];have W:∀(r:T) (l:LT) (y:kA),(∃z,kC [] l y=jr z/\K r kb z)=(l=[]/\K r kb y):=by
  intro r l y;cases l with|nil=>exact o9 #[λ#[_,e,k]=>by cases e;exact#[rfl,k],λk=>#[_,rfl,k.2]]|cons _ _=>exact o9 #[λ#[_,e,k]=>(by cases e),λk=>(by cases k.1)]
 have:=λ(y:kA)=>funext λr=>funext λl=>W r l y;simp only[this];exact o9 #[λ#[_,e,_,k]=>by cases e;exact k,λk=>#[_,rfl,Q4,k]]
theorem E9:yN Ψ (.call f Y) E ρ L=jB Ψ (.call f Y) E ρ λt _ h=>Kb t λb=>L b h:=rfl
theorem Bh:yN Ψ (.isi a c) E ρ L=jB Ψ a E ρ λx _ h=>VO c x λb=>L b h:=rfl
theorem Zi:jB Ψ (.isi a c) E ρ K=yN Ψ (.isi a c) E ρ λk h=>K (.d (.bool k)) kn h:=rfl
theorem lu{f:Bi}:jB Ψ (.bi f Y) E ρ K=zN Ψ Y E [] ρ λxs h=>jQ f xs λz k=>K z k h:=rfl
theorem fi:jB Ψ (.mt .pop (.var j) Y) E ρ K=iC ρ[j]? λt=>yJ .pop t=kb/\zN Ψ Y E [] (ρ.set j (jr (.bor t))) λxs h=>HE xs=kb/\h[j]?=jr (jr (.bor t))/\JL .pop t (NF xs) λr s'=>K r kb (h.set j (jr (.own s'))):=rfl
theorem Ua{x:Bool}:jB Ψ (.dnew x) E ρ K=K (.dct x [] []) kb ρ:=rfl
theorem Xi:jB Ψ (.dsp a b) E ρ K=jB Ψ a E ρ λy m z=>rC y m (jB Ψ b E z λx n h=>rC x n (SD kb y.er/\K (.dct kb [y.er] [x]) kb h)):=rfl
theorem dH(h:Ψ.sp f=p)(hm:p.md=.chg::md)(N:(md.all λm=>!m.isMut)=kb):jB Ψ (.call f (.acons (.var j) Y)) E ρ K=iC ρ[j]? λt=>zN Ψ Y E md (ρ.set j kd) λxs y=>rB md xs λts=>rL p (t::ts) (λr l=>∃t',l=[t']/\K r kb (y.set j (jr (.own t')))) E:=by
 have I:∀(md:List Md) (Y:PX),(md.all λm=>!m.isMut)=kb->bA md Y=[]:=by
  intro md;induction md with
  |nil=>intro Y _;cases Y<;>rfl|cons m md J =>
   intro Y h;rw[qW,QW]at h;cases m with
   |chg=>cases h.1|_=>cases Y with|acons a Y=>exact J Y h.2|_=>rfl
 show(∃l,BA (bA (Ψ.sp f).md (.acons (.var j) Y)) ρ=jr l/\(bA (Ψ.sp f).md (.acons (.var j) Y)).Nodup/\(pe Ψ (.acons (.var j) Y) E).a (Ψ.sp f).md (clear (bA (Ψ.sp f).md (.acons (.var j) Y)) ρ) λxs y=>∃ts,ZA (Ψ.sp f).md xs l=jr ts/\(Ψ.sp f).run ts (λr q=>∃W,kC (bA (Ψ.sp f).md (.acons (.var j) Y)) q y=jr W/\K r kb W) E)=_;rw[h,hm];have O:bA (.chg::md) (.acons (.var j) Y)=[j]:=by show j::bA md Y=[j];rw[I md Y N]
 rw[O];have A:∀(r:T) (l:LT) (y:kA),(∃W,kC [j] l y=jr W/\K r kb W)=(∃t',l=[t']/\K r kb (y.set j (jr (.own t')))):=by
  intro r l y
  match l with
  |[]=>exact o9 #[λ#[_,e,k]=>(by cases e),λ#[_,e,k]=>(by cases e)]|[t]=>exact o9 #[λ#[_,e,k]=>by cases e;exact#[t,rfl,k],λ#[_,e,k]=>by cases e;exact#[_,rfl,k]]|_::_::_=>exact o9 #[λ#[_,e,k]=>(by cases e),λ#[_,e,k]=>(by cases e)]
 have B:=λ(y:kA)=>funext λr=>funext λl=>A r l y;simp only[B];have C:∀(t:T) (xs:List (T×Bool)) (G:LT->Prop),(∃ts,ZA (.chg::md) ((.d .none,kb)::xs) [t]=jr ts/\G ts)=rB md xs λts=>G (t::ts):=by
  intro t xs G;show(∃ts,(ZA md xs []).map (t::·)=jr ts/\G ts)=vF (ZA md xs []) λts=>G (t::ts);cases ZA md xs []with|none=>exact o9 #[λ#[_,e,_]=>(by cases e),λ#[_,e,_]=>(by cases e)]|some ts=>exact o9 #[λ#[_,e,k]=>by cases e;exact#[_,rfl,k],λ#[_,e,k]=>by cases e;exact#[_,rfl,k]]
 have F:∀t,ρ[j]?=jr (jr (.own t))->BA [j] ρ=jr [t]:=λt e=>by unfold BA;rw[e];rfl
 have P:∀(l:LT),((pe Ψ (.acons (.var j) Y) E).a (.chg::md) (clear [j] ρ) λxs y=>∃ts,ZA (.chg::md) xs l=jr ts/\p.run ts (λr q=>∃t',q=[t']/\K r kb (y.set j (jr (.own t')))) E)=(zN Ψ Y E md (ρ.set j kd) λxs y=>∃ts,ZA (.chg::md) ((.d .none,kb)::xs) l=jr ts/\p.run ts (λr q=>∃t',q=[t']/\K r kb (y.set j (jr (.own t')))) E):=λl=>o9 #[λh=>h.2,λh=>#[rfl,h]];simp only[P]
 match e:ρ[j]? with
 |some (jr (.own t))=>show _=(zN Ψ Y E md (ρ.set j kd) λxs y=>rB md xs λts=>rL p (t::ts) (λr l=>∃t',l=[t']/\K r kb (y.set j (jr (.own t')))) E);rw[F t e];have:=λxs (y:kA)=>C t xs λts=>p.run ts (λr q=>∃t',q=[t']/\K r kb (y.set j (jr (.own t')))) E;refine o9 #[λ#[_,e,_,k]=>?_,λk=>#[_,rfl,by simp,?_]];cases e;simp only[this]at k;exact k;simp only[this];exact k|some (jr (.bor t))=>exact o9 #[λ#[_,z,_]=>(by unfold BA at z;rw[e]at z;cases z),λk=>k.elim]|some kd=>exact o9 #[λ#[_,z,_]=>(by unfold BA at z;rw[e]at z;cases z),λk=>k.elim]|none=>exact o9 #[λ#[_,z,_]=>(by unfold BA at z;rw[e]at z;cases z),λk=>k.elim]
theorem eV:jB Ψ (.mt .extend (.var j) Y) E ρ K=iC ρ[j]? λt=>yJ .extend t=kb/\zN Ψ Y E [] (ρ.set j (jr (.bor t))) λxs h=>HE xs=kb/\h[j]?=jr (jr (.bor t))/\JL .extend t (NF xs) λr s'=>K r kb (h.set j (jr (.own s'))):=rfl
theorem iV:jB Ψ (.mt .append (.var j) Y) E ρ K=iC ρ[j]? λt=>yJ .append t=kb/\zN Ψ Y E [] (ρ.set j (jr (.bor t))) λxs h=>HE xs=kb/\h[j]?=jr (jr (.bor t))/\JL .append t (NF xs) λr s'=>K r kb (h.set j (jr (.own s'))):=rfl
theorem Vi:jB Ψ (.idx a b) E ρ K=jB Ψ a E ρ λx n k=>Z4 x n Ψ b E k λy m h=>KA x n y m λz=>K z kn h:=rfl
theorem aV{i:Int}:jB Ψ (.slc a (.int i) .nop) E ρ K=jB Ψ a E ρ λx n h=>lH x n (jr i) kd λz k=>K z k h:=by
 show(pe Ψ a E).e ρ (λx n h=>sq (gA x n) h (λρ (R:Option Int->kA->Prop)=>R (jr i) ρ) λl q=>sq (gA x n) q (λρ (R:Option Int->kA->Prop)=>R kd ρ) λu y=>BI (gA x n).vw l u λz k=>K z k y)=_;have:∀x n h,(sq (gA x n) h (λρ (R:Option Int->kA->Prop)=>R (jr i) ρ) λl q=>sq (gA x n) q (λρ (R:Option Int->kA->Prop)=>R kd ρ) λu y=>BI (gA x n).vw l u λz k=>K z k y)=BI (gA x n).vw (jr i) kd λz k=>K z k h:=by intro x n h;unfold sq;split<;>rfl
 simp only[this];rfl
theorem Yi:jB Ψ (.lst Y) E ρ K=zN Ψ Y E [] ρ λxs y=>xs.9<=ku/\ZL xs λts=>K (.lst ts) kb y:=by have:∀(xs:List (T×Bool)) y,(xs.9<=ku/\ZL xs λts=>K (.lst ts) kb y)=(HE xs=kb/\xs.9<=ku/\K (.lst (NF xs)) kb y):=λxs y=>o9 #[λh=>#[h.2.1,h.1,h.2.2],λh=>#[h.2.1,h.1,h.2.2]];simp only[this];rfl
theorem xi:jB Ψ (.tup Y) E ρ K=zN Ψ Y E [] ρ λxs y=>xs.9<=ku/\ZL xs λts=>K (vD ts) kb y:=by have:∀(xs:List (T×Bool)) y,(xs.9<=ku/\ZL xs λts=>K (vD ts) kb y)=(HE xs=kb/\xs.9<=ku/\K (vD (NF xs)) kb y):=λxs y=>o9 #[λh=>#[h.2.1,h.1,h.2.2],λh=>#[h.2.1,h.1,h.2.2]];simp only[this];rfl
theorem Ba:jB Ψ (.comp v g o X its V U) E ρ K=zN Ψ its E [] ρ λxs h=>xK X xs λitems =>
   uD (eG Ψ (λ_=>False) v g o V U h) items [] λy=>K (.lst y) kb h:=rfl
theorem mh:eG Ψ E [] [t] (.nm 0) .nop U ρ x R=jB Ψ U E (jr (.bor x)::lockA ρ) λy n _=>rC y n (R (jr y)):=rfl
theorem A9{x y:D}:eG Ψ E [] [t,u] (.tp [0,1]) .nop U ρ (.d (.tuple [x,y])) R=jB Ψ U E (bD x::bD y::lockA ρ) λy n _=>rC y n (R (jr y)):=OA
theorem Kt{b:Bool}:eG Ψ E (b::m) [t] (.nm 0) .nop U ρ x R=jB Ψ U E (jr (.bor x)::nC (b::m) (lockA ρ)) λy n _=>rC y n (R (jr y)):=rfl
theorem Zt{b:Bool}{x y:D}:eG Ψ E (b::m) [t,u] (.tp [0,1]) .nop U ρ (.d (.tuple [x,y])) R=jB Ψ U E (bD x::bD y::nC (b::m) (lockA ρ)) λy n _=>rC y n (R (jr y)):=OA
theorem nh:eG Ψ E [] [t] (.nm 0) (.cmp w a b) U ρ x R=yN Ψ (.cmp w a b) E (jr (.bor x)::lockA ρ) λk h=>if k=kb then jB Ψ U E h λy n _=>rC y n (R (jr y)) else R none:=rfl
theorem Di:zN Ψ .anil E md ρ M=M [] ρ:=rfl
theorem Fa:zN Ψ (.acons a Y) E [] ρ M=jB Ψ a E ρ λx n y=>Ga x n Ψ Y E [] y λxs h=>M ((x,n)::xs) h:=rfl
theorem VV:zN Ψ (.acons a Y) E (.shal::md) ρ M=jB Ψ a E ρ λx n y=>Ga x n Ψ Y E md y λxs h=>M ((x,n)::xs) h:=rfl
theorem XV:zN Ψ (.acons a Y) E (.bor::md) ρ M=jB Ψ a E ρ λx n y=>Ga x n Ψ Y E md y λxs h=>M ((x,n)::xs) h:=rfl
theorem Sh:OD Ψ E Z (.var i) ρ=u6 i ρ ρ i Z:=rfl
theorem Ct:OD Ψ E Z (.ife c a b) ρ=yN Ψ c E ρ λk h=>if k=kb then OD Ψ E Z a h else OD Ψ E Z b h:=rfl
theorem Dt{x:Bool}:OD Ψ E Z (.bl x) ρ=Z (.d (.bool x)) ρ:=o9 #[λh=>h.2,λh=>#[rfl,h]]
theorem Eh{x:Int}:OD Ψ E Z (.int x) ρ=Z (.d (.int x)) ρ:=o9 #[λh=>h.2,λh=>#[rfl,h]]
theorem da:OD Ψ E Z (.call f Y) ρ=jB Ψ (.call f Y) E ρ λx n h=>rC x n (Z x h):=rfl
theorem ga{w:hE}:OD Ψ E Z (.bin w a b) ρ=jB Ψ (.bin w a b) E ρ λx n h=>rC x n (Z x h):=rfl
theorem ji:OD Ψ E Z (.and a b) ρ=jB Ψ (.and a b) E ρ λx n h=>rC x n (Z x h):=rfl
theorem Ht{f:Bi}:OD Ψ E Z (.bi f Y) ρ=jB Ψ (.bi f Y) E ρ λx n h=>rC x n (Z x h):=rfl
theorem Ih:OD Ψ E Z (.idx a b) ρ=jB Ψ (.idx a b) E ρ λx n h=>rC x n (Z x h):=rfl
theorem Th:OD Ψ E Z (.tup Y) ρ=jB Ψ (.tup Y) E ρ λx n h=>rC x n (Z x h):=rfl
theorem Ah:OD Ψ E Z (.lst Y) ρ=jB Ψ (.lst Y) E ρ λx n h=>rC x n (Z x h):=rfl
theorem ba:OD Ψ E Z (.comp v g o X its V U) ρ=jB Ψ (.comp v g o X its V U) E ρ λx n h=>rC x n (Z x h):=rfl
theorem jAK:jI (i+1) (s::σ) ρ K=jI i σ ρ K:=rfl
theorem jAO{t:T}:jI 0 (jr (.bor t)::σ) ρ K=K t kn ρ:=rfl
theorem jAL{t:T}:jI 0 (jr (.own t)::σ) ρ K=K t kn ρ:=rfl
theorem jAN:jI i (lockA σ) ρ K=jI i σ ρ K:=by
 unfold jI lockA;rw[Qa];cases σ[i]? with
 |none=>rfl|some s=>cases s with|none=>rfl|some s=>cases s<;>rfl
theorem jAM{b:Bool}:jI (i+1) (nC (b::m) (lockA (s::σ))) ρ K=jI i (nC m (lockA σ)) ρ K:=rfl
theorem xu:jI 0 (nC (false::m) (lockA (s::σ))) ρ K=jI 0 (lockA (s::σ)) ρ K:=rfl
theorem zu:jI i (nC [] (lockA σ)) ρ K=jI i (lockA σ) ρ K:=rfl
theorem jAH:u6 (i+1) (s::σ) ρ j Z=u6 i σ ρ j Z:=rfl
theorem jAJ{x:D}:u6 0 (bD x::σ) ρ j Z=Z (.d x) ρ:=o9 #[λh=>h.2,λh=>#[rfl,h]]
theorem jAI{t:T}:u6 0 (jr (.own t)::σ) ρ j Z=Z t (ρ.set j kd):=rfl
theorem Jz{x:D}:Z4 (.d x) n Ψ b E ρ K=jB Ψ b E ρ K:=by cases n<;>rfl
theorem az:Z4 x kb Ψ b E ρ K=jB Ψ b E ρ K:=rfl
theorem iz:Z4 (.lst ts) kn Ψ b E ρ K=jB Ψ b E (lockA ρ) λy m _=>K y m ρ:=rfl
theorem jAA{x:D}:Ga (.d x) n Ψ b E md ρ M=zN Ψ b E md ρ M:=by cases n<;>rfl
theorem Ez:Ga x kb Ψ b E md ρ M=zN Ψ b E md ρ M:=rfl
theorem Iz:Ga (.lst ts) kn Ψ b E md ρ M=zN Ψ b E md (lockA ρ) λxs _=>M xs ρ:=rfl
end
end
section
variable{Ψ:PEv}{E:XE}{ρ σ:kA}{Z:PEnds}{s r q:PT}{i:Nat}{e c its:PX}{o:Option Sl}{n:Bool}{v:D}{P:Prop}{ds:List D}{x:T}
section
variable{j:Nat}{A B:Prop}
theorem vA:vB Ψ E .nil Z ρ=Z.nx ρ:=rfl
theorem Lh:vB Ψ E (.seq (.set i e) r) Z (o::σ)=jB Ψ e E (o::σ) λx n h=>sO Ψ E r Z i x n h:=rfl
theorem Oh:vB Ψ E (.seq (.own i e) r) Z (o::σ)=jB Ψ e E (o::σ) λx n h=>Zq Ψ E r Z i x n h:=rfl
theorem ua:vB Ψ E (.seq (.expr e) r) Z (o::σ)=jB Ψ e E (o::σ) λ_ _ h=>vB Ψ E r Z h:=rfl
theorem Nh:vB Ψ E (.seq (.ret e) r) Z (o::σ)=OD Ψ E Z.rt e (o::σ):=rfl
theorem Ph:vB Ψ E (.seq (.ife c s .nil) r) Z (o::σ)=yN Ψ c E (o::σ) λk h=>if k=kb then vB Ψ E s { Z with nx:=λy=>vB Ψ E r Z y } h else vB Ψ E r Z h:=rfl
theorem Rh{z:Tg}{w:ItK}:vB Ψ E (.seq (.for_ z w its q) r) Z (o::σ)=zN Ψ its E [] (o::σ) λxs h=>xK w xs λitems =>
   if eS xs=kb then zI (vB Ψ E q) z { Z with nx:=λy=>vB Ψ E r Z (kill z.ix y) } items h
   else zI (vB Ψ E q) z { Z with nx:=λy=>MV z.ix (gC h (TF its)) h (λu=>vB Ψ E r Z u) (kill z.ix y) } items (lock (gC h (TF its)) h):=rfl
theorem Hh{a:PX}:vB Ψ E (.seq (.six (.var j) a e) r) Z (o::σ)=iC (o::σ)[j]? λt=>jB Ψ e E ((o::σ).set j (jr (.bor t))) λx n z=>rC x n (jB Ψ a E z λy m h=>rC y m (h[j]?=jr (jr (.bor t))/\Pf t y x λt'=>vB Ψ E r Z (h.set j (jr (.own t'))))):=rfl
theorem ya{a k:PX}:vB Ψ E (.seq (.six (.idx (.var j) k) a e) r) Z (o::σ)=iC (o::σ)[j]? λt=>jB Ψ e E ((o::σ).set j (jr (.bor t))) λx n w=>rC x n (jB Ψ k E w λz l u=>rC z l (Fp z t λs put=>jB Ψ a E u λy m h=>rC y m (h[j]?=jr (jr (.bor t))/\Pf s y x λs'=>vB Ψ E r Z (h.set j (jr (.own (put s'))))))):=rfl
theorem Mh{k:PX}:vB Ψ E (.seq (.sdf j k) r) Z (o::σ)=iC (o::σ)[j]? λt=>He t=kb/\jB Ψ k E ((o::σ).set j (jr (.bor t))) λy m h=>rC y m (h[j]?=jr (jr (.bor t))/\Ap y t λt'=>vB Ψ E r Z (h.set j (jr (.own t')))):=rfl
theorem ja{z:LN}:vB Ψ E (.seq (.tset z e) r) Z (o::σ)=jB Ψ e E (o::σ) λx n y=>rC x n (OP (.tp z) (.d x.er) y λh=>vB Ψ E r Z h):=rfl
theorem Gh:vB Ψ E (.seq (.whl c q) r) Z (o::σ)=Po Ψ E c q { Z with nx:=λh=>vB Ψ E r Z h } (o::σ):=rfl
theorem Az:sO Ψ E r Z i (.d v) n ρ=vB Ψ E r Z (ρ.set i (bD v)):=o9 #[λh=>h.2,λh=>#[by cases n<;>rfl,h]]
theorem Su:sO Ψ E r Z i (.lst (ds.map T.d)) kb ρ=vB Ψ E r Z (ρ.set i (bD (.list ds))):=by unfold sO T.er;rw[gB];exact o9 #[λh=>h.2,λh=>#[rfl,h]]
theorem Cz:Zq Ψ E r Z i x kb ρ=vB Ψ E r Z (ρ.set i (jr (.own x))):=o9 #[λh=>h.2,λh=>#[rfl,h]]
theorem jAQ:rC (.d v) n P=P:=o9 #[λh=>h.2,λh=>#[by cases n<;>rfl,h]]
theorem jAP:rC x kb P=P:=o9 #[λh=>h.2,λh=>#[rfl,h]]
theorem AY:(([]:LT)=[]/\P)=P:=o9 #[λh=>h.2,λh=>#[rfl,h]]
theorem Ir:(if(true:Bool)=kb then A else B)=A:=rfl
theorem js:(if(false:Bool)=kb then A else B)=B:=rfl
theorem Rz{v h:Option Sl}:vB Ψ E r Z (Wg (h::σ) 0 v)=vB Ψ E r Z (v::σ):=rfl
theorem Pz{v h y:Option Sl}:vB Ψ E r Z (Wg (h::y::σ) 1 v)=vB Ψ E r Z (h::v::σ):=rfl
theorem Oz{v y h z:Option Sl}:vB Ψ E r Z (Wg (y::h::z::σ) 2 v)=vB Ψ E r Z (y::h::v::σ):=rfl
theorem Nz{v z y h u:Option Sl}:vB Ψ E r Z (Wg (z::y::h::u::σ) 3 v)=vB Ψ E r Z (z::y::h::v::σ):=rfl
theorem Mz{v u z y h w:Option Sl}:vB Ψ E r Z (Wg (u::z::y::h::w::σ) 4 v)=vB Ψ E r Z (u::z::y::h::v::σ):=rfl
theorem Lz{v w u z y h k:Option Sl}:vB Ψ E r Z (Wg (w::u::z::y::h::k::σ) 5 v)=vB Ψ E r Z (w::u::z::y::h::v::σ):=rfl
theorem Hz{v k w u z y h a:Option Sl}:vB Ψ E r Z (Wg (k::w::u::z::y::h::a::σ) 6 v)=vB Ψ E r Z (k::w::u::z::y::h::v::σ):=rfl
theorem Gz{v a k w u z y h b:Option Sl}:vB Ψ E r Z (Wg (a::k::w::u::z::y::h::b::σ) 7 v)=vB Ψ E r Z (a::k::w::u::z::y::h::v::σ):=rfl
theorem Fz{v b a k w u z y h f:Option Sl}:vB Ψ E r Z (Wg (b::a::k::w::u::z::y::h::f::σ) 8 v)=vB Ψ E r Z (b::a::k::w::u::z::y::h::v::σ):=rfl
theorem Dz{v f b a k w u z y h g:Option Sl}:vB Ψ E r Z (Wg (f::b::a::k::w::u::z::y::h::g::σ) 9 v)=vB Ψ E r Z (f::b::a::k::w::u::z::y::h::v::σ):=rfl
theorem At{v l g f b a k w u z y h:Option Sl}:vB Ψ E r Z (Wg (l::g::f::b::a::k::w::u::z::y::h::σ) 10 v)=vB Ψ E r Z (l::g::f::b::a::k::w::u::z::y::v::σ):=rfl
theorem Tt{v m l g f b a k w u z h y:Option Sl}:vB Ψ E r Z (Wg (m::l::g::f::b::a::k::w::u::z::h::y::σ) 11 v)=vB Ψ E r Z (m::l::g::f::b::a::k::w::u::z::h::v::σ):=rfl
end
end
section
variable{d:D}{n m:Bool}{i j:Int}{z y:Str}{b:Bool}{xs:List (T×Bool)}{ts:LT}{ds es:List D}{md:List Md}{t:T}{C:LT->Prop}{Q:T->Bool->Prop}{L:Bool->Prop}{R:T->Prop}{W:LT->Prop}
section
variable{ρ:kA}{P:kA->Prop}{e k:D}{v:bb}{ks:List D}{x:Str}{kvs:List (D×D)}{l u:Option Int}
theorem jw{i:Int}{x:D}{Q:T->Prop}(h0:0<=i)(w:i<ds.9)(q:Q (.lst ((ds.set i.toNat x).map T.d))):Pf (.lst (ds.map T.d)) (.d (.int i)) (.d x) Q:=by
 have h:i.toNat<ds.length:=()
 refine#[i.toNat,?_,by rw[<- List.map_set];exact q];unfold FR;rw[QD];rw[oa h0,oa w]
theorem Vh{J:LN}{w:kA}{N:kA->Prop}:MV J [] w N ρ=N ρ:=o9 #[λh=>h.2,λh=>#[λ_ z=>(nomatch z),h]]
theorem rA{α:Type}(f:α->D)(l:List α):l.map (λc=>T.d (f c))=(l.map f).map T.d:=by rw[Qc];rfl
theorem YD:(gA (.lst (ds.map T.d)) n).vw=.ls (ds.map T.d):=by cases n;rfl;show Vw.ls ((ersT (ds.map T.d)).map T.d)=_;rw[gB]
theorem ma:rB md [] C=C []:=OA
theorem Vz:rB [] ((.d d,n)::xs) C=rB [] xs λts=>C (.d d::ts):=by
 have e:ZA [] ((.d d,n)::xs) []=(ZA [] xs []).map (.d d::·):=by cases n<;>rfl
 unfold rB;rw[e,kF]
theorem Kz:rB [] ((.lst (ds.map T.d),kb)::xs) C=rB [] xs λts=>C (.d (.list ds)::ts):=by have e:ZA [] ((.lst (ds.map T.d),kb)::xs) []=(ZA [] xs []).map (.d (.list (ersT (ds.map T.d)))::·):=rfl;unfold rB;rw[e,kF,gB]
theorem Xz:rB (.bor::md) ((t,kn)::xs) C=rB md xs λts=>C (t::ts):=by have e:ZA (.bor::md) ((t,kn)::xs) []=(ZA md xs []).map (t::·):=rfl;unfold rB;rw[e,kF]
theorem R5:BF (.lst (ds.map T.d))=jr (.lst (ds.map T.d)):=by simp only[BF,T.vw,VA,qD]
theorem Yz{u:T}(h:BF (gA t n)=jr u):rB (.shal::md) ((t,n)::xs) C=rB md xs λts=>C (u::ts):=by
 have e:ZA (.shal::md) ((t,n)::xs) []=(ZA md xs []).map (u::·):=by show(match BF (gA t n) with|some t=>(ZA md xs []).map (t::·)|none=>kd)=_;rw[h]
 unfold rB;rw[e,kF]
theorem rf:rB (.shal::md) ((.lst (ds.map T.d),n)::xs) C=rB md xs λts=>C (.lst (ds.map T.d)::ts):=Yz (by cases n;exact R5;show BF (.d (.list (ersT (ds.map T.d))))=_;rw[gB];simp only[BF,T.vw,VA,qD])
theorem zi:ZL [] C=C []:=o9 #[λh=>h.2,λh=>#[rfl,h]]
theorem Fy:ZL ((.lst (ds.map T.d),kb)::xs) C=ZL xs λts=>C (.lst (ds.map T.d)::ts):=by show((RF (.lst (ds.map T.d)) kb&&HE xs)=kb/\C (.lst (ds.map T.d)::NF xs))=(HE xs=kb/\C (.lst (ds.map T.d)::NF xs));rw[show RF (.lst (ds.map T.d)) kb=kb from rfl,WW]
theorem Tz:ZL ((.d d,n)::xs) C=ZL xs λts=>C (.d d::ts):=by show((RF (.d d) n&&HE xs)=kb/\C (.d d::NF xs))=(HE xs=kb/\C (.d d::NF xs));rw[show RF (.d d) n=kb by cases n<;>rfl,WW]
theorem oO{i j:Nat}{x y:D}:OP (.tp [i,j]) (.d (.tuple [x,y])) ρ P=P ((ρ.set i (bD x)).set j (bD y)):=OA
theorem tu{i:Nat}:OP (.nm i) t ρ P=P (ρ.set i (jr (.bor t))):=rfl
theorem z4{h:Tg}:bL h t ρ P=OP h t ρ P:=rfl
theorem Kh:mK .Add (.d (.int i)) n (.d (.int j)) m Q=Q (.d (.int (i+j))) false:=by unfold mK;rw[sA,sA];exact Xn i j
theorem Zh:mK .Add (.d (.str z)) n (.d (.str y)) m Q=(z.9+y.9<=ku/\Q (.d (.str (z++y))) kn):=by unfold mK;rw[sA,sA];exact Vn z y
theorem rh:mK .Sub (.d (.int i)) n (.d (.int j)) m Q=Q (.d (.int (i - j))) false:=by unfold mK;rw[sA,sA];exact Zn i j
theorem eh:mK .Mult (.d (.int i)) n (.d (.int j)) m Q=(nc i j/\Q (.d (.int (i * j))) kn):=by unfold mK;rw[sA,sA];exact Yn i j
theorem Yh:mK .FloorDiv (.d (.int i)) n (.d (.int j)) m Q=((0<j/\j<2 ^ 200)/\Q (.d (.int (i / j))) kn):=by unfold mK;rw[sA,sA];exact Jn i j
theorem Jh:mK .Mod (.d (.int i)) n (.d (.int j)) m Q=(0<j/\Q (.d (.int (i % j))) kn):=by unfold mK;rw[sA,sA];exact on i j
theorem Bl:vD [.d d,.d e]=.d (.tuple [d,e]):=rfl
theorem nr{f g:D}:vD [.d d,.d e,.d f,.d g]=.d (.tuple [d,e,f,g]):=rfl
theorem uh:PB .Eq (.d (.int i)) (.d (.int j)) L=L (decide (i=j)):=rfl
theorem xh:PB .Eq (.d (.str z)) (.d (.str y)) L=L (decide (z=y)):=rfl
theorem yh:PB .NotEq (.d (.int i)) (.d (.int j)) L=L (!decide (i=j)):=rfl
theorem jh:PB .NotEq (.d (.str z)) (.d (.str y)) L=L (!decide (z=y)):=rfl
theorem Ts:PB .Lt (.d (.int i)) (.d (.int j)) L=L (decide (i<j)):=rfl
theorem K9:PB v (.d d) (.lst (ds.map T.d)) L=HU v d (.list ds) L:=by show HU v d (.list (ersT (ds.map T.d))) L=_;rw[gB]
theorem jt:PB .Gt (.d (.int i)) (.d (.int j)) L=L (decide (j<i)):=rfl
theorem mz:PB v t (gA (.d d) m) L=PB v t (.d d) L:=by rw[sA]
theorem zt{u:T}:PB v t (gA u kn) L=PB v t u L:=rfl
theorem F9:PB .In (.d (.str z)) (.d (.list ds)) L=(((YB (.str z)=kb/\ds.all YB=kb)∨(AE (.str z)/\AE (.list ds)))/\L (ds.any λy=>Qp y (.str z))):=rfl
theorem D9:PB .NotIn (.d (.str z)) (.lst (ds.map T.d)) L=(((YB (.str z)=kb/\ds.all YB=kb)∨(AE (.str z)/\AE (.list ds)))/\L (!(ds.any λy=>Qp y (.str z)))):=by exact K9
theorem G9:PB .In (.d d) (.dct b ks ts) L=(SD b d/\L (dA ks d).isSome):=by show(SD b d/\((CmpOp.In=.In/\L (dA ks d).isSome)∨(CmpOp.In=.NotIn/\L (!(dA ks d).isSome))))=_;simp
theorem PN:PB .NotIn (.d d) (.dct b ks ts) L=(SD b d/\L (!(dA ks d).isSome)):=by show(SD b d/\((CmpOp.NotIn=.In/\L (dA ks d).isSome)∨(CmpOp.NotIn=.NotIn/\L (!(dA ks d).isSome))))=_;simp
theorem zh:PB .In (.d (.str z)) (.d (.tuple ds)) L=(((YB (.str z)=kb/\ds.all YB=kb)∨(AE (.str z)/\AE (.list ds)))/\L (ds.any λy=>Qp y (.str z))):=rfl
theorem kh:PB .In (.d (.str z)) (.lst (ds.map T.d)) L=(((YB (.str z)=kb/\ds.all YB=kb)∨(AE (.str z)/\AE (.list ds)))/\L (ds.any λy=>Qp y (.str z))):=by exact K9
theorem Ey:Kb (.d (.bool b)) L=L b:=rfl
theorem oz:nz (.d (.bool b)) L=L b:=rfl
theorem aU{k:String}(h:isD k d=jr b)(hk:BP k=kb):VO (.bty x k) (.d d) L=L b:=by show(∃b,isD k d=jr b/\BP k=kb/\L b)=_;exact o9 #[λ#[_,e,_,q]=>by rw[h]at e;cases e;exact q,λq=>#[_,h,hk,q]]
theorem bx:VO (.bty x "str") (.d (.int i)) L=L false:=aU rfl rfl
theorem lx:VO (.bty x "int") (.d (.int i)) L=L true:=aU rfl rfl
theorem sx:VO (.bty x "bool") (.d (.int i)) L=L false:=aU rfl rfl
theorem cx:VO (.bty x "list") (.lst ts) L=L true:=aU (d:=.list (ersT ts)) rfl rfl
theorem Kg:jQ .min [(.d (.int i),n),(.d (.int j),m)] Q=Q (.d (.int (if j<i then j else i))) false:=by unfold jQ AB AB AB;rw[sA,sA];exact Cn i j
theorem Sq:jQ .len [(.d (.list ds),n)] Q=Q (.d (.int ds.9)) false:=by unfold jQ AB;rw[sA];refine(lh _).trans ?_;rw[QD]
theorem Rq:jQ .len [(.lst (ds.map T.d),n)] Q=Q (.d (.int ds.9)) false:=by unfold jQ AB;rw[YD];refine(lh _).trans ?_;rw[QD]
theorem Aq:jQ .any [(.lst (ds.map T.d),n)] Q=∃bs:List Bool,ds=bs.map PyData.bool/\Q (.d (.bool (bs.any id))) false:=by unfold jQ AB;rw[YD];refine(ft _).trans ?_;simp only[VA,Qq]
theorem t9:UU (.ls ts) k R=False:=o9 #[λ#[_,_,_,_,_,e,_]=>(by cases e),Qf]
theorem r9:UU (.tp ts) k R=False:=o9 #[λ#[_,_,_,_,_,e,_]=>(by cases e),Qf]
theorem Nm{x:D}:UU (.sc x) k R=False:=o9 #[λ#[_,_,_,_,_,e,_]=>(by cases e),Qf]
theorem Ry:KA (.lst (ds.map T.d)) n (.d (.int i)) m R=vF (NC ds i) λd=>R (.d d):=by unfold KA;rw[YD,sA,t9,or_false];refine(P8 _ _).trans ?_;show vF (NC (ds.map T.d) i) R=_;rw[XF,kF]
theorem Aa:KA (.d (.list ds)) n (.d (.int i)) m R=vF (NC ds i) λd=>R (.d d):=by unfold KA;rw[sA,sA,show(T.d (.list ds)).vw=.ls (ds.map T.d) from rfl,t9,or_false];refine(P8 _ _).trans ?_;show vF (NC (ds.map T.d) i) R=_;rw[XF,kF]
theorem P4:KA (.d (.tuple ds)) n (.d (.int i)) m R=vF (NC ds i) λd=>R (.d d):=by unfold KA;rw[sA,sA,show(T.d (.tuple ds)).vw=.tp (ds.map T.d) from rfl,r9,or_false];refine(O8 _ _).trans ?_;show vF (NC (ds.map T.d) i) R=_;rw[XF,kF]
theorem uv:KA (.d (.str z)) n (.d (.int i)) m R=(z.9<=ku/\vF (NC z.cps.toList i) λc=>R (.d (.str #[(qG [c])]))):=by unfold KA;rw[sA,sA,show(T.d (.str z)).vw=.sc (.str z) from rfl,Nm,or_false];exact Jm _ _
theorem Lo{f:D}:KA (.lst [.d d,.d e,.d f]) n t m R=KA (.lst ([d,e,f].map T.d)) n t m R:=rfl
theorem Mo{q:Bool}{l:Nat}(g:xD kvs=jr q)(f:SD q k)(a:dA (kvs.map (·.1)) k=jr l)(h:(kvs.map (·.2))[l]?=jr e)(w:R (.d e)):KA (.d (.dict kvs)) n (.d k) m R:=by
 unfold KA;rw[sA];refine .inr ?_;show UU (DB kvs) k R;unfold DB;rw[g];refine#[q,_,_,l,.d e,rfl,f,a,?_,w];rw[Qa]at h ⊢;cases z:kvs[l]? with|none=>rw[z]at h;cases h|some p=>rw[z]at h;cases h;rfl
theorem yz:lH (.d (.str z)) n l u Q=(z.9<=ku/\Q (.d (.str (WB z l u))) kn):=by unfold lH;rw[sA];exact mj z
theorem zz:lH (.d (.list ds)) n l u Q=Q (.lst ((SF ds l u).map T.d)) true:=by unfold lH;rw[sA];refine(P5 _).trans ?_;rw[VA];exact OA
theorem Ip:lH (.lst (ds.map T.d)) n l u Q=Q (.lst ((SF ds l u).map T.d)) true:=by unfold lH;rw[YD];refine(P5 _).trans ?_;rw[VA];exact OA
theorem Ay:xK .val [(.d (.list ds),n)] W=W (ds.map T.d):=by unfold xK AB;rw[sA];exact bJ _
theorem Sy:xK .val [(.d (.tuple ds),n)] W=W (ds.map T.d):=by unfold xK AB;rw[sA];exact C8 _
theorem jp:xK .val [(.lst (ds.map T.d),n)] W=W (ds.map T.d):=by unfold xK AB;rw[YD];exact bJ _
theorem To:xK .rev [(.lst (ds.map T.d),n)] W=W (ds.reverse.map T.d):=by unfold xK AB;rw[YD,W9];exact o9 #[λ#[_,e,h]=>by cases e;exact h,λh=>#[_,rfl,h]]
theorem Ao:xK .rng1 [(.d (.int j),n)] W=((-(2 ^ 62)<=j/\j<2 ^ 62)/\W ((Qm j.toNat).map λ(i:Nat)=>.d (.int (i:Int)))):=by unfold xK AB;rw[sA];exact B8 j
theorem vp:xK .enum [(.d (.list ds),n)] W=W (ds.zipIdx.map λp=>.d (.tuple [.int (p.2:Int),p.1])):=by unfold xK AB;rw[sA];refine(oU _).trans ?_;exact o9 #[λ#[_,_,w,h,k]=>by cases w;rw[VA]at h;cases h;exact k,λk=>#[_,_,rfl,VA _,k]]
theorem Bf:xK .enum [(.lst (ds.map T.d),n)] W=W (ds.zipIdx.map λp=>.d (.tuple [.int (p.2:Int),p.1])):=by unfold xK AB;rw[YD];refine(oU _).trans ?_;exact o9 #[λ#[_,_,w,h,k]=>by cases w;rw[VA]at h;cases h;exact k,λk=>#[_,_,rfl,VA _,k]]
theorem yp(h:kvs=[]∨xD kvs=jr kb):xK .itm [(.d (.dict kvs),n)] W=W (kvs.map λp=>.d (.tuple [p.1,p.2])):=by
 unfold xK AB;rw[sA];show LB .itm [DB kvs] W=_;rcases h with rfl|h;exact U8;unfold DB;rw[h];refine(nU _ _).trans ?_;have e:(kvs.map λp=>T.d p.2)=(kvs.map (·.2)).map T.d:=by rw[Qc];rfl
 have w:((kvs.map (·.1)).zip (kvs.map (·.2))).map (λp=>T.d (.tuple [p.1,p.2]))=kvs.map λp=>T.d (.tuple [p.1,p.2]):=by rw[List.zip_map',Qc];rfl
 refine o9 #[λ#[ds,a,k]=>?_,λk=>#[kvs.map (·.2),by rw[e,VA],?_]];rw[e,VA]at a;cases a;rw[w]at k;exact k;rw[w];exact k
noncomputable def eZ(Q:T->LT->Prop):PEnds:={ nx:=λ_=>Q (.d .none) [],rt:=λt _=>Q t [] }
theorem Eg{Q:T->LT->Prop}{t:T}:(eZ Q).rt t ρ=Q t []:=rfl
theorem uA{Ψ:PEv}{b:PT}{p:PSp}{N w:LS}{ds:LT}{Q:T->LT->Prop}(ρ:kA)(h:pF Ψ b (eZ Q) ρ)(hl:ds.9=w.length:=by rfl)(hc:XB 0 p.md w.9=[]:=by rfl)(hs:mB N p.md ds=ρ:=by rfl):ds.9=w.9/\pF Ψ b (YC p w.9 Q) (mB N p.md ds):=by
 have e:YC p w.9 Q=eZ Q:=by unfold YC;rw[hc];rfl
 rw[e,hs];exact#[hl,h]
end
end
end L2.L3
namespace L2.L3.K40
open PySem PySem.Spec PyProof.Rows L2 L2.L3
section
variable{p q:Pt}{r:Rm}{Q:T->Prop}{l:Inn}{v:Int}{a b n g:Str}{w:Wy}{e:Str×Str}
def top(i:Nat):Stmt:=qB.main.body.getD i (.Pass #[0,0,0,0])
noncomputable def GG:LS:=["edges","starts","goal","rooms","came_from","firsts","chains"]
def HF:LS:=["edges","starts","goal"]
noncomputable def mN:Need:=#[["rooms_of","points_reached","lay_chain","chain_from","full_names"],["BEGIN"],["sorted"]]
noncomputable def CC:PT :=
  %[.expr (.call "lay_chain" %[.var 3,.var 4,.tup %[.var 2,.str "to"|1]|1]),.set 4 (.call "points_reached" %[.var 3|1])|2]
def CG:PT :=
  %[.own 3 (.call "rooms_of" %[.var 0,.var 1,.var 2|1]),.set 4 (.call "points_reached" %[.var 3|1]),.whl (.cmp .In (.tup %[.var 2,.str "to"|1]) (.var 4)) CC,.set 5 (.comp [] ["point"] (.nm 0) .val %[.idx (.var 3) (.glo "BEGIN")|1] (.cmp .Gt (.idx (.idx (.var 4) (.var 0)) (.glo "BEGIN")) (.int 0)) (.idx (.var 0) (.int 0))),.set 6 (.comp [] ["first"] (.nm 0) .val %[.var 5|1] .nop (.call "chain_from" %[.var 4,.var 0,.var 3|1])),.ret (.tup %[.bi .sorted %[.var 6|1],.call "full_names" %[.var 4|1]|1])|2]
theorem BL:MA mN CG GG HF (top 3)=true:=by kernel_rfl
noncomputable def vO:LS:=["edges","starts","goal","rooms","name","first","second"]
def MK:LS:=["edges","starts","goal"]
def CW:Need:=#[["add_name","add_way"],["BEGIN","WIDE"],[]]
noncomputable def rF:PT :=
  %[.ife (.cmp .NotEq (.var 4) (.var 2)) %[.expr (.call "add_name" %[.var 3,.var 4|1]),.expr (.call "add_way" %[.var 3,.glo "BEGIN",.tup %[.var 4,.str "to"|1],.glo "WIDE"|1])|2] .nil|2]
noncomputable def oF:PT :=
  %[.ife (.and (.cmp .NotEq (.var 5) (.var 2)) (.cmp .NotEq (.var 5) (.var 6))) %[.expr (.call "add_name" %[.var 3,.var 5|1]),.expr (.call "add_name" %[.var 3,.var 6|1]),.expr (.call "add_way" %[.var 3,.tup %[.var 5,.str "from"|1],.tup %[.var 6,.str "to"|1],.glo "WIDE"|1])|2] .nil|2]
def TN:PT :=
  %[.own 3 (.dsp (.glo "BEGIN") (.dnew kb)),.for_ (.nm 4) .val %[.var 1|1] rF,.for_ (.tp [5,6]) .val %[.var 0|1] oF,.ret (.var 3)|2]
theorem OU:MA CW TN vO MK (top 4)=true:=by kernel_rfl
def lO:LS:=["rooms","name"]
def jL:LS:=["rooms","name"]
def RW:Need:=#[["add_way"],[],[]]
noncomputable def lI:PT :=
  %[.expr (.call "add_way" %[.var 0,.tup %[.var 1,.str "to"|1],.tup %[.var 1,.str "from"|1],.int 1|1])|2]
theorem jV:MA RW lI lO jL (top 5)=true:=by kernel_rfl
def mQ:LS:=["rooms","here","there","room"]
def EM:LS:=["rooms","here","there","room"]
def Y2:Need:=#[[],[],[]]
noncomputable def yQ:PT :=
  %[.sdf 0 (.var 1),.sdf 0 (.var 2),.six (.idx (.var 0) (.var 1)) (.var 2) (.var 3),.six (.idx (.var 0) (.var 2)) (.var 1) (.int 0)|2]
theorem HX:MA Y2 yQ mQ EM (top 6)=true:=by kernel_rfl
noncomputable def SE:LS:=["rooms","came_from","waiting","here","there","room"]
def ED:LS:=["rooms"]
def zK:Need:=#[[],["BEGIN"],["len"]]
noncomputable def kB:PT :=
  %[.ife (.and (.cmp .Gt (.var 5) (.int 0)) (.cmp .NotIn (.var 4) (.var 1))) %[.six (.var 1) (.var 4) (.var 3),.expr (.mt .append (.var 2) %[.var 4|1])|2] .nil|2]
def FD:PT :=
  %[.set 3 (.mt .pop (.var 2) %[.int 0|1]),.for_ (.tp [4,5]) .itm %[.idx (.var 0) (.var 3)|1] kB|2]
def NE:PT :=
  %[.own 1 (.dsp (.glo "BEGIN") .non),.own 2 (.lst %[.glo "BEGIN"|1]),.whl (.cmp .Gt (.bi .len %[.var 2|1]) (.int 0)) FD,.ret (.var 1)|2]
theorem oJ:MA zK NE SE ED (top 7)=true:=by kernel_rfl
def fL:LS:=["rooms","came_from","last","there","here"]
def MI:LS:=["rooms","came_from","last"]
def FT:Need:=#[[],["BEGIN"],[]]
noncomputable def sE:PT :=
  %[.set 4 (.idx (.var 1) (.var 3)),.six (.idx (.var 0) (.var 4)) (.var 3) (.bin .Sub (.idx (.idx (.var 0) (.var 4)) (.var 3)) (.int 1)),.six (.idx (.var 0) (.var 3)) (.var 4) (.bin .Add (.idx (.idx (.var 0) (.var 3)) (.var 4)) (.int 1)),.set 3 (.var 4)|2]
def YG:PT :=
  %[.set 3 (.var 2),.whl (.cmp .NotEq (.var 3) (.glo "BEGIN")) sE|2]
theorem uS:MA FT YG fL MI (top 8)=true:=by kernel_rfl
def DJ:LS:=["rooms","first","goal","chain","name"]
def VH:LS:=["rooms","first","goal"]
def JR:Need:=#[["name_behind"],[],[]]
noncomputable def LD:PT :=
  %[.expr (.mt .append (.var 3) %[.var 4|1]),.set 4 (.call "name_behind" %[.var 0,.var 4|1])|2]
def VF:PT :=
  %[.own 3 (.lst .anil),.set 4 (.var 1),.whl (.cmp .NotEq (.var 4) (.var 2)) LD,.ret (.var 3)|2]
theorem SO:MA JR VF DJ VH (top 9)=true:=by kernel_rfl
def CH:LS:=["rooms","name","here"]
def uG:LS:=["rooms","name"]
def JO:Need:=#[[],[],[]]
noncomputable def rE:PT :=
  %[.set 2 (.tup %[.var 1,.str "from"|1]),.ret (.idx (.comp [] ["there"] (.nm 0) .val %[.idx (.var 0) (.var 2)|1] (.and (.cmp .NotEq (.idx (.var 0) (.int 0)) (.var 2)) (.cmp .Gt (.idx (.idx (.var 1) (.var 0)) (.var 3)) (.int 0))) (.idx (.var 0) (.int 0))) (.int 0))|2]
theorem MN:MA JO rE CH uG (top 10)=true:=by kernel_rfl
def CJ:LS:=["came_from"]
def KH:LS:=["came_from"]
def iR:Need:=#[[],[],["sorted"]]
noncomputable def KF:PT :=
  %[.ret (.bi .sorted %[.comp [] ["point"] (.nm 0) .val %[.var 0|1] (.and (.cmp .Eq (.idx (.var 0) (.int 1)) (.str "to")) (.cmp .NotIn (.tup %[.idx (.var 0) (.int 0),.str "from"|1]) (.var 1))) (.idx (.var 0) (.int 0))|1])|2]
theorem RO:MA iR KF CJ KH (top 11)=true:=by kernel_rfl
noncomputable def FG:LS:=["edges","seers","needs","ground","found","grown","name","number","chains"]
def GF:LS:=["edges","seers","needs"]
def lN:Need:=#[["told_through"],[],["len"]]
noncomputable def BC:PT :=
  %[.ife (.cmp .NotIn (.var 6) (.var 4)) %[.set 8 (.idx (.call "told_through" %[.var 0,.var 1,.var 4,.var 6|1]) (.int 0)),.ife (.cmp .GtE (.bi .len %[.var 8|1]) (.var 7)) %[.expr (.mt .append (.var 3) %[.tup %[.var 6,.slc (.var 8) .nop (.var 7)|1]|1]),.expr (.mt .append (.var 4) %[.var 6|1]),.set 5 (.bl kb)|2] .nil|2] .nil|2]
def UC:PT :=
  %[.set 5 (.bl kn),.for_ (.tp [6,7]) .val %[.var 2|1] BC|2]
def BG:PT :=
  %[.own 3 (.comp [kn,kn,kn,kn,kn,kn,kb,kb] ["name","number"] (.tp [0,1]) .val %[.var 2|1] (.cmp .In (.var 0) (.var 3)) (.tup %[.var 0,.lst .anil|1])),.own 4 (.comp [kn,kn,kn,kn,kn,kn,kb,kn,kb] ["name","chains"] (.tp [0,1]) .val %[.var 3|1] .nop (.var 0)),.set 5 (.bl kb),.whl (.var 5) UC,.ret (.var 3)|2]
theorem UL:MA lN BG FG GF (top 13)=true:=by kernel_rfl
def DG:LS:=["edges","seers","people","goal"]
def FF:LS:=["edges","seers","people","goal"]
def gN:Need:=#[["apart_chains"],[],[]]
noncomputable def DD:PT :=
  %[.ret (.call "apart_chains" %[.comp [] ["edge"] (.nm 0) .val %[.var 0|1] (.cmp .In (.idx (.var 0) (.int 0)) (.var 3)) (.var 0),.var 1,.var 3|1])|2]
theorem VL:MA gN DD DG FF (top 14)=true:=by kernel_rfl
noncomputable def aa:LS:=["world","events","past","taken","wrong","held","known","steps","number","believed","live"]
def UY:LS:=["world"]
noncomputable def Kl:Need:=#[["going_order","is_taken","wrong_among","live_among","held_among"],[],[]]
noncomputable def YK:PT :=
  %[.own 4 (.call "wrong_among" %[.var 0,.var 2|1]),.set 10 (.call "live_among" %[.var 1,.var 3,.var 4|1]),.set 5 (.call "held_among" %[.var 0,.var 2,.var 10,.var 6|1]),.expr (.mt .append (.var 7) %[.tup %[.var 8,.var 9,.var 10,.var 5|1]|1])|2]
def EN:PT :=
  (.seq (.set 9 (.call "is_taken" %[.var 0,.idx (.var 1) (.var 8),.var 4,.var 5|1]))
  (.seq (.expr (.mt .append (.var 2) %[.var 8|1]))
  (.seq (.ife (.and (.var 9) (.cmp .Eq (.idx (.idx (.var 1) (.var 8)) (.int 0)) (.str "tell"))) %[.expr (.mt .append (.var 3) %[.var 8|1])|2] .nil)
  YK)))
def RX:PT :=
  %[.set 1 (.idx (.var 0) (.int 3)),.own 2 (.lst .anil),.own 3 (.lst .anil),.own 4 (.dnew kb),.set 5 (.lst .anil),.own 6 (.dnew kb),.own 7 (.lst .anil),.for_ (.nm 8) .val %[.call "going_order" %[.var 1|1]|1] EN,.ret (.var 7)|2]
theorem Te:MA Kl RX aa UY (top 17)=true:=by kernel_rfl
noncomputable def dO:LS:=["world","event","wrong","held","teller","hearer","matter"]
def SK:LS:=["world","event","wrong","held"]
def MW:Need:=#[["has_against","rank_of","floor_of"],[],[]]
noncomputable def JF:PT :=
  %[.ife (.cmp .Eq (.idx (.var 1) (.int 0)) (.str "see")) %[.ret (.bl kb)|2] .nil,.set 4 (.idx (.var 1) (.int 2)),.set 5 (.idx (.var 1) (.int 3)),.set 6 (.idx (.var 1) (.int 4)),.ife (.or (.cmp .NotIn (.tup %[.var 4,.var 6|1]) (.var 3)) (.cmp .In (.tup %[.var 4,.var 5|1]) (.var 2))) %[.ret (.bl kn)|2] .nil,.ret (.and (.cmp .GtE (.call "rank_of" %[.var 0,.var 4|1]) (.call "floor_of" %[.var 0,.var 5|1])) (.not (.call "has_against" %[.var 0,.var 3,.var 5,.var 6|1])))|2]
theorem AU:MA MW JF dO SK (top 18)=true:=by kernel_rfl
def vQ:LS:=["world","name"]
def HM:LS:=["world","name"]
def D1:Need:=#[[],[],[]]
noncomputable def oK:PT :=
  %[.ret (.idx (.comp [] ["person"] (.nm 0) .val %[.idx (.var 0) (.int 0)|1] (.cmp .Eq (.idx (.var 0) (.int 0)) (.var 2)) (.idx (.var 0) (.int 1))) (.int 0))|2]
theorem JX:MA D1 oK vQ HM (top 19)=true:=by kernel_rfl
def fO:LS:=["world","name"]
def AK:LS:=["world","name"]
def NW:Need:=#[[],[],[]]
noncomputable def dI:PT :=
  %[.ret (.idx (.comp [] ["person"] (.nm 0) .val %[.idx (.var 0) (.int 0)|1] (.cmp .Eq (.idx (.var 0) (.int 0)) (.var 2)) (.idx (.var 0) (.int 2))) (.int 0))|2]
theorem EU:MA NW dI fO AK (top 20)=true:=by kernel_rfl
def FH:LS:=["world","pairs","name","matter","rivals"]
def cG:LS:=["world","pairs","name","matter"]
def ZO:Need:=#[[],[],["any"]]
noncomputable def iE:PT :=
  %[.own 4 (.comp [] ["first","second"] (.tp [0,1]) .val %[.idx (.var 0) (.int 2)|1] (.cmp .Eq (.var 0) (.var 5)) (.var 1)),.expr (.mt .extend (.var 4) %[.comp [] ["first","second"] (.tp [0,1]) .val %[.idx (.var 0) (.int 2)|1] (.cmp .Eq (.var 1) (.var 5)) (.var 0)|1]),.ret (.bi .any %[.comp [] ["rival"] (.nm 0) .val %[.var 4|1] .nop (.cmp .In (.tup %[.var 3,.var 0|1]) (.var 2))|1])|2]
theorem ON:MA ZO iE FH cG (top 21)=true:=by kernel_rfl
def BH:LS:=["world","past","seen","wrong","number","event"]
def xG:LS:=["world","past"]
def iO:Need:=#[["seen_among","has_against"],[],[]]
noncomputable def LF:PT :=
  %[.set 5 (.idx (.idx (.var 0) (.int 3)) (.var 4)),.ife (.and (.cmp .Eq (.idx (.var 5) (.int 0)) (.str "tell")) (.cmp .NotIn (.tup %[.idx (.var 5) (.int 3),.idx (.var 5) (.int 4)|1]) (.var 2))) %[.ife (.call "has_against" %[.var 0,.var 2,.idx (.var 5) (.int 3),.idx (.var 5) (.int 4)|1]) %[.six (.var 3) (.tup %[.idx (.var 5) (.int 2),.idx (.var 5) (.int 3)|1]) (.bl kb)|2] .nil|2] .nil|2]
def pE:PT :=
  %[.own 2 (.call "seen_among" %[.idx (.var 0) (.int 3),.var 1|1]),.own 3 (.dnew kb),.for_ (.nm 4) .val %[.var 1|1] LF,.ret (.var 3)|2]
theorem HN:MA iO pE BH xG (top 22)=true:=by kernel_rfl
def VJ:LS:=["events","past","seen","number"]
def iH:LS:=["events","past"]
def sR:Need:=#[[],[],[]]
noncomputable def JG:PT :=
  %[.ife (.cmp .Eq (.idx (.idx (.var 0) (.var 3)) (.int 0)) (.str "see")) %[.six (.var 2) (.tup %[.idx (.idx (.var 0) (.var 3)) (.int 2),.idx (.idx (.var 0) (.var 3)) (.int 3)|1]) (.bl kb)|2] .nil|2]
def nF:PT :=
  %[.own 2 (.dnew kb),.for_ (.nm 3) .val %[.var 1|1] JG,.ret (.var 2)|2]
theorem LO:MA sR nF VJ iH (top 23)=true:=by kernel_rfl
def XJ:LS:=["events","taken","wrong"]
def JH:LS:=["events","taken","wrong"]
def tR:Need:=#[[],[],["sorted"]]
noncomputable def sF:PT :=
  %[.ret (.bi .sorted %[.comp [] ["number"] (.nm 0) .val %[.var 1|1] (.cmp .NotIn (.tup %[.idx (.idx (.var 1) (.var 0)) (.int 2),.idx (.idx (.var 1) (.var 0)) (.int 3)|1]) (.var 3)) (.var 0)|1])|2]
theorem MO:MA tR sF XJ JH (top 24)=true:=by kernel_rfl
def BJ:LS:=["world","past","live","known","seen","holders","matter","web","held","person"]
def ZH:LS:=["world","past","live","known"]
noncomputable def eR:Need:=#[["seen_among","edges_of","seers_of","holders_in"],[],[]]
noncomputable def jD:PT :=
  %[.six (.var 5) (.var 6) (.idx (.var 3) (.var 7))|2]
def HD:PT :=
  (.seq (.set 7 (.tup %[.call "seers_of" %[.var 0,.var 4,.var 6|1],.call "edges_of" %[.idx (.var 0) (.int 3),.var 2,.var 6|1]|1]))
  (.seq (.ife (.cmp .NotIn (.var 7) (.var 3)) %[.six (.var 3) (.var 7) (.call "holders_in" %[.var 0,.var 7|1])|2] .nil)
  jD))
noncomputable def GD:PT :=
  %[.expr (.mt .extend (.var 8) %[.comp [kn,kn,kn,kn,kn,kn,kb] ["matter"] (.nm 0) .val %[.idx (.var 0) (.int 1)|1] (.cmp .In (.idx (.var 10) (.int 0)) (.idx (.var 6) (.var 0))) (.tup %[.idx (.var 10) (.int 0),.var 0|1])|1])|2]
def ZF:PT :=
  %[.own 4 (.call "seen_among" %[.idx (.var 0) (.int 3),.var 1|1]),.own 5 (.dnew kn),.for_ (.nm 6) .val %[.idx (.var 0) (.int 1)|1] HD,.own 8 (.lst .anil),.for_ (.nm 9) .val %[.idx (.var 0) (.int 0)|1] GD,.ret (.var 8)|2]
theorem OO:MA eR ZF BJ ZH (top 25)=true:=by kernel_rfl
def kO:LS:=["world","seen","matter"]
def LK:LS:=["world","seen","matter"]
def BW:Need:=#[[],[],["tuple"]]
noncomputable def xI:PT :=
  %[.ret (.bi .tuple %[.comp [] ["person"] (.nm 0) .val %[.idx (.var 0) (.int 0)|1] (.cmp .In (.tup %[.idx (.var 0) (.int 0),.var 3|1]) (.var 2)) (.idx (.var 0) (.int 0))|1])|2]
theorem NU:MA BW xI kO LK (top 26)=true:=by kernel_rfl
def gO:LS:=["events","live","matter","tells"]
def IK:LS:=["events","live","matter"]
def OW:Need:=#[[],[],["tuple"]]
noncomputable def fI:PT :=
  %[.set 3 (.comp [] ["number"] (.nm 0) .val %[.var 1|1] (.cmp .Eq (.idx (.idx (.var 1) (.var 0)) (.int 4)) (.var 3)) (.idx (.var 1) (.var 0))),.ret (.bi .tuple %[.comp [] ["event"] (.nm 0) .val %[.var 3|1] .nop (.tup %[.idx (.var 0) (.int 2),.idx (.var 0) (.int 3)|1])|1])|2]
theorem IU:MA OW fI gO IK (top 27)=true:=by kernel_rfl
def UJ:LS:=["world","web"]
def YH:LS:=["world","web"]
def aR:Need:=#[["ground_alone","needs_of"],[],[]]
noncomputable def YF:PT :=
  %[.ret (.comp [] ["name","chains"] (.tp [0,1]) .val %[.call "ground_alone" %[.idx (.var 1) (.int 1),.idx (.var 1) (.int 0),.call "needs_of" %[.var 0|1]|1]|1] .nop (.var 0))|2]
theorem NO:MA aR YF UJ YH (top 28)=true:=by kernel_rfl
def xO:LS:=["world"]
def OK:LS:=["world"]
def DW:Need:=#[[],[],[]]
noncomputable def uI:PT :=
  %[.ret (.comp [] ["person"] (.nm 0) .val %[.idx (.var 0) (.int 0)|1] .nop (.tup %[.idx (.var 0) (.int 0),.idx (.var 0) (.int 3)|1]))|2]
theorem PU:MA DW uI xO OK (top 29)=true:=by kernel_rfl
def DH:LS:=["world"]
def bG:LS:=["world"]
def YO:Need:=#[["gone"],[],[]]
noncomputable def tE:PT :=
  %[.ret (.tup %[.var 0,.call "gone" %[.var 0|1]|1])|2]
theorem NN:MA YO tE DH bG (top 31)=true:=by kernel_rfl
def xQ:LS:=["moment"]
def MM:LS:=["moment"]
def G1:Need:=#[[],[],["len"]]
noncomputable def pK:PT :=
  %[.ret (.ife (.cmp .Gt (.bi .len %[.idx (.var 0) (.int 1)|1]) (.int 0)) (.idx (.idx (.idx (.var 0) (.int 1)) (.ng 1)) (.int 2)) (.lst .anil))|2]
theorem YX:MA G1 pK xQ MM (top 32)=true:=by kernel_rfl
def ZJ:LS:=["world","person","matter"]
def tH:LS:=["world","person","matter"]
def oR:Need:=#[["tellers_in","last_moment"],[],[]]
noncomputable def lF:PT :=
  %[.ret (.call "tellers_in" %[.call "last_moment" %[.var 0|1],.var 1,.var 2|1])|2]
theorem FO:MA oR lF ZJ tH (top 34)=true:=by kernel_rfl
def KJ:LS:=["moment","person","matter","events"]
def aH:LS:=["moment","person","matter"]
def rR:Need:=#[["live_in"],[],[]]
noncomputable def mF:PT :=
  %[.set 3 (.idx (.idx (.var 0) (.int 0)) (.int 3)),.ret (.comp [] ["number"] (.nm 0) .val %[.call "live_in" %[.var 0|1]|1] (.cmp .Eq (.slc (.idx (.var 4) (.var 0)) (.int 3) (.int 5)) (.tup %[.var 2,.var 3|1])) (.var 0))|2]
theorem GO:MA rR mF KJ aH (top 35)=true:=by kernel_rfl
def lL:LS:=["_law_script","_law_k"]
def OI:LS:=["_law_script","_law_k"]
def MT:Need:=#[[],[],["len"]]
noncomputable def XG:PT :=
  %[.ife (.cmp .Lt (.var 1) (.bi .len %[.var 0|1])) %[.ret (.idx (.var 0) (.var 1))|2] .nil,.ret (.int 0)|2]
theorem cS:MA MT XG lL OI (top 37)=true:=by kernel_rfl
def gQ:LS:=["_law_cell","_law_k","_law_number"]
def TM:LS:=["_law_cell","_law_k"]
def A1:Need:=#[[],[],[]]
noncomputable def iK:PT :=
  %[.set 2 (.bin .Mod (.bin .Mult (.bin .Mod (.var 0) (.int 2147483647)) (.bin .Add (.int 69621) (.bin .Mult (.bin .Mult (.int 1511) (.var 1)) (.var 1)))) (.int 2147483629)),.ret (.bin .Mod (.bin .Mult (.bin .Add (.var 2) (.var 1)) (.bin .Add (.bin .Add (.var 2) (.bin .Mult (.int 5) (.var 1))) (.int 1))) (.int 2147483587))|2]
theorem FX:MA A1 iK gQ TM (top 38)=true:=by kernel_rfl
noncomputable def gL:LS:=["_law_number","_law_size","_law_some","_law_word","_law_k"]
def NI:LS:=["_law_number","_law_size"]
def GT:Need:=#[[],[],["range"]]
noncomputable def UH:PT :=
  %[.set 3 (.bin .Add (.var 3) (.idx (.var 2) (.bin .Mod (.var 0) (.int 26)))),.set 0 (.bin .FloorDiv (.var 0) (.int 26))|2]
def VG:PT :=
  %[.set 2 (.str "abcdefghijklmnopqrstuvwxyz"),.set 3 (.str ""),.for_ (.nm 4) .rng1 %[.var 1|1] UH,.ret (.var 3)|2]
theorem bS:MA GT VG gL NI (top 39)=true:=by kernel_rfl
def cQ:LS:=["_law_word","_law_some","_law_kept"]
def PM:LS:=["_law_word"]
def N1:Need:=#[[],[],[]]
noncomputable def tK:PT :=
  %[.set 1 (.str "abcdefghijklmnopqrstuvwxyz"),.set 2 (.lst %[.str "person",.str "matter",.str "against",.str "see",.str "tell",.str "by",.str "at",.str "who",.str "what",.str "since",.str "tellers"|1]),.ife (.or (.cmp .In (.var 0) (.var 2)) (.cmp .In (.var 0) (.lst %[.str "wordings",.str "apart",.str "leans",.str "hidden",.str "strike",.str "quote",.str "ground",.str "cut"|1]))) %[.ret (.bin .Add (.slc (.var 0) .nop (.ng 1)) (.idx (.var 1) (.bin .Mod (.bin .Add (.mt .index (.var 1) %[.idx (.var 0) (.ng 1)|1]) (.int 13)) (.int 26))))|2] .nil,.ret (.var 0)|2]
theorem XX:MA N1 tK cQ PM (top 40)=true:=by kernel_rfl
noncomputable def bQ:LS:=["_law_cell","_law_many","_law_longest","_law_some","_law_number","_law_base","_law_size","_law_at","_law_words_here","_law_k","_law_sign","_law_word"]
def OM:LS:=["_law_cell","_law_many","_law_longest"]
noncomputable def M1:Need:=#[["_law_mixed","_law_letters","_law_spelt"],[],["range","list","reversed"]]
noncomputable def lD:PT :=
  %[.expr (.mt .append (.var 8) %[.call "_law_spelt" %[.var 11|1]|1])|2]
def KG:PT :=
  (.seq (.set 10 (.idx (.var 3) (.bin .Mod (.bin .Add (.bin .FloorDiv (.var 4) (.int 192)) (.var 9)) (.int 26))))
  (.seq (.ife (.cmp .Eq (.bin .Mod (.var 4) (.int 3)) (.int 0)) %[.set 11 (.bin .Add (.bin .Add (.slc (.var 5) .nop (.var 7)) (.var 10)) (.slc (.var 5) (.bin .Add (.var 7) (.int 1)) (.var 6)))|2] %[.ife (.cmp .Eq (.bin .Mod (.var 4) (.int 3)) (.int 1)) %[.set 11 (.slc (.var 5) .nop (.bin .Add (.int 1) (.bin .Mod (.bin .Add (.bin .FloorDiv (.var 4) (.int 24)) (.var 9)) (.var 2))))|2] %[.set 11 (.slc (.bin .Add (.var 10) (.call "_law_letters" %[.call "_law_mixed" %[.var 0,.bin .Add (.var 9) (.int 2)|1],.int 7|1])) .nop (.bin .Add (.int 1) (.bin .Mod (.call "_law_mixed" %[.var 0,.bin .Add (.var 9) (.int 40)|1]) (.var 2))))|2]|2])
  lD))
def sK:PT :=
  %[.set 3 (.str "abcdefghijklmnopqrstuvwxyz"),.set 4 (.call "_law_mixed" %[.var 0,.int 1|1]),.set 5 (.call "_law_letters" %[.bin .Add (.bin .Mult (.var 4) (.var 4)) (.var 4),.int 8|1]),.set 6 (.bin .Add (.int 1) (.bin .Mod (.bin .FloorDiv (.var 4) (.int 3)) (.var 2))),.set 7 (.bin .Mod (.bin .FloorDiv (.var 4) (.int 24)) (.var 6)),.own 8 (.lst .anil),.for_ (.nm 9) .rng1 %[.var 1|1] KG,.ife (.cmp .Eq (.bin .Mod (.bin .FloorDiv (.var 4) (.int 5000)) (.int 2)) (.int 1)) %[.ret (.lrv (.var 8))|2] .nil,.ret (.var 8)|2]
theorem VX:MA M1 sK bQ OM (top 41)=true:=by kernel_rfl
def uO:LS:=["_law_name","_law_m","_law_floor","_law_rank"]
def PK:LS:=["_law_name","_law_m"]
def FW:Need:=#[[],[],[]]
noncomputable def bI:PT :=
  %[.set 2 (.idx (.lst %[.int 0,.int 0,.int 0,.int 20,.int 50,.int 99|1]) (.bin .Mod (.var 1) (.int 6))),.set 3 (.idx (.lst %[.int 99,.int 50,.int 20,.int 99,.int 0,.int 50,.int 99,.int 21|1]) (.bin .Mod (.bin .FloorDiv (.var 1) (.int 6)) (.int 8))),.ret (.tup %[.var 0,.var 3,.var 2,.idx (.lst %[.int 1,.int 1,.int 1,.int 2,.int 2,.int 3|1]) (.bin .Mod (.bin .FloorDiv (.var 1) (.int 48)) (.int 6))|1])|2]
theorem RU:MA FW bI uO PK (top 42)=true:=by kernel_rfl
noncomputable def mL:LS:=["_law_matters","_law_m","_law_found","_law_j","_law_k"]
def RI:LS:=["_law_matters","_law_m"]
def NT:Need:=#[[],[],["range","len"]]
noncomputable def eE:PT :=
  %[.set 1 (.bin .FloorDiv (.var 1) (.int 3)),.ife (.cmp .Eq (.bin .Mod (.var 1) (.int 3)) (.int 0)) %[.expr (.mt .append (.var 2) %[.tup %[.idx (.var 0) (.var 3),.idx (.var 0) (.var 4)|1]|1])|2] %[.ife (.cmp .Eq (.bin .Mod (.var 1) (.int 3)) (.int 1)) %[.expr (.mt .append (.var 2) %[.tup %[.idx (.var 0) (.var 4),.idx (.var 0) (.var 3)|1]|1])|2] .nil|2]|2]
def aE:PT :=
  %[.for_ (.nm 4) .rng1 %[.var 3|1] eE|2]
def UG:PT :=
  %[.own 2 (.lst .anil),.for_ (.nm 3) .rng1 %[.bi .len %[.var 0|1]|1] aE,.ret (.var 2)|2]
theorem gS:MA NT UG mL RI (top 43)=true:=by kernel_rfl
noncomputable def dQ:LS:=["_law_events","_law_teller","_law_matter","_law_most","_law_told","_law_here","_law_event_here"]
noncomputable def RM:LS:=["_law_events","_law_teller","_law_matter","_law_most"]
def O1:Need:=#[[],[],["reversed","len","tuple"]]
noncomputable def bE:PT :=
  %[.ife (.and (.cmp .Eq (.idx (.var 6) (.int 0)) (.str "tell")) (.and (.cmp .Eq (.idx (.var 6) (.int 3)) (.var 5)) (.and (.cmp .Eq (.idx (.var 6) (.int 4)) (.var 2)) (.cmp .Lt (.bi .len %[.var 4|1]) (.var 3))))) %[.expr (.mt .append (.var 4) %[.idx (.var 6) (.int 2)|1]),.set 5 (.idx (.var 6) (.int 2))|2] .nil|2]
def aK:PT :=
  %[.own 4 (.lst .anil),.set 5 (.var 1),.for_ (.nm 6) .rev %[.var 0|1] bE,.ret (.bi .tuple %[.var 4|1])|2]
theorem UX:MA O1 aK dQ RM (top 44)=true:=by kernel_rfl
noncomputable def lQ:LS:=["_law_events","_law_names","_law_matters","_law_m","_law_time","_law_rest","_law_one","_law_matter","_law_word","_law_other","_law_quote_here"]
noncomputable def AM:LS:=["_law_events","_law_names","_law_matters","_law_m"]
noncomputable def E1:Need:=#[["_law_letters","_law_quote"],[],["len","tuple","range"]]
noncomputable def iF:PT :=
  %[.ret (.tup %[.str "tell",.var 4,.idx (.var 1) (.var 6),.idx (.var 1) (.var 9),.var 7,.var 8,.var 10|1])|2]
def JK:PT :=
  (.seq (.set 4 (.idx (.lst %[.bin .Mod (.bin .FloorDiv (.var 3) (.int 3)) (.int 5),.bin .Mod (.bin .FloorDiv (.var 3) (.int 3)) (.int 30),.bin .Sub (.int 999999999) (.bin .Mod (.bin .FloorDiv (.var 3) (.int 3)) (.int 4))|1]) (.bin .Mod (.var 3) (.int 3))))
  (.seq (.set 5 (.bin .FloorDiv (.var 3) (.int 40)))
  (.seq (.set 6 (.bin .Mod (.var 5) (.bi .len %[.var 1|1])))
  (.seq (.set 7 (.idx (.var 2) (.bin .Mod (.bin .FloorDiv (.var 5) (.int 7)) (.bi .len %[.var 2|1]))))
  (.seq (.set 8 (.call "_law_letters" %[.var 5,.bin .Add (.int 1) (.bin .Mod (.bin .FloorDiv (.var 5) (.int 11)) (.int 8))|1]))
  (.seq (.ife (.cmp .Eq (.bin .Mod (.bin .FloorDiv (.var 5) (.int 90)) (.int 4)) (.int 0)) %[.ret (.tup %[.str "see",.var 4,.idx (.var 1) (.var 6),.var 7,.var 8|1])|2] .nil)
  (.seq (.set 9 (.bin .Mod (.bin .Add (.bin .Add (.var 6) (.int 1)) (.bin .Mod (.bin .FloorDiv (.var 5) (.int 360)) (.bin .Sub (.bi .len %[.var 1|1]) (.int 1)))) (.bi .len %[.var 1|1])))
  (.seq (.set 10 (.call "_law_quote" %[.var 0,.idx (.var 1) (.var 6),.var 7,.bin .Mod (.bin .FloorDiv (.var 5) (.int 2500)) (.int 4)|1]))
  (.seq (.ife (.cmp .Eq (.bin .Mod (.bin .FloorDiv (.var 5) (.int 10000)) (.int 5)) (.int 0)) %[.set 10 (.bi .tuple %[.comp [] ["_law_k"] (.nm 0) .rng1 %[.bin .Add (.int 1) (.bin .Mod (.bin .FloorDiv (.var 5) (.int 2500)) (.int 3))|1] .nop (.idx (.var 2) (.bin .Mod (.bin .Add (.bin .FloorDiv (.var 6) (.int 50000)) (.bin .Mult (.int 2) (.var 0))) (.bi .len %[.var 2|1])))|1])|2] .nil)
  iF)))))))))
theorem GX:MA E1 JK lQ AM (top 45)=true:=by kernel_rfl
noncomputable def cO:LS:=["_law_cells","_law_many","_law_sums","_law_k","_law_cell"]
def RK:LS:=["_law_cells","_law_many"]
def HW:Need:=#[[],[],["range","min","len","enumerate"]]
noncomputable def eF:PT :=
  %[.six (.var 2) (.bin .Mod (.var 3) (.var 1)) (.bin .Add (.idx (.var 2) (.bin .Mod (.var 3) (.var 1))) (.var 4))|2]
def cI:PT :=
  %[.own 2 (.comp [kn,kn,kn,kb] ["_law_k"] (.nm 0) .rng1 %[.bi .min %[.var 1,.bi .len %[.var 0|1]|1]|1] .nop (.int 0)),.for_ (.tp [3,4]) .enum %[.var 0|1] eF,.ret (.var 2)|2]
theorem TU:MA HW cI cO RK (top 46)=true:=by kernel_rfl
noncomputable def uQ:LS:=["_law_script","_law_first","_law_second","_law_names","_law_matters","_law_people","_law_events","_law_k","_law_cell"]
def NM:LS:=["_law_script"]
noncomputable def L1:Need:=#[["_law_mixed","_law_cell_at","_law_words","_law_person","_law_folded","_law_event","_law_against"],[],["enumerate"]]
noncomputable def ZG:PT :=
  %[.expr (.mt .append (.var 6) %[.call "_law_event" %[.var 6,.var 3,.var 4,.call "_law_mixed" %[.var 8,.bin .Add (.var 7) (.int 3)|1]|1]|1])|2]
def rK:PT :=
  %[.set 1 (.call "_law_mixed" %[.call "_law_cell_at" %[.var 0,.int 0|1],.int 1|1]),.set 2 (.call "_law_mixed" %[.call "_law_cell_at" %[.var 0,.int 1|1],.int 2|1]),.set 3 (.call "_law_words" %[.call "_law_cell_at" %[.var 0,.int 0|1],.bin .Add (.int 2) (.bin .Mod (.var 1) (.int 5)),.int 8|1]),.set 4 (.call "_law_words" %[.call "_law_cell_at" %[.var 0,.int 1|1],.bin .Add (.int 1) (.bin .Mod (.var 2) (.int 3)),.int 8|1]),.set 5 (.comp [kn,kn,kn,kn,kn,kn,kn,kb] ["_law_k","_law_name"] (.tp [0,1]) .enum %[.var 3|1] .nop (.call "_law_person" %[.var 1,.call "_law_mixed" %[.call "_law_cell_at" %[.var 2,.int 0|1],.bin .Add (.int 10) (.var 0)|1]|1])),.own 6 (.lst .anil),.for_ (.tp [7,8]) .enum %[.call "_law_folded" %[.slc (.var 0) (.int 2) .nop,.int 18|1]|1] ZG,.ret (.tup %[.var 5,.var 4,.call "_law_against" %[.var 4,.bin .FloorDiv (.var 2) (.int 3)|1],.mv 6|1])|2]
theorem ZX:MA L1 rK uQ NM (top 47)=true:=by kernel_rfl
def CK:LS:=["_law_found","_law_due","_law_k"]
def RH:LS:=["_law_found","_law_due"]
noncomputable def y2:Need:=#[["_law_alike"],[],["isinstance","bool","str","int","tuple","list","len","range"]]
noncomputable def dL:PT :=
  %[.ife (.not (.call "_law_alike" %[.idx (.var 0) (.var 2),.idx (.var 1) (.var 2)|1])) %[.ret (.bl kn)|2] .nil|2]
def OE:PT :=
  %[.ife (.isi (.var 1) (.bty "bool" "bool")) %[.ret (.and (.isi (.var 0) (.bty "bool" "bool")) (.cmp .Eq (.var 0) (.var 1)))|2] .nil,.ife (.isi (.var 1) (.bty "str" "str")) %[.ret (.and (.isi (.var 0) (.bty "str" "str")) (.cmp .Eq (.var 0) (.var 1)))|2] .nil,.ife (.isi (.var 1) (.bty "int" "int")) %[.ret (.and (.isi (.var 0) (.bty "int" "int")) (.and (.not (.isi (.var 0) (.bty "bool" "bool"))) (.cmp .Eq (.var 0) (.var 1))))|2] .nil,.ife (.and (.isi (.var 1) (.bty "tuple" "tuple")) (.not (.isi (.var 0) (.bty "tuple" "tuple")))) %[.ret (.bl kn)|2] .nil,.ife (.and (.isi (.var 1) (.bty "list" "list")) (.not (.isi (.var 0) (.bty "list" "list")))) %[.ret (.bl kn)|2] .nil,.ife (.cmp .NotEq (.bi .len %[.var 0|1]) (.bi .len %[.var 1|1])) %[.ret (.bl kn)|2] .nil,.for_ (.nm 2) .rng1 %[.bi .len %[.var 1|1]|1] dL,.ret (.bl kb)|2]
theorem vI:MA y2 OE CK RH (top 48)=true:=by kernel_rfl
def sV:LS:=["_law_world_here","_law_steps"]
def rP:LS:=["_law_world_here"]
def P7:Need:=#[["gone"],[],["len"]]
noncomputable def AN:PT :=
  %[.set 1 (.call "gone" %[.var 0|1]),.ife (.cmp .Eq (.bi .len %[.var 1|1]) (.int 0)) %[.ret (.tup %[.lst .anil,.lst .anil|1])|2] .nil,.ret (.tup %[.idx (.idx (.var 1) (.ng 1)) (.int 2),.idx (.idx (.var 1) (.ng 1)) (.int 3)|1])|2]
theorem A3:MA P7 AN sV rP (top 49)=true:=by kernel_rfl
noncomputable def bO:LS:=["_law_world_here","_law_other","_law_one","_law_two","_law_matter","_law_some","_law_due","_law_number"]
def ID:LS:=["_law_world_here","_law_other"]
noncomputable def GW:Need:=#[["_law_last","_law_alike","tellers_of"],[],[]]
noncomputable def aJ:PT :=
  %[.expr (.mt .append (.idx (.var 5) (.int 3)) %[.tup %[.str "see",.int 999999999,.var 2,.var 4,.str "more"|1]|1]),.expr (.mt .append (.idx (.var 5) (.int 3)) %[.tup %[.str "tell",.int 999999999,.var 2,.var 3,.var 4,.str "more",.tup .anil|1]|1])|2]
noncomputable def tF:PT :=
  %[.ife (.and (.cmp .Eq (.idx (.idx (.idx (.var 0) (.int 3)) (.var 7)) (.int 3)) (.var 3)) (.cmp .Eq (.idx (.idx (.idx (.var 0) (.int 3)) (.var 7)) (.int 4)) (.var 4))) %[.expr (.mt .append (.var 6) %[.var 7|1])|2] .nil|2]
def aF:PT :=
  (.seq (.tset [2,3,4] (.tup %[.idx (.idx (.idx (.var 0) (.int 0)) (.int 0)) (.int 0),.idx (.idx (.idx (.var 0) (.int 0)) (.int 1)) (.int 0),.idx (.idx (.var 0) (.int 1)) (.int 0)|1]))
  (.seq (.hs (.for_ (.nm 5) .val %[.tup %[.var 0,.var 1|1]|1] aJ))
  (.seq (.own 6 (.lst .anil))
  (.lnt [0,1] [] (.for_ (.nm 7) .val %[.idx (.call "_law_last" %[.var 1|1]) (.int 0)|1] tF) (.ret (.call "_law_alike" %[.call "tellers_of" %[.var 0,.var 3,.var 4|1],.var 6|1]))
  .nil))))
theorem SU:MA GW aF bO ID (top 50)=true:=by kernel_rfl
noncomputable def fQ:LS:=["_law_world_here","_law_m","_law_pairs_here","_law_person_here"]
def SM:LS:=["_law_world_here","_law_m"]
def T1:Need:=#[[],[],["range","min","len"]]
noncomputable def cL:PT :=
  %[.expr (.mt .extend (.var 2) %[.comp [] ["_law_matter"] (.nm 0) .val %[.idx (.var 0) (.int 1)|1] .nop (.tup %[.idx (.var 4) (.int 0),.var 0|1])|1])|2]
def eK:PT :=
  %[.own 2 (.lst .anil),.for_ (.nm 3) .val %[.idx (.var 0) (.int 0)|1] cL,.ret (.comp [] ["_law_k"] (.nm 0) .rng1 %[.bi .min %[.int 3,.bi .len %[.var 2|1]|1]|1] .nop (.idx (.var 3) (.bin .Mod (.bin .Add (.var 2) (.bin .Mult (.int 7) (.var 0))) (.bi .len %[.var 3|1]))))|2]
theorem BX:MA T1 eK fQ SM (top 51)=true:=by kernel_rfl
noncomputable def yi:LS:=["_law_script","_law_world_here","_law_live","_law_held","_law_name","_law_matter","_law_due","_law_number","_law_event_here","_law_found"]
def Z6:LS:=["_law_script"]
noncomputable def Tq:Need:=#[["_law_world","_law_last","_law_pairs","_law_mixed","_law_cell_at","tellers_of","_law_alike","_law_longer"],[],["enumerate"]]
noncomputable def AL:PT :=
  %[.ife (.and (.cmp .Eq (.idx (.var 8) (.int 0)) (.str "tell")) (.and (.cmp .Eq (.idx (.var 8) (.int 3)) (.var 4)) (.and (.cmp .Eq (.idx (.var 8) (.int 4)) (.var 5)) (.cmp .In (.var 7) (.var 2))))) %[.expr (.mt .append (.var 6) %[.var 7|1])|2] .nil|2]
def nS:PT :=
  %[.own 6 (.lst .anil),.for_ (.tp [7,8]) .enum %[.idx (.var 1) (.int 3)|1] AL,.own 9 (.call "tellers_of" %[.var 1,.var 4,.var 5|1]),.ife (.not (.call "_law_alike" %[.var 9,.var 6|1])) %[.ret (.bl kn)|2] .nil,.expr (.mt .append (.var 9) %[.ng 1|1]),.ife (.not (.call "_law_alike" %[.call "tellers_of" %[.var 1,.var 4,.var 5|1],.var 6|1])) %[.ret (.bl kn)|2] .nil|2]
def N9:PT :=
  (.seq (.own 1 (.call "_law_world" %[.var 0|1]))
  (.lnt [1] [0] (.tset [2,3] (.call "_law_last" %[.var 1|1])) (.for_ (.tp [4,5]) .val %[.call "_law_pairs" %[.var 1,.call "_law_mixed" %[.call "_law_cell_at" %[.var 0,.int 1|1],.int 90|1]|1]|1] nS)
  %[.hs (.ret (.and (.cmp .Eq (.var 1) (.call "_law_world" %[.var 0|1])) (.call "_law_longer" %[.var 1,.call "_law_world" %[.var 0|1]|1])))|2]))
theorem Em:MA Tq N9 yi Z6 (top 52)=true:=by kernel_rfl
theorem gK(a b:Str):Qp (.str a) (.str b)=decide (a=b):=by rw[Q8,Qe];simp[Qp]
theorem jM(l:LS)(z:Str):((l.map j0).any λy=>Qp y (.str z))=decide (z∈l):=by rw[QBP,Q8,w4,Qe];constructor;rintro⟨x,u,e⟩;have e:Qp (.str x) (.str z)=true:=e;rw[gK,Qe]at e;exact e▸u;intro h;exact#[z,h,by show Qp (.str z) (.str z)=kb;rw[gK];exact dT rfl]
theorem fJ(l:LS):(l.map j0).all YB=true:=by rw[List.all_map,Qw];exact λ_ _=>rfl
noncomputable def Ze(g:Str)(cut:LS)(s:Str):Bool:=!decide (s=g)&&!decide (s∈cut)
inductive Led(es:EC)(st:LS)(g:Str)(cut:LS):Str->Prop
 |st {s:Str}:s∈st->Ze g cut s=kb->Led es st g cut s
 |ed {a b:Str}:Led es st g cut a->(a,b)∈es->Ze g cut b=kb->Led es st g cut b
theorem nR:∀{ks ns:LS},ks.Nodup->(∀s∈ks,s∈ns)->ks.9<=ns.9
 |[],_,_,_=>Qs _|s::r,ns,h,hs=>by let#[u,z]:=Qh.mp h;have hm:=hs s QE;have:=nR (ks:=r) (ns:=ns.erase s) z λx y=>(QBc (λ(e:x=s)=>u (e▸y))).mpr (hs x (QF _ y));rw[QAm hm]at this;have k:=QBC hm;rw[QM];omega
def one(y:Str):Prop:=∃c,c<128/\y=#[(qG [c])]
def pr(p:Str×Str):D:=.tuple [.str p.1,.str p.2]
theorem ZZ{α h:Type}(f:α->h)(l:List α)(a b:Option Int):SF (l.map f) a b=(SF l a b).map f:=by unfold SF;rw[QD,List.map_take,List.map_drop]
noncomputable abbrev Pt:=Str×Str
theorem TQ(h:pr p=pr q):p=q:=by let#[a,b]:=p;let#[c,d]:=q;injection h with h;injection h with h1 h;injection h with h2 _;injection h1 with h1;injection h2 with h2;exact QCh h1 h2
theorem u9{x k:D}{r:List D}(h:x≠k):dA (x::r) k=(dA r k).map (·+1):=by unfold dA;rw[ot h];cases r<;>rfl
theorem Rg{x k:D}{r:List D}(h:x=k):dA (x::r) k=jr 0:=by unfold dA;rw[oa h]
noncomputable def look{α:Type}:List (Pt×α)->Pt->Option α
 |[],_=>kd|e::l,p=>if e.1=p then jr e.2 else look l p
noncomputable def put{α:Type}:List (Pt×α)->Pt->α->List (Pt×α)
 |[],p,v=>[(p,v)]|e::l,p,v=>if e.1=p then(e.1,v)::l else e::put l p v
def RC{α:Type}(l:List (Pt×α)):List D:=l.map λe=>pr e.1
theorem cK{α:Type}{p:Pt}:∀{l:List (Pt×α)},look l p=kd->dA (RC l) (pr p)=kd/\∀w,put l p w=l++[(p,w)]
 |[],_=>#[rfl,λ_=>rfl]|e::l,h=>by unfold look at h;by_cases c:e.1=p;rw[oa c]at h;cases h;rw[ot c]at h;let#[y,x]:=cK h;refine#[?_,λw=>?_];show dA (pr e.1::RC l) (pr p)=kd;rw[u9 (λz=>c (TQ z)),y];rfl;show(if e.1=p then(e.1,w)::l else e::put l p w)=_;rw[ot c,x];rfl
theorem VC{α:Type}{p:Pt}{v:α}(f:α->T):∀{l:List (Pt×α)},look l p=jr v->∃n,dA (RC l) (pr p)=jr n/\(l.map λe=>f e.2)[n]?=jr (f v)/\∀w,RC (put l p w)=RC l/\(l.map λe=>f e.2).set n (f w)=(put l p w).map λe=>f e.2
 |[],h=>by cases h|e::l,h=>by unfold look at h;by_cases c:e.1=p;rw[oa c]at h;injection h with h;refine#[0,?_,?_,λw=>?_];exact Rg (QP pr c);show jr (f e.2)=_;rw[h];have:put (e::l) p w=(e.1,w)::l:=oa c;rw[this];exact#[rfl,rfl];rw[ot c]at h;let#[n,i,k,u]:=VC f h;refine#[n+1,?_,k,λw=>?_];show dA (pr e.1::RC l) (pr p)=jr (n+1);rw[u9 (λz=>c (TQ z)),i];rfl;have:put (e::l) p w=e::put l p w:=ot c;rw[this];let#[y,x]:=u w;refine#[?_,?_];show pr e.1::RC (put l p w)=pr e.1::RC l;rw[y];show f e.2::(l.map λe=>f e.2).set n (f w)=f e.2::(put l p w).map λe=>f e.2;rw[x]
theorem ZD{α:Type}{p q:Pt}{w:α}:∀{l:List (Pt×α)},look (put l p w) q=if p=q then jr w else look l q
 |[]=>rfl|e::l=>by
  by_cases c:e.1=p;have h:put (e::l) p w=(e.1,w)::l:=oa c;rw[h];show(if e.1=q then jr w else look l q)=if p=q then jr w else(if e.1=q then jr e.2 else look l q)
  rw[c];split<;>rfl;have h:put (e::l) p w=e::put l p w:=ot c;rw[h];show(if e.1=q then jr e.2 else look (put l p w) q)=if p=q then jr w else(if e.1=q then jr e.2 else look l q)
  rw[ZD];by_cases d:e.1=q;rw[oa d,oa d,ot (λz=>c (d.trans z.symm))];rw[ot d,ot d]
theorem VY{α:Type}{p:Pt}{w:α}:∀{l:List (Pt×α)},(put l p w).9<=l.9+1
 |[]=>QZ _|e::l=>by by_cases c:e.1=p;rw[show put (e::l) p w=(e.1,w)::l from oa c,QM,QM];omega;have:=VY (p:=p) (w:=w) (l:=l);rw[show put (e::l) p w=e::put l p w from ot c,QM,QM];omega
theorem IB(p:Pt):SD kb (pr p):=#[[.s p.1,.s p.2],rfl,by simp[G7,nkds]]
noncomputable abbrev Inn:=List (Pt×Int)
noncomputable abbrev Rm:=List (Pt×Inn)
noncomputable def VD(l:Inn):T:=.dct kb (RC l) (l.map λe=>T.d (.int e.2))
def dB(r:Rm):T:=.dct kb (RC r) (r.map λe=>VD e.2)
def sdf(r:Rm)(p:Pt):Rm:=match look r p with
 |some _=>r|none=>r++[(p,[])]
theorem iY(hl:r.9<ku)(q:Q (dB (sdf r p))):Ap (.d (pr p)) (dB r) Q:=by
 refine#[RC r,_,rfl,IB p,by unfold RC;rw[QD];exact hl,?_];unfold sdf at q;cases h:look r p with
 |some v=>rw[h]at q;let#[n,x,_]:=VC VD h;exact .inl #[n,x,q]|none =>
  rw[h]at q;refine .inr #[(cK h).1,?_];have e:dB (r++[(p,[])])=.dct kb (RC r++[pr p]) ((r.map λe=>VD e.2)++[.dct kb [] []]):=by unfold dB RC;rw[QN,QN];rfl
  show Q (T.dct kb (RC r++[pr p]) ((r.map λe=>VD e.2)++[.dct kb [] []]));rw[<- e];exact q
theorem eQ(hl:l.9<ku)(q:Q (VD (put l p v))):Pf (VD l) (.d (pr p)) (.d (.int v)) Q:=by
 refine#[IB p,by unfold RC;rw[QD];exact hl,?_];have e:EJ kb (RC l) (l.map λe=>T.d (.int e.2)) (pr p) (.d (.int v))=VD (put l p v):=by
  unfold EJ;cases h:look l p with|none=>let#[x,y]:=cK h;rw[x,y];unfold VD RC;rw[QN,QN];rfl|some u=>let#[n,x,y,f]:=VC (λi:Int=>T.d (.int i)) h;rw[x];let#[k,z]:=f v;show T.dct kb (RC l) ((l.map λe=>T.d (.int e.2)).set n (T.d (.int v)))=_;unfold VD;rw[k,z]
 show Q (EJ kb (RC l) (l.map λe=>T.d (.int e.2)) (pr p) (.d (.int v)));rw[e];exact q
theorem aI{Q:T->(T->T)->Prop}(h:look r p=jr l)(q:∀f:T->T,(∀x,f (VD x)=dB (put r p x))->Q (VD l) f):Fp (.d (pr p)) (dB r) Q:=by let#[n,i,k,u]:=VC VD h;refine#[kb,RC r,_,n,VD l,rfl,IB p,i,k,q _ λx=>?_];let#[z,y]:=u x;show T.dct kb (RC r) ((r.map λe=>VD e.2).set n (VD x))=_;unfold dB;rw[z,y]
def UA:Pt:=("","begin")
def tO(n:Str):Pt:=(n,"to")
def fR(n:Str):Pt:=(n,"from")
theorem bw:("begin":Str)≠"to":=by decide +kernel
theorem cw:("begin":Str)≠"from":=by decide +kernel
theorem xw:("to":Str)≠"from":=by decide +kernel
theorem TB:UA≠tO a:=λh=>bw (QP QBV h)
theorem ME:UA≠fR a:=λh=>cw (QP QBV h)
theorem SA:tO a≠fR b:=λh=>xw (QP QBV h)
theorem FB(h:tO a=tO b):a=b:=QP qp h
theorem yI(h:fR a=fR b):a=b:=QP qp h
def D4(p q:Pt):Prop:=(p=UA/\∃n,q=tO n)∨(∃n,p=tO n/\q=fR n)∨(∃a b,a≠b/\p=fR a/\q=tO b)
theorem cF(h:D4 p q):¬ D4 q p:=by
 rintro k;rcases h with⟨rfl,n,rfl⟩| ⟨n,rfl,rfl⟩| ⟨a,b,u,rfl,rfl⟩<;>rcases k with⟨x,m,y⟩| ⟨m,x,y⟩| ⟨c,d,z,x,y⟩
 exact TB x.symm;exact ME y;exact SA x;exact ME x.symm;exact SA x.symm;exact z ((yI x).symm.trans (FB y));exact TB x.symm;exact u ((yI y).trans (FB x).symm);exact SA x
theorem mG(h:D4 p q):p≠q:=λe=>cF h (by rw[e]at h ⊢;exact h)
noncomputable abbrev Wy:=Pt×Pt×Int
def lk(r:Rm)(p:Pt):Inn:=(look r p).getD []
def ZB(r:Rm)(w:Wy):Rm:=put (put (sdf (sdf r w.1) w.2.1) w.1 (put (lk (sdf (sdf r w.1) w.2.1) w.1) w.2.1 w.2.2)) w.2.1 (put (lk (put (sdf (sdf r w.1) w.2.1) w.1 (put (lk (sdf (sdf r w.1) w.2.1) w.1) w.2.1 w.2.2)) w.2.1) w.1 0)
theorem IT{α:Type}{p q:Pt}{v:α}:∀{l:List (Pt×α)},look (l++[(p,v)]) q=(look l q).or (if p=q then jr v else kd)
 |[]=>rfl|e::l=>by show(if e.1=q then jr e.2 else look (l++[(p,v)]) q)=(if e.1=q then jr e.2 else look l q).or (if p=q then jr v else kd);by_cases c:e.1=q;rw[oa c,oa c];rfl;rw[ot c,ot c];exact IT
theorem ET:look (sdf r p) q=(look r q).or (if p=q then jr [] else kd):=by
 unfold sdf;cases h:look r p with
 |some v =>
  show look r q=_;cases y:look r q with
  |some x=>rfl|none =>
   show kd=if p=q then jr [] else kd
   rw[ot];intro e;rw[e,y]at h;cases h
 |none=>show look (r++[(p,[])]) q=_;exact IT
theorem GQ:(sdf r p).9<=r.9+1:=by unfold sdf;split;omega;rw[QI,qL];omega
theorem LI{α:Type}{p:Pt}{w:α}{e:Pt×α}:∀{l:List (Pt×α)},e∈put l p w->e=(p,w)∨e∈l
 |[],h=>.inl (QJ.mp h)|x::l,h=>by by_cases c:x.1=p;rw[show put (x::l) p w=(x.1,w)::l from oa c]at h;rcases QL.mp h with h|h;exact .inl (by rw[h,c]);exact .inr (QF _ h);rw[show put (x::l) p w=x::put l p w from ot c]at h;rcases QL.mp h with h|h;exact .inr (by rw[h];exact QE);exact(LI h).imp_right (QF _)
theorem PQ{α:Type}{p:Pt}{w:α}{q:Pt}:∀{l:List (Pt×α)},(∃v,(q,v)∈put l p w)↔q=p∨∃v,(q,v)∈l
 |[]=>by
  constructor;rintro⟨v,h⟩;exact .inl (QP qp (QJ.mp h));rintro(rfl|⟨v,h⟩)
  ·exact#[w,QJ.mpr rfl]
  exact(nomatch h)
 |x::l=>by
  by_cases c:x.1=p;rw[show put (x::l) p w=(x.1,w)::l from oa c];constructor;rintro⟨v,h⟩;rcases QL.mp h with h|h;exact .inl ((QP qp h).trans c);exact .inr #[v,QF _ h];rintro(rfl|⟨v,h⟩)
  ·exact#[w,by rw[c];exact QE]
  rcases QL.mp h with h|h
  ·exact#[w,by rw[<- h];exact QE]
  exact#[v,QF _ h];rw[show put (x::l) p w=x::put l p w from ot c];have y:=PQ (p:=p) (w:=w) (q:=q) (l:=l);constructor;rintro⟨v,h⟩;rcases QL.mp h with h|h;exact .inr #[v,by rw[h];exact QE];exact(y.mp #[v,h]).imp_right λ#[v,h]=>#[v,QF _ h]
  rintro(h|⟨v,h⟩)
  ·let#[v,h]:=y.mpr (.inl h)
   exact#[v,QF _ h]
  rcases QL.mp h with h|h
  ·exact#[v,by rw[h];exact QE]
  let#[v,h]:=y.mpr (.inr #[v,h]);exact#[v,QF _ h]
def L4(r:Rm)(p q:Pt):Prop:=∃v,(q,v)∈lk r p
def Key(r:Rm)(p:Pt):Prop:=∃l,look r p=jr l
def Pos(r:Rm):Prop:=∀p,∀e∈lk r p,(0<e.2↔D4 p e.1)
def Oa(r:Rm):Prop:=∀p q,L4 r p q->Key r q
def Sz(r:Rm)(n:Nat):Prop:=r.9<=n/\∀p,(lk r p).9<=n
theorem mE:lk (put r p l) q=if p=q then l else lk r q:=by unfold lk;rw[ZD];split<;>rfl
theorem lE:lk (sdf r p) q=lk r q:=by
 unfold lk;rw[ET];cases look r q with|some x=>rfl|none=>show(if p=q then jr [] else kd).getD []=[];split<;>rfl
theorem uJ:Key (put r p l) q↔p=q∨Key r q:=by unfold Key;rw[ZD];by_cases h:p=q;rw[oa h];exact#[λ_=>.inl h,λ_=>#[_,rfl]];rw[ot h];exact#[.inr,λz=>z.resolve_left h]
theorem kE:Key (sdf r p) q↔p=q∨Key r q:=by
 unfold Key;rw[ET];cases look r q with|some x=>exact#[λ_=>.inr #[_,rfl],λ_=>#[_,rfl]]|none=>show(∃l,(if p=q then jr [] else kd)=jr l)↔_;by_cases h:p=q;rw[oa h];exact#[λ_=>.inl h,λ_=>#[_,rfl]];rw[ot h];exact#[λ#[_,e]=>(nomatch e),λz=>(z.resolve_left h)]
theorem vJ(h:w.1≠w.2.1)(p:Pt):lk (ZB r w) p=if w.2.1=p then put (lk r p) w.1 0 else if w.1=p then put (lk r p) w.2.1 w.2.2 else lk r p:=by unfold ZB;rw[mE,mE,mE,lE,lE,lE,lE,ot h,lE,lE];by_cases y:w.2.1=p;rw[oa y,oa y,y];rw[ot y,ot y];by_cases x:w.1=p;rw[oa x,oa x,x];rw[ot x,ot x]
theorem oG:Key (ZB r w) p↔p=w.1∨p=w.2.1∨Key r p:=by
 unfold ZB;rw[uJ,uJ,kE,kE];constructor;rintro(h|h|h|h|h)
 ·exact .inr (.inl h.symm)
 exact .inl h.symm;exact .inr (.inl h.symm);exact .inl h.symm;exact .inr (.inr h);rintro(h|h|h)
 ·exact .inr (.inl h.symm)
 exact .inl h.symm;exact .inr (.inr (.inr (.inr h)))
theorem mJ(h:w.1≠w.2.1):L4 (ZB r w) p q↔L4 r p q∨(p=w.1/\q=w.2.1)∨(p=w.2.1/\q=w.1):=by
 unfold L4;rw[vJ h];by_cases x:w.2.1=p;rw[oa x,PQ];constructor;rintro(e|e)
 ·exact .inr (.inr #[x.symm,e])
 exact .inl e;rintro(e|⟨u,y⟩| ⟨u,y⟩)
 ·exact .inr e
 exact o2 (u.symm.trans x.symm) h;exact .inl y;rw[ot x];by_cases k:w.1=p;rw[oa k,PQ];constructor;rintro(e|e)
 ·exact .inr (.inl #[k.symm,e])
 exact .inl e;rintro(e|⟨u,y⟩| ⟨u,y⟩)
 ·exact .inr e
 exact .inl y;exact o2 u.symm x;rw[ot k];exact#[.inl,λz=>z.elim id λz=>z.elim (λe=>o2 e.1.symm k) λe=>o2 e.1.symm x]
def LG(w:Wy):Prop:=D4 w.1 w.2.1/\0<w.2.2
theorem X6(g:LG w)(y:Pos r):Pos (ZB r w):=by intro p e h;rw[vJ (mG g.1)]at h;by_cases k:w.2.1=p;rw[oa k]at h;rcases LI h with z|z;rw[z,<- k];exact#[λx=>o2 x (wz 0),λx=>o2 x (cF g.1)];exact y p e z;rw[ot k]at h;by_cases u:w.1=p;rw[oa u]at h;rcases LI h with z|z;rw[z,<- u];exact#[λ_=>g.1,λ_=>g.2];exact y p e z;rw[ot u]at h;exact y p e h
theorem n9(g:LG w)(x:Oa r):Oa (ZB r w):=by
 intro p q h;rw[oG];rcases(mJ (mG g.1)).mp h with h|⟨_,h⟩| ⟨_,h⟩
 exact .inr (.inr (x p q h));exact .inr (.inl h);exact .inl h
theorem BM{α:Type}{w:α}{l:List (Pt×α)}{n:Nat}(h:l.9<=n):(put l p w).9<=n+1:=QS VY ()
theorem RQ{α:Type}{p:Pt}{w:α}:∀{l:List (Pt×α)},(look l p).isSome=kb->(put l p w).9=l.9
 |[],h=>by cases h|e::l,h=>by by_cases c:e.1=p;rw[show put (e::l) p w=(e.1,w)::l from oa c];rfl;rw[show put (e::l) p w=e::put l p w from ot c,QM,QM];rw[show look (e::l) p=look l p from ot c]at h;rw[RQ h]
theorem cU(h:Key r p):(look r p).isSome=true:=by let#[l,e]:=h;rw[e];rfl
theorem f8:(ZB r w).9<=r.9+2:=by have x:Key (sdf (sdf r w.1) w.2.1) w.1:=kE.mpr (.inr (kE.mpr (.inl rfl)));have h:Key (sdf (sdf r w.1) w.2.1) w.2.1:=kE.mpr (.inl rfl);unfold ZB;rw[RQ (cU (uJ.mpr (.inr h))),RQ (cU x)];have:=GQ (r:=r) (p:=w.1);have:=GQ (r:=sdf r w.1) (p:=w.2.1);omega
theorem tI{n:Nat}(g:w.1≠w.2.1)(h:Sz r n):Sz (ZB r w) (n+2):=by
 refine#[QS f8 (by have:=h.1;omega),λp=>?_];rw[vJ g];have x:=h.2 p;split;exact QS (BM x) ();split
 ·exact QS (BM x) ()
 omega
theorem aZ:∀{ws:List Wy}{r:Rm},(∀w∈ws,LG w)->∀{p q:Pt},L4 (ws.foldl ZB r) p q↔L4 r p q∨(∃v,(p,q,v)∈ws)∨∃v,(q,p,v)∈ws
 |[],r,_,p,q=>#[.inl,λz=>z.elim id λz=>z.elim (λ#[_,z]=>(nomatch z)) λ#[_,z]=>(nomatch z)]
 |w::ws,r,h,p,q=>by
  rw[QAL,aZ (λw x=>h w (QF _ x)),mJ (mG (h w QE).1)];constructor;rintro((z|⟨rfl,rfl⟩| ⟨rfl,rfl⟩)|⟨v,z⟩| ⟨v,z⟩)
  ·exact .inl z
  exact .inr (.inl #[_,QE]);exact .inr (.inr #[_,QE]);exact .inr (.inl #[v,QF _ z]);exact .inr (.inr #[v,QF _ z]);rintro(z|⟨v,z⟩| ⟨v,z⟩)
  ·exact .inl (.inl z)
  rcases QL.mp z with z|z
  ·rw[<- z]
   exact .inl (.inr (.inl #[rfl,rfl]))
  exact .inr (.inl #[v,z]);rcases QL.mp z with z|z
  ·rw[<- z]
   exact .inl (.inr (.inr #[rfl,rfl]))
  exact .inr (.inr #[v,z])
theorem nV:∀{ws:List Wy}{r:Rm}{n:Nat},(∀w∈ws,LG w)->Pos r->Oa r->Key r UA->Sz r n->Pos (ws.foldl ZB r)/\Oa (ws.foldl ZB r)/\Key (ws.foldl ZB r) UA/\Sz (ws.foldl ZB r) (n+2 * ws.length)
 |[],r,n,_,h1,h2,h3,h4=>#[h1,h2,h3,h4]|w::ws,r,n,h,h1,h2,h3,h4=>by have g:=h w QE;have:=nV (ws:=ws) (r:=ZB r w) (n:=n+2) (λw x=>h w (QF _ x)) (X6 g h1) (n9 g h2) (oG.mpr (.inr (.inr h3))) (tI (mG g.1) h4);rw[QAL,QM,show n+2 * (ws.length+1)=n+2+2 * ws.length by omega];exact this
noncomputable def KS(g:Str)(n:Str):List Wy:=if n=g then[] else[(tO n,fR n,1),(UA,tO n,2)]
noncomputable def UV(g:Str)(e:Str×Str):List Wy:=if e.1=g∨e.1=e.2 then[] else[(tO e.1,fR e.1,1),(tO e.2,fR e.2,1),(fR e.1,tO e.2,2)]
def sH:Rm:=[(UA,[])]
def yA(es:EC)(st:LS)(g:Str):Rm:=(es.flatMap (UV g)).foldl ZB ((st.flatMap (KS g)).foldl ZB sH)
theorem Au:(0:Int)<1:=by decide
theorem Py:(0:Int)<2:=by decide
theorem xY:(KS g n).9<=2:=by unfold KS;split;exact Qs _;exact QZ _
theorem uY:(UV g e).9<=3:=by unfold UV;split;exact Qs _;exact QZ _
theorem zM:∀w∈KS g n,LG w:=by
 intro w h;unfold KS at h;split at h;exact(nomatch h);rcases QL.mp h with rfl|h
 ·exact#[.inr (.inl #[n,rfl,rfl]),Au]
 rw[QJ.mp h];exact#[.inl #[rfl,n,rfl],Py]
theorem kM:∀w∈UV g e,LG w:=by
 intro w x;unfold UV at x;split at x;exact(nomatch x);rename_i h;rcases QL.mp x with rfl|x;exact#[.inr (.inl #[e.1,rfl,rfl]),Au];rcases QL.mp x with rfl|x
 ·exact#[.inr (.inl #[e.2,rfl,rfl]),Au]
 rw[QJ.mp x];exact#[.inr (.inr #[e.1,e.2,λz=>h (.inr z),rfl,rfl]),Py]
theorem XN{α:Type}{f:α->List Wy}{k:Nat}(h:∀x,(f x).9<=k):∀(l:List α),(l.flatMap f).9<=k * l.9
 |[]=>QZ _|x::l=>by have:=XN h l;have:=h x;rw[QAn,QI,QM,Nat.mul_succ];omega
theorem cH{α:Type}{f:α->List Wy}(h:∀x,∀w∈f x,LG w)(l:List α):∀w∈l.flatMap f,LG w:=λw z=>by let#[x,_,y]:=WT.mp z;exact h x w y
structure RmOk(r:Rm)(n:Nat):Prop where
 pos:Pos r
 dom:Oa r
 bg:Key r UA
 sz:Sz r n
theorem BE:RmOk sH 1:=by
 have e:∀p,lk sH p=[]:=λp=>by show(if UA=p then jr [] else kd).getD []=[];split<;>rfl
 refine#[λp y x=>?_,λp q #[v,h]=>?_,#[[],oa rfl],QZ _,λp=>?_];rw[e]at x;exact(nomatch x);rw[e]at h;exact(nomatch h);rw[e];exact Qs _
theorem RmOk.add{r:Rm}{n:Nat}(h:RmOk r n){ws:List Wy}(g:∀w∈ws,LG w):RmOk (ws.foldl ZB r) (n+2 * ws.length):=by let#[u,z,y,x]:=nV g h.pos h.dom h.bg h.sz;exact#[u,z,y,x]
theorem ZT{es:EC}{st:LS}(z:es.9<=126)(y:st.9<=11):RmOk (yA es st g) 1000:=by have a:=(BE.add (cH (f:=KS g) (λ_=>zM) st)).add (cH (f:=UV g) (λ_=>kM) es);have x:=XN (f:=KS g) (k:=2) (λ_=>xY) st;have h:=XN (f:=UV g) (k:=3) (λ_=>uY) es;exact#[a.pos,a.dom,a.bg,QS a.sz.1 (),λp=>QS (a.sz.2 p) ()]
def ph(r:Rm)(p q:Pt):Prop:=∃v,(q,v)∈lk r p/\0<v
inductive Rch(r:Rm):Pt->Prop
 |bg:Rch r UA
 |go {p q:Pt}:Rch r p->ph r p q->Rch r q
theorem Pr:(p,q,v)∈KS g n↔n≠g/\((p,q,v)=(tO n,fR n,1)∨(p,q,v)=(UA,tO n,2)):=by unfold KS;split;rename_i h;exact#[λz=>(nomatch z),λz=>o2 h z.1];rename_i h;rw[QL,QJ];exact#[λz=>#[h,z],λz=>z.2]
theorem Rr:(p,q,v)∈UV g e↔(e.1≠g/\e.1≠e.2)/\((p,q,v)=(tO e.1,fR e.1,1)∨(p,q,v)=(tO e.2,fR e.2,1)∨(p,q,v)=(fR e.1,tO e.2,2)):=by unfold UV;split;rename_i h;exact#[λz=>(nomatch z),λz=>h.elim (λh=>o2 h z.1.1) λh=>o2 h z.1.2];rename_i h;rw[QL,QL,QJ];exact#[λz=>#[#[λe=>h (.inl e),λe=>h (.inr e)],z],λz=>z.2]
theorem GE{cut:LS}{s:Str}:Ze g cut s=kb↔s≠g/\s∉cut:=by unfold Ze;rw[QW,Q7,Q7,decide_eq_false_iff_not,decide_eq_false_iff_not]
end
section
variable{es:EC}{st:LS}{g:Str}{x:LS}
theorem tN{s:Str}(h:Led es st g x s):s≠g/\s∉x:=by
 cases h with|st _ h=>exact GE.mp h|ed _ _ h=>exact GE.mp h
end
section
variable{r:Rm}{ks:List Pt}{vs:List D}
theorem U5:∀{ws:List Wy}{r:Rm}{n:Nat},(∀w∈ws,LG w)->Sz r n->Sz (ws.foldl ZB r) (n+2 * ws.length)
 |[],r,n,_,h4=>h4|w::ws,r,n,h,h4=>by have:=U5 (ws:=ws) (r:=ZB r w) (n:=n+2) (λw x=>h w (QF _ x)) (tI (mG (h w QE).1) h4);rw[QAL,QM,show n+2 * (ws.length+1)=n+2+2 * ws.length by omega];exact this
inductive CF(r:Rm):List Pt->List D->Prop
 |bg:CF r [UA] [.none]
 |add {ks:List Pt}{vs:List D}{p q:Pt}:CF r ks vs->p∈ks->ph r p q->q∉ks->CF r (ks++[q]) (vs++[pr p])
theorem CF.len(h:CF r ks vs):vs.9=ks.length:=by
 induction h with|bg=>rfl|add _ _ _ _ x=>rw[QI,QI,x];rfl
theorem CF.hb(h:CF r ks vs):UA∈ks:=by
 induction h with|bg=>exact QE|add _ _ _ _ x=>exact Qn _ x
theorem CF.rch(h:CF r ks vs):∀k∈ks,Rch r k:=by
 induction h with|bg=>intro k hk;rw[QJ.mp hk];exact .bg|add _ y w _ x=>intro k hk;rcases Qd.mp hk with z|z;exact x k z;rw[QJ.mp z];exact .go (x _ y) w
theorem CF.nd(h:CF r ks vs):ks.Nodup:=by
 induction h with
 |bg=>exact Qh.mpr #[λz=>(nomatch z),Q4]
 |add _ _ _ n x=>refine qh.mpr #[x,Qh.mpr #[λz=>(nomatch z),Q4],λa y b hb z=>?_];rw[QJ.mp hb]at z;exact n (z▸y)
theorem HI(x:Oa r)(hb:Key r UA){p:Pt}(h:Rch r p):Key r p:=by
 cases h with|bg=>exact hb|go _ w=>let#[v,m,_]:=w;exact x _ _ #[v,m]
theorem BR{p:Pt}{l:Inn}:∀{r:Rm},look r p=jr l->p∈r.map (·.1)
 |[],h=>by cases h|e::r,h=>by by_cases c:e.1=p;rw[<- c];exact QE;rw[show look (e::r) p=look r p from ot c]at h;exact QF _ (BR (r:=r) h)
theorem zH:∀{ks ns:List Pt},ks.Nodup->(∀s∈ks,s∈ns)->ks.9<=ns.9
 |[],_,_,_=>Qs _|s::r,ns,h,hs=>by let#[u,z]:=Qh.mp h;have hm:=hs s QE;have:=zH (ks:=r) (ns:=ns.erase s) z λx y=>(QBc (λ(e:x=s)=>u (e▸y))).mpr (hs x (QF _ y));rw[QAm hm]at this;have v:=QBC hm;rw[QM];omega
theorem CF.le(x:Oa r)(hb:Key r UA)(h:CF r ks vs):ks.9<=r.length:=by
 have:=zH (ns:=r.map (·.1)) h.nd λs hs=>by let#[l,e]:=HI x hb (h.rch s hs);exact BR e
 rw[QD]at this;exact this
structure Srch(r:Rm)(ks:List Pt)(vs:List D)(ws:List Pt):Prop where
 cf:CF r ks vs
 sub:∀w∈ws,w∈ks
 clo:∀k∈ks,k∉ws->∀q,ph r k q->q∈ks
structure Srch1(r:Rm)(here:Pt)(ks:List Pt)(vs:List D)(ws:List Pt)(l:Inn):Prop where
 cf:CF r ks vs
 sub:∀w∈ws,w∈ks
 clo:∀k∈ks,k∉ws->k≠here->∀q,ph r k q->q∈ks
 her:here∈ks
 don:∀e∈lk r here,0<e.2->e.1∈ks∨e∈l
 all:∀e∈l,e∈lk r here
end
section
variable{r:Rm}{ks ws:List Pt}{vs:List D}
theorem Np:Srch r [UA] [.none] [UA]:=#[.bg,λ_ h=>h,λk h n=>o2 h n]
theorem Srch.pop{w:Pt}(h:Srch r ks vs (w::ws)):Srch1 r w ks vs ws (lk r w):=by refine#[h.cf,λx v=>h.sub x (QF _ v),λk hk n u=>h.clo k hk λz=>?_,h.sub w QE,λe y _=>.inr y,λe y=>y];rcases QL.mp z with z|z;exact u z;exact n z
theorem Srch1.skip{y:Pt}{e:Pt×Int}{l:Inn}(h:Srch1 r y ks vs ws (e::l))(c:0<e.2->e.1∈ks):Srch1 r y ks vs ws l:=by
 refine#[h.cf,h.sub,h.clo,h.her,λx u p=>?_,λx u=>h.all x (QF _ u)];rcases h.don x u p with z|z;exact .inl z;rcases QL.mp z with z|z
 ·rw[z]at p ⊢;exact .inl (c p)
 exact .inr z
theorem Srch1.add{u:Pt}{e:Pt×Int}{l:Inn}(h:Srch1 r u ks vs ws (e::l))(c:0<e.2)(n:e.1∉ks):Srch1 r u (ks++[e.1]) (vs++[pr u]) (ws++[e.1]) l:=by
 have f:=h.all e QE;refine#[h.cf.add h.her #[e.2,f,c] n,λx v=>?_,λk hk a b q w=>?_,Qn _ h.her,λx v p=>?_,λx v=>h.all x (QF _ v)];rcases Qd.mp v with z|z
 ·exact Qn _ (h.sub x z)
 exact QU _ z;rcases Qd.mp hk with z|z
 ·exact Qn _ (h.clo k z (λy=>a (Qn _ y)) b q w)
 exact o2 (QU _ z) a;rcases h.don x v p with z|z
 ·exact .inl (Qn _ z)
 rcases QL.mp z with z|z
 ·rw[z];exact .inl (QU _ QE)
 exact .inr z
theorem Srch1.fin{x:Pt}(h:Srch1 r x ks vs ws []):Srch r ks vs ws:=by refine#[h.cf,h.sub,λk hk n q w=>?_];by_cases e:k=x;subst e;let#[v,m,p]:=w;rcases h.don (q,v) m p with z|z;exact z;exact(nomatch z);exact h.clo k hk n e q w
theorem Srch.done(h:Srch r ks vs [])(p:Pt):p∈ks↔Rch r p:=by
 refine#[h.cf.rch p,λz=>?_];induction z with|bg=>exact h.cf.hb|go _ w x=>exact h.clo _ x (λz=>(nomatch z)) _ w
end
def eC(Q:T->LT->Prop):PEnds:={ nx:=λh=>rW (BA [0] h) (Q (.d .none)),rt:=λt h=>rW (BA [0] h) (Q t) }
theorem nK{Ψ:PEv}{b:PT}{p:PSp}{N x:LS}{ds:LT}{Q:T->LT->Prop}(ρ:kA)(h:pF Ψ b (eC Q) ρ)(hl:ds.9=x.length:=by rfl)(hc:XB 0 p.md x.9=[0]:=by rfl)(hs:mB N p.md ds=ρ:=by rfl):ds.9=x.9/\pF Ψ b (YC p x.9 Q) (mB N p.md ds):=by
 have e:YC p x.9 Q=eC Q:=by unfold YC;rw[hc];rfl
 rw[e,hs];exact#[hl,h]
def m4(r:Rm)(h t:Pt)(v:Int):kA:=[oW (dB r),bD (pr h),bD (pr t),bD (.int v)]
section
variable{Ψ:PEv}{Z:PEnds}{q:PT}{r:Rm}{h t:Pt}{v:Int}
theorem ky(hl:r.9<ku)(k:pF Ψ q Z (m4 (sdf r h) h t v)):pF Ψ (.seq (.sdf 0 (.var 1)) q) Z (m4 r h t v):=by delta m4 at k ⊢;simp![↓vA];refine#[rfl,iY hl ?_];exact k
theorem zy(hl:r.9<ku)(k:pF Ψ q Z (m4 (sdf r t) h t v)):pF Ψ (.seq (.sdf 0 (.var 2)) q) Z (m4 r h t v):=by delta m4 at k ⊢;simp![↓vA];refine#[rfl,iY hl ?_];exact k
theorem yy{l:Inn}(e:look r h=jr l)(hl:l.9<ku)(k:pF Ψ q Z (m4 (put r h (put l t v)) h t v)):pF Ψ (.seq (.six (.idx (.var 0) (.var 1)) (.var 2) (.var 3)) q) Z (m4 r h t v):=by delta m4 at k ⊢;simp![↓vA];refine aI e λf x=>eQ hl ?_;rw[x];exact k
theorem jy{l:Inn}(e:look r t=jr l)(hl:l.9<ku)(k:pF Ψ q Z (m4 (put r t (put l h 0)) h t v)):pF Ψ (.seq (.six (.idx (.var 0) (.var 2)) (.var 1) (.int 0)) q) Z (m4 r h t v):=by delta m4 at k ⊢;simp![↓vA];refine aI e λf x=>eQ hl ?_;rw[x];exact k
end
theorem FE{r:Rm}{p:Pt}(h:Key r p):look r p=jr (lk r p):=by let#[l,e]:=h;unfold lk;rw[e];rfl
def SG:PSp where
 md:=[.chg]
 run:=λh Q _=>∃(r:Rm) (w:Wy),h=[dB r,.d (pr w.1),.d (pr w.2.1),.d (.int w.2.2)]/\(w.1≠w.2.1/\Sz r 5000)/\Q (.d .none) [dB (ZB r w)]
theorem Jd{Ψ:PEv}:JE Ψ yQ SG mQ EM:=by rintro _ Q _ ⟨r,w,rfl,⟨y,hs⟩,q⟩;refine nK (m4 r w.1 w.2.1 w.2.2) ?_;have k:=hs.1;have v:=GQ (r:=r) (p:=w.1);have x:Key (sdf (sdf r w.1) w.2.1) w.1:=kE.mpr (.inr (kE.mpr (.inl rfl)));have h:Key (sdf (sdf r w.1) w.2.1) w.2.1:=kE.mpr (.inl rfl);have u:=hs.2 w.1;have z:=hs.2 w.2.1;refine ky () (zy () (yy (FE x) (by rw[lE,lE];omega) (jy (FE (uJ.mpr (.inr h))) (by rw[mE,ot y,lE,lE];omega) ?_)));exact q
def UI:PSp where
 md:=[.chg]
 run:=λh Q _=>∃(r:Rm) (n:Str),h=[dB r,.d (.str n)]/\Sz r 5000/\Q (.d .none) [dB (ZB r (tO n,fR n,1))]
theorem Yd{Ψ:PEv}(h:Ψ.sp "add_way"=SG):JE Ψ lI UI lO jL:=by rintro _ Q _ ⟨r,n,rfl,hs,q⟩;refine nK [oW (dB r),bD (.str n)] ?_;delta lI;simp![↓dH (md:=[]) h rfl rfl];refine#[(),(),?_];exact#[_,(tO n,fR n,1),rfl,#[SA,hs],#[_,rfl,q]]
def K4(es:EC)(st:LS)(g:Str)(r:Rm)(o4 o5 o6:Option Sl):kA:=[bD (.list (es.map pr)),bD (.tuple (st.map j0)),bD (.str g),oW (dB r),o4,o5,o6]
section
variable{Ψ:PEv}{Z:PEnds}{es:EC}{st:LS}{g:Str}{r:Rm}
theorem sw(h:Ψ.va "BEGIN"=jr (pr UA)){q:PT}{o3 o4 o5 o6:Option Sl}(k:pF Ψ q Z (K4 es st g sH o4 o5 o6)) :
  pF Ψ (.seq (.own 3 (.dsp (.glo "BEGIN") (.dnew kb))) q) Z [bD (.list (es.map pr)),bD (.tuple (st.map j0)),bD (.str g),o3,o4,o5,o6]:=by
 simp![↓HH h];exact#[IB UA,k]
theorem mw(a:Ψ.sp "add_name"=UI)(v:Ψ.sp "add_way"=SG)(u:Ψ.va "BEGIN"=jr (pr UA))(z:Ψ.va "WIDE"=jr (.int 2)){n:Str}{o5 o6:Option Sl}(hs:Sz r 4900)(k:Z.nx (K4 es st g ((KS g n).foldl ZB r) (bD (.str n)) o5 o6)) :
  pF Ψ rF Z (K4 es st g r (bD (.str n)) o5 o6):=by
 delta K4 at k ⊢;delta rF;simp![↓HH u,↓HH z,↓dH (md:=[]) a rfl rfl,↓dH (md:=[]) v rfl rfl];by_cases e:n=g;rw[dT e];unfold KS at k;rw[oa e]at k;exact k;rw[dF e];unfold KS at k;rw[ot e]at k;have y:Sz r 5000:=#[QS hs.1 (),λp=>QS (hs.2 p) ()]
 have h:=tI (w:=(tO n,fR n,1)) SA hs;have x:Sz (ZB r (tO n,fR n,1)) 5000:=#[QS h.1 (),λp=>QS (h.2 p) ()]
 refine#[_,_,rfl,y,#[_,rfl,?_]];refine#[(),?_];exact#[_,(UA,tO n,2),rfl,#[TB,x],#[_,rfl,k]]
theorem lw(i:Ψ.sp "add_name"=UI)(f:Ψ.sp "add_way"=SG)(v:Ψ.va "WIDE"=jr (.int 2)){a b:Str}{o4:Option Sl}(hs:Sz r 4900)(k:Z.nx (K4 es st g ((UV g (a,b)).foldl ZB r) o4 (bD (.str a)) (bD (.str b)))) :
  pF Ψ oF Z (K4 es st g r o4 (bD (.str a)) (bD (.str b))):=by
 delta K4 at k ⊢;delta oF;simp![↓HH v,↓dH (md:=[]) i rfl rfl,↓dH (md:=[]) f rfl rfl];unfold UV at k;by_cases e:a=g;rw[dT e];rw[oa (.inl e)]at k;exact k;rw[dF e];by_cases h:a=b;rw[dT h];rw[oa (.inr h)]at k;exact k;rw[dF h];rw[ot (λz=>z.elim e h)]at k;have u:Sz r 5000:=#[QS hs.1 (),λp=>QS (hs.2 p) ()]
 have x:=tI (w:=(tO a,fR a,1)) SA hs;have y:=tI (w:=(tO b,fR b,1)) SA x;refine#[_,_,rfl,u,#[_,rfl,?_]];refine#[_,_,rfl,#[QS x.1 (),λp=>QS (x.2 p) ()],#[_,rfl,?_]];refine#[(),(),?_];exact#[_,(fR a,tO b,2),rfl,#[SA.symm,#[QS y.1 (),λp=>QS (y.2 p) ()]],#[_,rfl,k]]
end
section
variable{Ψ:PEv}{r:Rm}{p q:Pt}{l:Inn}{n m:Bool}{R:T->Prop}{W:LT->Prop}{E:XE}{ρ:kA}{b:PX}{M:List (T×Bool)->kA->Prop}{md:List Md}{ks:List Pt}{vs:List D}
def YI:PSp where
 run:=λx Q _=>∃(h:EC) (st:LS) (g:Str),x=[.d (.list (h.map pr)),.d (.tuple (st.map j0)),.d (.str g)]/\(h.9<=126/\st.9<=11)/\Q (dB (yA h st g)) []
theorem J1(o:Ψ.sp "add_name"=UI)(j:Ψ.sp "add_way"=SG)(i:Ψ.va "BEGIN"=jr (pr UA))(f:Ψ.va "WIDE"=jr (.int 2)):JE Ψ TN YI vO MK:=by rintro _ Q _ ⟨h,st,g,rfl,⟨Y,X⟩,q⟩;refine uA [bD (.list (h.map pr)),bD (.tuple (st.map j0)),bD (.str g),kd,kd,kd,kd] ?_;refine sw i ?_;delta K4;simp![↓vA];rw[<- rA];refine FA (λ(s:Str)=>T.d (.str s)) (λl ρ=>∃r x,RmOk r (1+4 * (11 - l.9))/\l.9<=11/\(l.flatMap (KS g)).foldl ZB r=(st.flatMap (KS g)).foldl ZB sH/\ρ=K4 h st g r x kd kd) ?_ ?_ _ _ #[sH,_,?_,X,rfl,rfl];rintro ρ ⟨r,x,ok,_,e,rfl⟩;have e:r=(st.flatMap (KS g)).foldl ZB sH:=e;delta K4;simp![↓vA];rw[<- rA];refine FA (λ(p:Str×Str)=>T.d (pr p)) (λl ρ=>∃r v u,Sz r (45+6 * (126 - l.9))/\l.9<=126/\(l.flatMap (UV g)).foldl ZB r=yA h st g/\ρ=K4 h st g r (xJ x) v u) ?_ ?_ _ _ #[r,_,_,?_,Y,by rw[e];rfl,rfl];rintro ρ ⟨r,v,u,_,_,e,rfl⟩;have e:r=yA h st g:=e;subst e;delta K4;simp![↓vA];exact q;rintro⟨a,b⟩ l ρ N k ⟨r,v,u,s,w,e,rfl⟩;rw[QM]at s w;rw[QAn,QAo]at e;refine vF.mk rfl ?_;refine lw (a:=a) (b:=b) o j f #[QS s.1 (),λp=>QS (s.2 p) ()] (k _ #[_,_,_,?_,(),e,rfl]);have z:Sz ((UV g (a,b)).foldl ZB r) (45+6 * (126 - (l.9+1))+2 * (UV g (a,b)).9):=U5 kM s;have y:=uY (g:=g) (e:=(a,b));exact#[QS z.1 (),λp=>QS (z.2 p) ()];exact#[QS ok.sz.1 (by rw[wO];omega),λp=>QS (ok.sz.2 p) (by rw[wO];omega)];rintro s l ρ N k ⟨r,x,ok,w,e,rfl⟩;rw[QM]at ok w;rw[QAn,QAo]at e;refine mw (n:=s) o j i f #[QS ok.sz.1 (),λp=>QS (ok.sz.2 p) ()] (k _ #[_,_,?_,(),e,rfl]);have z:=ok.add (ws:=KS g s) zM;have y:=xY (g:=g) (n:=s);exact#[z.pos,z.dom,z.bg,QS z.sz.1 (),λp=>QS (z.sz.2 p) ()];exact#[BE.pos,BE.dom,BE.bg,QS BE.sz.1 (),λp=>QS (BE.sz.2 p) ()]
def xX(l:Inn):D:=.dict (l.map λe=>(pr e.1,.int e.2))
def Al(r:Rm):List (D×D):=r.map λe=>(pr e.1,xX e.2)
theorem A2(h:look r p=jr l):xD (Al r)=jr true:=by
 cases r with|nil=>cases h|cons e r=>rfl
theorem K8(l:Inn):(l.map λe=>(pr e.1,j1 e.2))=[]∨xD (l.map λe=>(pr e.1,j1 e.2))=jr true:=by
 cases l with|nil=>exact .inl rfl|cons e r=>exact .inr rfl
theorem Li(h:Key r p)(k:R (.d (xX (lk r p)))):KA (.d (.dict (Al r))) n (.d (pr p)) m R:=by
 have e:=FE h;let#[i,u,y,_]:=VC (λl=>T.d (xX l)) e;have w:(Al r).map (·.1)=RC r:=by unfold Al RC;rw[Qc];rfl
 refine Mo (A2 e) (IB p) (by rw[w];exact u) ?_ k;have v:(Al r).map (·.2)=r.map λe=>xX e.2:=by unfold Al;rw[Qc];rfl
 rw[v];rw[Qa]at y ⊢;cases z:r[i]? with|none=>rw[z]at y;cases y|some x=>rw[z]at y;injection y with y;injection y with y;show jr (xX x.2)=_;rw[y]
theorem zp:xK .itm [(.d (xX l),n)] W=W (l.map λe=>.d (.tuple [pr e.1,.int e.2])):=by unfold xX;rw[yp (K8 l),Qc];rfl
theorem mI{K:TK}:Z4 (dB r) kn Ψ b E ρ K=jB Ψ b E (lockA ρ) λy m _=>K y m ρ:=rfl
theorem GZ{K:TK}:Z4 (VD l) kn Ψ b E ρ K=jB Ψ b E (lockA ρ) λy m _=>K y m ρ:=rfl
theorem JS:Ga (dB r) kn Ψ b E md ρ M=zN Ψ b E md (lockA ρ) λxs _=>M xs ρ:=rfl
theorem Ka:Ga (VD l) kn Ψ b E md ρ M=zN Ψ b E md (lockA ρ) λxs _=>M xs ρ:=rfl
def Sn(t:T)(r:Rm):Prop:=t=dB r∨t=.d (.dict (Al r))
theorem No{b:Bool}{ks:List D}{ts:LT}{n m:Bool}{k:D}{l:Nat}{t:T}(z:SD b k)(y:dA ks k=jr l)(x:ts[l]?=jr t)(h:R t):KA (.dct b ks ts) kn (.d k) m R:=.inr #[b,ks,ts,l,t,rfl,z,y,x,h]
theorem IE(h:Key r p)(k:R (VD (lk r p))):KA (dB r) kn (.d (pr p)) m R:=by let#[i,y,x,_]:=VC VD (FE h);exact No (n:=kn) (IB p) y x k
theorem oQ{v:Int}(h:look l p=jr v)(k:R (.d (.int v))):KA (VD l) kn (.d (pr p)) m R:=by let#[i,y,x,_]:=VC (λv:Int=>T.d (.int v)) h;exact No (n:=kn) (IB p) y x k
theorem fY(l:Inn):gH (l.map λe=>T.d (.int e.2))=jr (l.map λe=>.int e.2):=by rw[show(l.map λe=>T.d (.int e.2))=(l.map λe=>j1 e.2).map T.d by rw[Qc];rfl,VA]
theorem Ri:xK .itm [(VD l,kn)] W=W (l.map λe=>.d (.tuple [pr e.1,.int e.2])):=by
 refine(nU _ _).trans ?_;have e:((RC l).zip (l.map λe=>j1 e.2)).map (λp=>T.d (.tuple [p.1,p.2]))=l.map λe=>T.d (.tuple [pr e.1,.int e.2]):=by unfold RC;rw[List.zip_map',Qc];rfl
 refine o9 #[λ#[x,h,k]=>?_,λk=>#[_,fY l,by rw[e];exact k]];rw[fY]at h;cases h;rw[e]at k;exact k
theorem cb{a:PX}:TF (.idx a b)=TF a:=rfl
theorem Ln:eS [(VD l,kn)]=false:=rfl
noncomputable def Ee(ks:List Pt)(vs:List D):T:=.dct kb (ks.map pr) (vs.map T.d)
theorem SQ:pr q∈ks.map pr↔q∈ks:=by constructor;intro h;let#[x,y,e]:=QX.mp h;rw[<- TQ e];exact y;exact QBq
theorem gJ(ks:List Pt)(q:Pt):(dA (ks.map pr) (pr q)).isSome=decide (q∈ks):=by rw[Q8,nX,SQ,Qe]
theorem jj{x:D}{Q:T->Prop}(n:q∉ks)(hl:ks.9<ku)(k:Q (Ee (ks++[q]) (vs++[x]))):Pf (Ee ks vs) (.d (pr q)) (.d x) Q:=by refine#[IB q,by rw[QD];exact hl,?_];show Q (EJ kb (ks.map pr) (vs.map T.d) (pr q) (.d x));unfold EJ;rw[zB.mpr (λz=>n (SQ.mp z))];unfold Ee at k;rw[QN,QN]at k;exact k
theorem bn{L:Bool->Prop}:PB .NotIn (.d (pr q)) (Ee ks vs) L=L (!decide (q∈ks)):=by unfold Ee;rw[PN,gJ];exact o9 #[λh=>h.2,λh=>#[IB q,h]]
def sP(h:T)(ks:List Pt)(vs:List D)(ws:List Pt)(o3 o4 o5:Option Sl):kA:=[jr (.bor h),jr (.own (Ee ks vs)),jr (.own (.lst ((ws.map pr).map T.d))),o3,o4,o5]
end
section
variable{Ψ:PEv}{Z:PEnds}{x:T}{r:Rm}{ks ws:List Pt}{vs:List D}
section
variable{w:Pt}{o3 o4 o5:Option Sl}
theorem Xw{p q:Pt}{v:Int}(hl:ks.9<ku)(a:ws.length<ku)(u:(0<v->q∈ks)->Z.nx (sP x ks vs ws (bD (pr p)) (bD (pr q)) (bD (.int v))))
  (k:0<v->q∉ks->Z.nx (sP x (ks++[q]) (vs++[pr p]) (ws++[q]) (bD (pr p)) (bD (pr q)) (bD (.int v)))) :
  pF Ψ kB Z (sP x ks vs ws (bD (pr p)) (bD (pr q)) (bD (.int v))):=by
 delta sP at u k ⊢;delta kB;simp![↓bn];by_cases h:0<v;rw[dT h];by_cases y:q∈ks;rw[dT y];exact u λ_=>y;rw[dF y];simp only[WL,↓reduceIte];refine jj y hl ?_;refine#[by rw[QD,QD];exact a,?_];have:=k h y;rw[QN,QN]at this;exact this;rw[dF h];exact u λz=>o2 z h
theorem Mj{q:PT}(k:pF Ψ q Z (sP x ks vs ws (bD (pr w)) o4 o5)) :
  pF Ψ (.seq (.set 3 (.mt .pop (.var 2) %[.int 0|1])) q) Z (sP x ks vs (w::ws) o3 o4 o5):=by
 delta sP at k ⊢;simp![↓vA];refine#[0,.d (pr w),?_,rfl,rfl,k];unfold FR;rw[oa (by decide),oa (by rw[QD,QD,QM];omega)];rfl
theorem Nj(y:Sn x r)(hk:Key r w)
  (k:zI (pF Ψ kB) (.tp [4,5]) { Z with nx:=λh=>Z.nx (kill [4,5] h) } ((lk r w).map λe=>T.d (.tuple [pr e.1,.int e.2])) (sP x ks vs ws (bD (pr w)) o4 o5)) :
  pF Ψ %[.for_ (.tp [4,5]) .itm %[.idx (.var 0) (.var 3)|1] kB|2] Z (sP x ks vs ws (bD (pr w)) o4 o5):=by
 rcases y with rfl|rfl;delta sP at k ⊢;simp![↓mI];refine IE hk ?_;simp![↓Ka,↓Ri,Ln,cb];exact k;delta sP at k ⊢;simp![↓vA];refine Li hk ?_;simp![↓zp];exact k
theorem Kw(m:Sn x r)(a:Oa r)(hb:Key r UA)(Y:r.9<=1000)(h:Srch r ks vs (w::ws))(hm:2 * (r.9 - ks.9)+ws.length+1<=3000)
  (o:∀z u y o3 o4 o5,Srch r z u y->2 * (r.9 - z.9)+y.9<=2 * (r.9 - ks.9)+ws.length->Z.nx (sP x z u y o3 o4 o5)) :
  pF Ψ FD Z (sP x ks vs (w::ws) o3 o4 o5):=by
 have W:ku=16777216:=qC;refine Mj ?_;have h0:=h.pop;have hk:Key r w:=HI a hb (h.cf.rch w (h.sub w QE));refine Nj m hk ?_;refine FA (λ(e:Pt×Int)=>T.d (.tuple [pr e.1,.int e.2])) (λl k=>∃z u y o4 o5,Srch1 r w z u y l/\2 * (r.9 - z.9)+y.9<=2 * (r.9 - ks.9)+ws.length/\k=sP x z u y (bD (pr w)) o4 o5) ?_ ?_ _ _ #[ks,vs,ws,_,_,h0,QZ _,rfl];rintro k ⟨z,u,y,g,f,s,l,rfl⟩;exact o z u y _ (xJ g) (xJ f) s.fin l;rintro⟨q,v⟩ l k N i ⟨z,u,y,g,f,s,e,rfl⟩;refine vF.mk rfl ?_;have X:=s.cf.le a hb;refine Xw (p:=w) (q:=q) (v:=v) () () (λc=>i _ #[z,u,y,_,_,s.skip c,e,rfl]) λc n=>?_;have b:=s.add c n;have j:=b.cf.le a hb;rw[QI,qL]at j;exact i _ #[_,_,_,_,_,b,by rw[QI,QI,qL];omega,rfl]
theorem Uw(h:Ψ.va "BEGIN"=jr (pr UA)){q:PT}(k:pF Ψ q Z (sP x [UA] [.none] [UA] kd kd kd)) :
  pF Ψ (.seq (.own 1 (.dsp (.glo "BEGIN") .non)) (.seq (.own 2 (.lst %[.glo "BEGIN"|1])) q)) Z [jr (.bor x),kd,kd,kd,kd,kd]:=by
 have y:ku=16777216:=qC;simp![↓HH h];exact#[IB UA,(),k]
end
end
theorem pI{Ψ:PEv}{E:XE}{c:PX}{q:PT}{Z:PEnds}{ρ:kA}(W:Nat->kA->Prop)(m:Nat)(h0:W m ρ)(hs:∀m ρ,W m ρ->yN Ψ c E ρ λb x=>if b=kb then vB Ψ E q { Z with nx:=λh=>∃y,y < m/\W y h,ct:=λh=>∃y,y < m/\W y h,bk:=Z.nx } x else Z.nx x):Po Ψ E c q Z ρ:=#[W,#[m,h0],hs]
def yG:PSp where
 md:=[.bor]
 run:=λz Q _=>∃(y:T) (r:Rm),z=[y]/\(Sn y r/\Oa r/\Key r UA/\r.9<=1000)/\∀h x,CF r h x->(∀p,p∈h↔Rch r p)->Q (Ee h x) []
theorem m7{Ψ:PEv}(j:Ψ.va "BEGIN"=jr (pr UA)):JE Ψ NE yG SE ED:=by
 rintro _ Q _ ⟨k,r,rfl,⟨h0,i,hb,g⟩,q⟩;refine uA [jr (.bor k),kd,kd,kd,kd,kd] ?_;refine Uw j ?_;delta sP;simp![↓vA];refine pI (λm v=>m<=3000/\∃h x ws o3 o4 o5,Srch r h x ws/\m=2 * (r.9 - h.9)+ws.length/\v=sP k h x ws o3 o4 o5) (2 * (r.9 - 1)+1) #[(),[UA],[.none],[UA],kd,kd,kd,Np,rfl,rfl] ?_;rintro m v ⟨hm,h,x,ws,o3,o4,o5,s,e,rfl⟩;cases ws with|nil=>delta sP;simp![QD];rw[dF ()];simp![↓vA];exact q h x s.cf s.done|cons w ws=>rw[QM]at e;have a:=λ(Z:PEnds) f=>Kw (Ψ:=Ψ) (Z:=Z) (o3:=o3) (o4:=o4) (o5:=o5) h0 i hb g s () f;unfold sP at a;delta sP;simp![QD];rw[dT ()];refine a _ λu z y o3 o4 o5 b l=>#[_,(),(),u,z,y,o3,o4,o5,b,rfl,rfl]
theorem Fn{α:Type}{x:α}{r:List α}:NC (x::r) 0=jr x:=xC (j:=0) rfl
theorem xy{α:Type}{x y:α}{r:List α}:NC (x::y::r) 1=jr y:=xC (j:=1) rfl
def sm:List Pt->(Pt->Int)->Int
 |[],_=>0|x::l,f=>f x+sm l f
section
variable{f g:Pt->Int}
theorem yB:∀{l:List Pt},(∀x∈l,f x=g x)->sm l f=sm l g
 |[],_=>rfl|x::l,h=>by show f x+sm l f=g x+sm l g;rw[h x QE,yB λy z=>h y (QF _ z)]
theorem PH:∀(l:List Pt),sm l (λx=>f x+g x)=sm l f+sm l g
 |[]=>rfl|x::l=>by show f x+g x+sm l _=f x+sm l f+(g x+sm l g);rw[PH l];omega
theorem PJ:∀(l:List Pt),sm l (λx=>- f x)=- sm l f
 |[]=>rfl|x::l=>by show - f x+sm l _=- (f x+sm l f);rw[PJ l];omega
theorem AG:∀(l:List Pt),sm l (λ_=>0)=0
 |[]=>rfl|x::l=>by show 0+sm l _=0;rw[AG l];rfl
theorem dP:∀{l:List Pt},(∀x∈l,0<=f x)->0<=sm l f
 |[],_=>QCq _|x::l,h=>by have v:=h x QE;have u:=dP (l:=l) λy z=>h y (QF _ z);show 0<=f x+sm l f;omega
theorem OH:∀{l:List Pt},(∀x∈l,0<=f x)->∀{y:Pt},y∈l->f y<=sm l f
 |x::l,h,y,z=>by have v:=h x QE;have h0:∀y∈l,0<=f y:=λy z=>h y (QF _ z);show f y<=f x+sm l f;rcases QL.mp z with e|e;have u:=dP h0;rw[e];omega;have u:=OH h0 e;omega
theorem M5:∀{l:List Pt},(∀x∈l,0<=f x)->∀{y z:Pt},y∈l->z∈l->y≠z->f y+f z<=sm l f
 |x::l,h,y,z,v,hz,ne=>by
  have k:=h x QE;have h0:∀y∈l,0<=f y:=λy v=>h y (QF _ v);show f y+f z<=f x+sm l f;rcases QL.mp v with e|e;rcases QL.mp hz with u|u
  ·exact o2 (e.trans u.symm) ne
  have w:=OH h0 u;rw[e];omega;rcases QL.mp hz with u|u
  ·have w:=OH h0 e
   rw[u];omega
  have w:=M5 h0 e u ne;omega
theorem N5:∀{l:List Pt},0<sm l f->∃x∈l,0<f x
 |[],h=>o2 h (wz 0)|x::l,h=>by by_cases c:0<f x;exact#[x,QE,c];have h:0<f x+sm l f:=h;let#[y,z,p]:=N5 (l:=l) ();exact#[y,QF _ z,p]
theorem tY{k:Pt->Pt->Int}{m:List Pt}:∀(l:List Pt),sm l (λx=>sm m λy=>k x y)=sm m λy=>sm l λx=>k x y
 |[]=>(AG m).symm|x::l=>by show sm m (λy=>k x y)+sm l _=sm m λy=>k x y+sm l λx=>k x y;rw[tY l,PH]
theorem CQ{u:Pt}{k:Int}:∀{l:List Pt},u∉l->sm l (λx=>if x=u then k else 0)=0
 |[],_=>rfl|x::l,h=>by show(if x=u then k else 0)+sm l _=0;rw[ot (λ(e:x=u)=>h (e▸QE)),CQ λz=>h (QF _ z)];rfl
theorem RJ{u:Pt}{k:Int}:∀{l:List Pt},l.Nodup->u∈l->sm l (λx=>if x=u then k else 0)=k
 |x::l,nd,h=>by let#[v,y]:=Qh.mp nd;show(if x=u then k else 0)+sm l _=k;by_cases e:x=u;rw[oa e,CQ (by rw[<- e];exact v)];omega;rw[ot e,RJ y ((QL.mp h).resolve_left λz=>e z.symm)];omega
theorem kT(p:Pt->Bool):∀(l:List Pt),sm l f=sm (l.filter p) f+sm (l.filter λx=>!p x) f
 |[]=>rfl|x::l=>by
  show f x+sm l f=_;rw[wI,wI,kT p l];cases p x with|true=>show _=(f x+sm (l.filter p) f)+sm (l.filter λx=>!p x) f;omega|false=>show _=sm (l.filter p) f+(f x+sm (l.filter λx=>!p x) f);omega
theorem Mb{a:Pt->Pt->Int}(l:List Pt)(h:∀x∈l,∀y∈l,a x y=- a y x):sm l (λx=>sm l λy=>a x y)=0:=by
 have w:sm l (λx=>sm l λy=>a x y)=sm l λy=>sm l λx=>a x y:=tY l;have v:(sm l λy=>sm l λx=>a x y)=- sm l (λy=>sm l λx=>a y x):=by rw[<- PJ];refine yB λy z=>?_;rw[<- PJ];exact yB λx u=>h x u y z
 omega
end
section
variable{p q u v:Pt}{r:Rm}{w:Wy}{es:EC}{st:LS}{g:Str}
def rm(r:Rm)(p q:Pt):Int:=(look (lk r p) q).getD 0
def oI(r:Rm)(p q:Pt):Prop:=∃v,look (lk r p) q=jr v
def af(r:Rm):Prop:=∀p,((lk r p).map (·.1)).Nodup
theorem kH{α:Type}{q:Pt}{v:α}:∀{l:List (Pt×α)},look l q=jr v->(q,v)∈l
 |[],h=>by cases h|e::l,h=>by by_cases c:e.1=q;rw[show look (e::l) q=jr e.2 from oa c]at h;injection h with h;rw[<- c,<- h];exact QE;rw[show look (e::l) q=look l q from ot c]at h;exact QF _ (kH h)
theorem NR{α:Type}{q:Pt}{v:α}:∀{l:List (Pt×α)},(l.map (·.1)).Nodup->(q,v)∈l->look l q=jr v
 |e::l,nd,h=>by let#[k,y]:=Qh.mp nd;rcases QL.mp h with c|c;rw[<- c];exact oa rfl;have x:e.1≠q:=λz=>k (QX.mpr #[(q,v),c,z.symm]);rw[show look (e::l) q=look l q from ot x];exact NR y c
theorem put_keys{α:Type}{p:Pt}{w:α}:∀{l:List (Pt×α)},(put l p w).map (·.1)=if p∈l.map (·.1) then l.map (·.1) else l.map (·.1)++[p]
 |[]=>rfl|e::l=>by by_cases c:e.1=p;rw[show put (e::l) p w=(e.1,w)::l from oa c,oa (by rw[<- c];exact QE)];rfl;rw[show put (e::l) p w=e::put l p w from ot c];rw[QT,QT,put_keys];by_cases h:p∈l.map (·.1);rw[oa h,oa (QF _ h)];rw[ot h,ot (λz=>(QL.mp z).elim (λz=>c z.symm) h)];rfl
theorem IG{α:Type}{w:α}{l:List (Pt×α)}(h:(l.map (·.1)).Nodup):((put l p w).map (·.1)).Nodup:=by rw[put_keys];split;exact h;rename_i n;refine qh.mpr #[h,Qh.mpr #[λz=>(nomatch z),Q4],λa x b hb z=>?_];rw[QJ.mp hb]at z;exact n (z▸x)
theorem GV(nd:af r):ph r p q↔0<rm r p q:=by
 unfold ph rm;constructor;rintro⟨v,m,h⟩;rw[NR (nd p) m];exact h;intro h;cases e:look (lk r p) q with|none=>rw[e]at h;exact o2 h (wz 0)|some v=>rw[e]at h;exact#[v,kH e,h]
def C0(r:Rm)(u v:Pt):Rm:=put (put r u (put (lk r u) v (rm r u v - 1))) v (put (lk (put r u (put (lk r u) v (rm r u v - 1))) v) u (rm (put r u (put (lk r u) v (rm r u v - 1))) v u+1))
theorem AW(h:u≠v)(p:Pt):lk (C0 r u v) p=if v=p then put (lk r v) u (rm r v u+1) else if u=p then put (lk r u) v (rm r u v - 1) else lk r p:=by
 have e:rm (put r u (put (lk r u) v (rm r u v - 1))) v u=rm r v u:=by unfold rm;rw[mE,ot h]
 unfold C0;rw[e,mE,mE,mE,ot h]
theorem uW(h:u≠v)(p q:Pt):rm (C0 r u v) p q=rm r p q+(if p=v/\q=u then 1 else 0) - (if p=u/\q=v then 1 else 0):=by show(look (lk (C0 r u v) p) q).getD 0=_;rw[AW h];by_cases y:v=p;rw[oa y,ZD,ot (c:=p=u/\q=v) (λz=>h (z.1.symm.trans y.symm))];by_cases x:u=q;rw[oa x,oa #[y.symm,x.symm],<- y,<- x];show rm r v u+1=rm r v u+1 - 0;omega;rw[ot x,ot (λz=>x z.2.symm),y];show rm r p q=rm r p q+0 - 0;omega;rw[ot y,ot (c:=p=v/\q=u) (λz=>y z.1.symm)];by_cases x:u=p;rw[oa x,ZD];by_cases k:v=q;rw[oa k,oa #[x.symm,k.symm],<- x,<- k];show rm r u v - 1=rm r u v+0 - 1;omega;rw[ot k,ot (λz=>k z.2.symm),x];show rm r p q=rm r p q+0 - 0;omega;rw[ot x,ot (λz=>x z.1.symm)];show rm r p q=rm r p q+0 - 0;omega
theorem pB:oI r p q↔L4 r p q:=by
 unfold oI L4;constructor;rintro⟨v,h⟩;exact#[v,kH h];rintro⟨v,h⟩;generalize lk r p=l at h;induction l with
 |nil=>exact(nomatch h)
 |cons e l x =>
  by_cases c:e.1=q;exact#[e.2,oa c];rcases QL.mp h with z|z
  ·exact o2 (by rw[<- z]) c
  let#[w,y]:=x z;exact#[w,(show look (e::l) q=look l q from ot c).trans y]
theorem mf(h:u≠v)(a:oI r u v)(k:oI r v u):oI (C0 r u v) p q↔oI r p q:=by unfold oI;rw[AW h];by_cases y:v=p;rw[oa y,ZD];by_cases x:u=q;rw[oa x,<- y,<- x];exact#[λ_=>k,λ_=>#[_,rfl]];rw[ot x,y];rw[ot y];by_cases x:u=p;rw[oa x,ZD];by_cases z:v=q;rw[oa z,<- x,<- z];exact#[λ_=>a,λ_=>#[_,rfl]];rw[ot z,x];rw[ot x]
theorem Gd(h:u≠v)(nd:af r):af (C0 r u v):=by
 intro p;rw[AW h];split;exact IG (nd v);split
 ·exact IG (nd u)
 exact nd p
theorem LQ(h:¬ oI r p q):rm r p q=0:=by
 unfold rm;cases e:look (lk r p) q with|none=>rfl|some v=>exact o2 #[v,e] h
def ou(p q:Pt)(v:Int):Prop:=(∃n,p=tO n/\q=fR n/\v=1)∨(∃n,p=UA/\q=tO n/\v=2)∨(∃a b,a≠b/\p=fR a/\q=tO b/\v=2)∨(¬ D4 p q/\v=0)
def En(P:Pt->Pt->Int->Prop)(r:Rm):Prop:=∀p,∀e∈lk r p,P p e.1 e.2
theorem P3{P:Pt->Pt->Int->Prop}(a:w.1≠w.2.1)(f:P w.1 w.2.1 w.2.2)(b:P w.2.1 w.1 0)(h:En P r):En P (ZB r w):=by intro p e x;rw[vJ a]at x;by_cases k:w.2.1=p;rw[oa k]at x;rcases LI x with z|z;rw[z,<- k];exact b;exact h p e z;rw[ot k]at x;by_cases y:w.1=p;rw[oa y]at x;rcases LI x with z|z;rw[z,<- y];exact f;exact h p e z;rw[ot y]at x;exact h p e x
theorem cT(h:(r.map (·.1)).Nodup):((sdf r p).map (·.1)).Nodup:=by
 unfold sdf;cases e:look r p with|some v=>exact h|none=>show(List.map (λe:Pt×Inn=>e.1) (r++[(p,[])])).Nodup;rw[QN];refine qh.mpr #[h,Qh.mpr #[λz=>(nomatch z),Q4],λa y b hb z=>?_];have hb:b=p:=QJ.mp hb;rw[z,hb]at y;let#[x,k,f]:=QX.mp y;have:=NR h (show(p,x.2)∈r by rw[<- f];exact k);rw[e]at this;cases this
theorem M7(x:w.1≠w.2.1)(h:af r):af (ZB r w):=by
 intro p;rw[vJ x];split;exact IG (h p);split
 ·exact IG (h p)
 exact h p
theorem xB:Key r p↔p∈r.map (·.1):=by
 constructor;rintro⟨l,e⟩;exact BR e;intro h;induction r with
 |nil=>exact(nomatch h)
 |cons e r x =>
  by_cases c:e.1=p;exact#[e.2,oa c];rcases QL.mp h with z|z
  ·exact o2 z.symm c
  let#[l,hl]:=x z;exact#[l,(show look (e::r) p=look r p from ot c).trans hl]
structure Tbl0(r:Rm):Prop where
 ndk:(r.map (·.1)).Nodup
 ndi:af r
 cap:En ou r
 kind:∀p,Key r p->p=UA∨∃n,p=tO n∨p=fR n
 sym:∀p q,L4 r p q->L4 r q p/\Key r p
theorem bU(h:D4 p q):(p=UA∨∃n,p=tO n∨p=fR n)/\(q=UA∨∃n,q=tO n∨q=fR n):=by
 rcases h with⟨h,n,e⟩| ⟨n,h,e⟩| ⟨a,b,_,h,e⟩
 exact#[.inl h,.inr #[n,.inl e]];exact#[.inr #[n,.inl h],.inr #[n,.inr e]];exact#[.inr #[a,.inr h],.inr #[b,.inl e]]
theorem Ub(k:D4 w.1 w.2.1)(f:ou w.1 w.2.1 w.2.2)(t:Tbl0 r):Tbl0 (ZB r w):=by
 have y:=mG k;refine#[?_,M7 y t.ndi,P3 y f (.inr (.inr (.inr #[cF k,rfl]))) t.cap,λp h=>?_,λp q h=>?_];unfold ZB;exact IG (IG (cT (cT t.ndk)));rcases oG.mp h with z|z|z
 ·rw[z];exact(bU k).1
 rw[z];exact(bU k).2;exact t.kind p z;rw[mJ y,oG];rcases(mJ y).mp h with z|⟨x,a⟩| ⟨x,a⟩
 let#[e,b]:=t.sym p q z;exact#[.inl e,.inr (.inr b)];exact#[.inr (.inr #[a,x]),.inl x];exact#[.inr (.inl #[a,x]),.inr (.inl x)]
theorem nY:∀{ws:List Wy}{r:Rm},(∀w∈ws,D4 w.1 w.2.1/\ou w.1 w.2.1 w.2.2)->Tbl0 r->Tbl0 (ws.foldl ZB r)
 |[],_,_,t=>t|w::ws,r,h,t=>nY (ws:=ws) (λw x=>h w (QF _ x)) (Ub (h w QE).1 (h w QE).2 t)
theorem PL{p:Pt}:∀{ws:List Wy}{r:Rm},Key (ws.foldl ZB r) p↔Key r p∨∃w∈ws,p=w.1∨p=w.2.1
 |[],r=>#[.inl,λz=>z.elim id λ#[_,m,_]=>(nomatch m)]
 |w::ws,r=>by
  rw[QAL,PL (ws:=ws),oG];constructor;rintro((z|z|z)|⟨x,m,z⟩)
  ·exact .inr #[w,QE,.inl z]
  exact .inr #[w,QE,.inr z];exact .inl z;exact .inr #[x,QF _ m,z];rintro(z|⟨x,m,z⟩)
  ·exact .inl (.inr (.inr z))
  rcases QL.mp m with rfl|m
  ·rcases z with z|z
   ·exact .inl (.inl z)
   exact .inl (.inr (.inl z))
  exact .inr #[x,m,z]
def Y4(es:EC)(st:LS)(g:Str):List Wy:=st.flatMap (KS g)++es.flatMap (UV g)
theorem VE:yA es st g=(Y4 es st g).foldl ZB sH:=by unfold yA Y4;rw[QAo]
theorem oE{v:Int}:(p,q,v)∈Y4 es st g↔(∃n∈st,n≠g/\((p,q,v)=(tO n,fR n,1)∨(p,q,v)=(UA,tO n,2)))∨(∃e∈es,(e.1≠g/\e.1≠e.2)/\((p,q,v)=(tO e.1,fR e.1,1)∨(p,q,v)=(tO e.2,fR e.2,1)∨(p,q,v)=(fR e.1,tO e.2,2))):=by
 unfold Y4;rw[Qd,WT,WT];constructor;rintro(⟨n,m,h⟩| ⟨e,m,h⟩)
 ·exact .inl #[n,m,Pr.mp h]
 exact .inr #[e,m,Rr.mp h];rintro(⟨n,m,h⟩| ⟨e,m,h⟩)
 ·exact .inl #[n,m,Pr.mpr h]
 exact .inr #[e,m,Rr.mpr h]
theorem zC:∀w∈Y4 es st g,D4 w.1 w.2.1/\ou w.1 w.2.1 w.2.2:=by
 rintro⟨p,q,v⟩ h;rcases oE.mp h with⟨n,_,_,e|e⟩| ⟨e,_,⟨_,x⟩,z|z|z⟩
 cases e;exact#[.inr (.inl #[n,rfl,rfl]),.inl #[n,rfl,rfl,rfl]];cases e;exact#[.inl #[rfl,n,rfl],.inr (.inl #[n,rfl,rfl,rfl])];cases z;exact#[.inr (.inl #[_,rfl,rfl]),.inl #[_,rfl,rfl,rfl]];cases z;exact#[.inr (.inl #[_,rfl,rfl]),.inl #[_,rfl,rfl,rfl]];cases z;exact#[.inr (.inr #[_,_,x,rfl,rfl]),.inr (.inr (.inl #[_,_,x,rfl,rfl,rfl]))]
theorem kJ(p:Pt):lk sH p=[]:=by show(if UA=p then jr [] else kd).getD []=[];split<;>rfl
theorem Jp:Tbl0 sH:=by refine#[Qh.mpr #[λz=>(nomatch z),Q4],λp=>?_,λp e x=>?_,λp h=>?_,λp q h=>?_];rw[kJ];exact Q4;rw[kJ]at x;exact(nomatch x);exact .inl (QJ.mp (xB.mp h));let#[v,h]:=h;rw[kJ]at h;exact(nomatch h)
end
section
variable{es:EC}{st:LS}{g:Str}
section
variable{p q:Pt}{n:Str}
theorem oD:Tbl0 (yA es st g):=by rw[VE];exact nY zC Jp
theorem j9:∀w∈Y4 es st g,LG w:=λw h=>by unfold Y4 at h;rcases Qd.mp h with z|z;exact cH (f:=KS g) (λ_=>zM) st w z;exact cH (f:=UV g) (λ_=>kM) es w z
theorem dC:L4 (yA es st g) p q↔(∃v,(p,q,v)∈Y4 es st g)∨∃v,(q,p,v)∈Y4 es st g:=by
 rw[VE,aZ j9];constructor;rintro(⟨v,h⟩| h)
 ·rw[kJ]at h;exact(nomatch h)
 exact h;exact .inr
theorem iP(h:Key (yA es st g) (tO n)):L4 (yA es st g) (tO n) (fR n):=by
 rw[VE]at h;rcases PL.mp h with z|⟨⟨p,q,v⟩,m,z⟩
 exact o2 (QJ.mp (xB.mp z)).symm TB;refine dC.mpr (.inl #[1,oE.mpr ?_]);have z:tO n=p∨tO n=q:=z;rcases oE.mp m with⟨k,mk,x,e|e⟩| ⟨e,u,x,y|y|y⟩
 cases e;rcases z with z|z;rw[FB z];exact .inl #[k,mk,x,.inl rfl];exact o2 z SA;cases e;rcases z with z|z;exact o2 z.symm TB;rw[FB z];exact .inl #[k,mk,x,.inl rfl];cases y;rcases z with z|z;rw[FB z];exact .inr #[e,u,x,.inl rfl];exact o2 z SA;cases y;rcases z with z|z;rw[FB z];exact .inr #[e,u,x,.inr (.inl rfl)];exact o2 z SA;cases y;rcases z with z|z;exact o2 z SA;rw[FB z];exact .inr #[e,u,x,.inr (.inl rfl)]
theorem y4:ou p q (rm (yA es st g) p q)∨(¬ oI (yA es st g) p q/\rm (yA es st g) p q=0):=by by_cases h:oI (yA es st g) p q;let#[v,e]:=h;have:=oD (es:=es) (st:=st) (g:=g) |>.cap p (q,v) (kH e);unfold rm;rw[e];exact .inl this;exact .inr #[h,LQ h]
theorem Ax:0<=rm (yA es st g) p q:=by rcases y4 (es:=es) (st:=st) (g:=g) (p:=p) (q:=q) with(⟨_,_,_,e⟩| ⟨_,_,_,e⟩| ⟨_,_,_,_,_,e⟩| ⟨_,e⟩)|⟨_,e⟩<;>rw[e]<;>decide
theorem tJ(h:¬ D4 p q):rm (yA es st g) p q=0:=by
 rcases y4 (es:=es) (st:=st) (g:=g) (p:=p) (q:=q) with(⟨n,y,x,_⟩| ⟨n,y,x,_⟩| ⟨a,b,z,y,x,_⟩| ⟨_,e⟩)|⟨_,e⟩
 exact o2 (.inr (.inl #[n,y,x])) h;exact o2 (.inl #[y,n,x]) h;exact o2 (.inr (.inr #[a,b,z,y,x])) h;exact e;exact e
theorem yn(h:q≠fR n):rm (yA es st g) (tO n) q=0:=tJ λl=>by
 rcases l with⟨e,_⟩| ⟨m,y,x⟩| ⟨a,b,_,e,_⟩
 exact TB e.symm;exact h (by rw[x,FB y]);exact SA e
theorem Ss:rm (yA es st g) (tO n) (fR n)<=1:=by
 rcases y4 (es:=es) (st:=st) (g:=g) (p:=tO n) (q:=fR n) with(⟨_,_,_,e⟩| ⟨m,h,_,_⟩| ⟨a,b,x,h,y,_⟩| ⟨_,e⟩)|⟨_,e⟩
 rw[e];decide;exact o2 h.symm TB;exact o2 h SA;rw[e];decide;rw[e];decide
theorem zn(h:Key (yA es st g) (tO n)):rm (yA es st g) (tO n) (fR n)=1:=by
 have a:=pB.mpr (iP h);rcases y4 (es:=es) (st:=st) (g:=g) (p:=tO n) (q:=fR n) with(⟨_,_,_,e⟩| ⟨m,x,_,_⟩| ⟨a,b,y,x,u,_⟩| ⟨l,e⟩)|⟨z,e⟩
 exact e;exact o2 x.symm TB;exact o2 x SA;exact o2 (.inr (.inl #[n,rfl,rfl])) l;exact o2 a z
theorem Ex(h:p≠tO n):rm (yA es st g) p (fR n)=0:=tJ λl=>by
 rcases l with⟨_,m,e⟩| ⟨m,y,x⟩| ⟨a,b,_,_,e⟩
 exact SA e.symm;exact h (by rw[y,yI x]);exact SA e.symm
theorem Ix:rm (yA es st g) p UA=0:=tJ λl=>by
 rcases l with⟨_,m,e⟩| ⟨m,x,h⟩| ⟨a,b,_,_,e⟩
 exact TB e;exact ME h;exact TB e
theorem Rs(h:p≠fR n):rm (yA es st g) p (tO n)=0∨rm (yA es st g) p (tO n)=2:=by
 rcases y4 (es:=es) (st:=st) (g:=g) (p:=p) (q:=tO n) with(⟨_,_,e,_⟩| ⟨m,_,_,e⟩| ⟨a,b,_,_,_,e⟩| ⟨l,e⟩)|⟨_,e⟩
 exact o2 e SA;exact .inr e;exact .inr e;exact .inl e;exact .inl e
theorem jn{v:Int}(h:(p,tO n,v)∈Y4 es st g):rm (yA es st g) p (tO n)=2:=by
 have a:oI (yA es st g) p (tO n):=pB.mpr (dC.mpr (.inl #[v,h]));have l:D4 p (tO n):=(zC _ h).1;rcases y4 (es:=es) (st:=st) (g:=g) (p:=p) (q:=tO n) with(⟨_,_,e,_⟩| ⟨m,_,_,e⟩| ⟨a,b,_,_,_,e⟩| ⟨x,e⟩)|⟨z,e⟩
 exact o2 e SA;exact e;exact e;exact o2 l x;exact o2 a z
end
end
section
variable{es:EC}{st:LS}{g:Str}
def vs0(es:EC)(st:LS)(g:Str):List Pt:=(yA es st g).map (·.1)
def fl(es:EC)(st:LS)(g:Str)(r:Rm)(p q:Pt):Int:=rm (yA es st g) p q - rm r p q
def out(es:EC)(st:LS)(g:Str)(r:Rm)(p:Pt):Int:=sm (vs0 es st g) (fl es st g r p)
structure Base(es:EC)(st:LS)(g:Str)(r:Rm):Prop where
 ndi:af r
 adj:∀p q,oI r p q↔oI (yA es st g) p q
 keys:r.map (·.1)=vs0 es st g
 nn:∀p q,0<=rm r p q
 anti:∀p q,fl es st g r p q=- fl es st g r q p
structure Flow(es:EC)(st:LS)(g:Str)(r:Rm):Prop extends Base es st g r where
 cons:∀x,x≠UA->x≠tO g->out es st g r x=0
theorem AF:(vs0 es st g).Nodup:=oD.ndk
theorem Pg:Flow es st g (yA es st g):=by
 have e:∀p q,fl es st g (yA es st g) p q=0:=λp q=>by unfold fl;omega
 refine#[#[oD.ndi,λp q=>WJ,rfl,λp q=>Ax,λp q=>by rw[e,e];rfl],λx _ _=>?_];unfold out;rw[yB (g:=λ_=>0) λq _=>e x q];exact AG _
theorem UB{p q:Pt}(h:oI (yA es st g) p q):oI (yA es st g) q p:=pB.mpr (oD.sym p q (pB.mp h)).1
theorem oB{p q:Pt}(h:oI (yA es st g) p q):p∈vs0 es st g:=xB.mp (oD.sym p q (pB.mp h)).2
theorem iS{p q:Pt}(h:oI (yA es st g) p q):p≠q:=by
 rcases dC.mp (pB.mp h) with⟨v,m⟩| ⟨v,m⟩
 exact mG (zC _ m).1;exact(mG (zC _ m).1).symm
section
variable{r:Rm}
theorem Base.dom(b:Base es st g r):Oa r:=λp q h=>by have a:=(b.adj p q).mp (pB.mpr h);rw[xB,b.keys];exact oB (UB a)
theorem Base.bg(b:Base es st g r):Key r UA:=by rw[xB,b.keys];refine xB.mp ?_;show Key (yA es st g) UA;rw[VE];exact PL.mpr (.inl #[[],oa rfl])
theorem Base.len(b:Base es st g r):r.9=(yA es st g).length:=by have:=QP qR b.keys;unfold vs0 at this;rw[QD,QD]at this;exact this
theorem Base.adjw(b:Base es st g r){p q:Pt}(h:0<rm r p q):oI (yA es st g) p q:=(b.adj p q).mp (by
 unfold rm at h;cases e:look (lk r p) q with|none=>rw[e]at h;exact o2 h (wz 0)|some v=>exact#[v,e])
theorem YR{u:Pt}{l:Inn}(h:u∈r.map (·.1)):(put r u l).map (·.1)=r.map (·.1):=by rw[put_keys,oa h]
theorem Base.pushed(b:Base es st g r){u v:Pt}(h:0<rm r u v):Base es st g (C0 r u v):=by
 have a:=b.adjw h;have y:=iS a;have e:=uW (r:=r) y;refine#[Gd y b.ndi,λp q=>?_,?_,λp q=>?_,λp q=>?_];rw[mf y ((b.adj u v).mpr a) ((b.adj v u).mpr (UB a))];exact b.adj p q;have k:u∈r.map (·.1):=by rw[b.keys];exact oB a
 have f:v∈r.map (·.1):=by rw[b.keys];exact oB (UB a)
 unfold C0;rw[YR (by rw[YR k];exact f),YR k];exact b.keys;rw[e];have:=b.nn p q;by_cases c:p=u/\q=v;rw[oa c,c.1,c.2];split<;>omega;rw[ot c];split<;>omega;unfold fl;rw[e,e];have:=b.anti p q;unfold fl at this;by_cases x:p=v/\q=u;rw[oa x,oa (c:=q=u/\p=v) #[x.2,x.1],ot (c:=p=u/\q=v) (λz=>y (z.1.symm.trans x.1)),ot (c:=q=v/\p=u) (λz=>y (z.2.symm.trans x.1))];omega;rw[ot x,ot (c:=q=u/\p=v) (λz=>x #[z.2,z.1])];by_cases w:p=u/\q=v;rw[oa w,oa (c:=q=v/\p=u) #[w.2,w.1]];omega;rw[ot w,ot (c:=q=v/\p=u) (λz=>w #[z.2,z.1])];omega
theorem LY(b:Base es st g r){u v:Pt}(h:0<rm r u v)(x:Pt):out es st g (C0 r u v) x=out es st g r x+(if x=u then 1 else 0) - (if x=v then 1 else 0):=by
 have a:=b.adjw h;have f:=iS a;unfold out;have e:∀q,fl es st g (C0 r u v) x q=fl es st g r x q+((if q=v then(if x=u then 1 else 0) else 0)+-(if q=u then(if x=v then 1 else 0) else 0)):=λq=>by unfold fl;rw[uW f];by_cases k:x=u;have w:x≠v:=λz=>f (k.symm.trans z);rw[ot (c:=x=v/\q=u) (λz=>w z.1),oa k,ot w];by_cases y:q=v;rw[oa (c:=x=u/\q=v) #[k,y],oa y];split<;>omega;rw[ot (c:=x=u/\q=v) (λz=>y z.2),ot y];split<;>omega;rw[ot (c:=x=u/\q=v) (λz=>k z.1),ot k];by_cases w:x=v;rw[oa w];by_cases y:q=u;rw[oa (c:=x=v/\q=u) #[w,y],oa y];split<;>omega;rw[ot (c:=x=v/\q=u) (λz=>y z.2),ot y];split<;>omega;rw[ot (c:=x=v/\q=u) (λz=>w z.1),ot w];split<;>split<;>omega
 rw[yB λq _=>e q,PH,PH,PJ,RJ AF (oB (UB a)),RJ AF (oB a)];omega
end
section
variable{r y:Rm}{ks:List Pt}
theorem CF.find{vs:List D}(h:CF r ks vs){q:Pt}(m:q∈ks)(b:q≠UA):∃z u p k v,CF r z u/\p∈z/\ph r p q/\q∉z/\ks=z++q::k/\vs=u++pr p::v:=by
 induction h with|bg=>exact o2 (QJ.mp m) b|@add ks vs p x c i w n f=>by_cases e:q∈ks;let#[z,u,a,k,v,Z,Y,X,s,o,l]:=f e;exact#[z,u,a,k++[x],v++[pr p],Z,Y,X,s,by rw[o,Qz];rfl,by rw[l,Qz];rfl];have j:q=x:=QJ.mp ((Qd.mp m).resolve_left e);subst j;exact#[ks,vs,p,[],[],c,i,w,n,rfl,rfl]
structure LC(es:EC)(st:LS)(g:Str)(y r:Rm)(here:Pt)(ks:List Pt):Prop extends Base es st g r where
 cons:∀x,x≠UA->x≠tO g->out es st g r x=if x=here then 1 else 0
 val:out es st g r UA=out es st g y UA+if here=UA then 1 else 0
 fresh:∀p,∀q∈ks,rm y p q<=rm r p q
theorem m8(f:Flow es st g y)(ks:List Pt):LC es st g y y (tO g) ks:=by refine#[f.toBase,λx u h=>?_,?_,λp q _=>QCq _];rw[ot h];exact f.cons x u h;rw[ot (λz=>TB z.symm)];omega
theorem ze{h p:Pt}{u:List Pt}(nd:af y)(l:LC es st g y r h ks)(e:h∈ks)(hb:h≠UA)(w:ph y p h)(b:h∉u)(hs:∀q∈u,q∈ks):0<rm r p h/\LC es st g y (C0 r p h) p u:=by have h0:0<rm r p h:=Int.lt_of_lt_of_le ((GV nd).mp w) (l.fresh p h e);have a:=iS (l.adjw h0);refine#[h0,l.toBase.pushed h0,λx k f=>?_,?_,λx q v=>?_];rw[LY l.toBase h0,l.cons x k f];split<;>split<;>omega;rw[LY l.toBase h0,l.val,ot hb,ot (c:=UA=h) (λz=>hb z.symm)];by_cases c:p=UA;rw[oa c,oa c.symm];omega;rw[ot c,ot (λz=>c z.symm)];omega;have k:=l.fresh x q (hs q v);rw[uW a,ot (c:=x=p/\q=h) (λz=>b (z.2▸v))];split<;>omega
theorem Ol(l:LC es st g y r UA ks):Flow es st g r/\out es st g r UA=out es st g y UA+1:=by refine#[#[l.toBase,λx h z=>?_],?_];rw[l.cons x h z,ot h];rw[l.val,oa rfl]
end
end
section
variable{es:EC}{st:LS}{g:Str}{r:Rm}
section
variable{p q y:Pt}{n a:Str}{ks:List Pt}
theorem RL(b:Base es st g r)(h:rm (yA es st g) q p=0):fl es st g r p q=rm r q p:=by have:=b.anti p q;unfold fl at this ⊢;omega
def TV(r:Rm)(n:Str):Int:=rm r (fR n) (tO n)
theorem SV(b:Base es st g r)(n:Str):fl es st g r (tO n) (fR n)=TV r n:=RL b (tJ λl=>cF (.inr (.inl #[n,rfl,rfl])) l)
theorem oM(b:Base es st g r)(n:Str):TV r n<=1:=by rw[<- SV b];have x:=Ss (es:=es) (st:=st) (g:=g) (n:=n);have h:=b.nn (tO n) (fR n);unfold fl;omega
theorem v6(b:Base es st g r)(h:p∉vs0 es st g∨q∉vs0 es st g):rm r p q=0:=by refine LQ λa=>?_;have a:=(b.adj p q).mp a;rcases h with h|h;exact h (oB a);exact h (oB (UB a))
theorem Rf(l:List Pt)(nd:l.Nodup)(u:Pt)(k:Int)(h:u∉l->k=0):sm l (λx=>if x=u then k else 0)=k:=by by_cases m:u∈l;exact RJ nd m;rw[CQ m,h m]
def inn(r:Rm)(n:Str)(y:Pt):Int:=if y=fR n then 0 else rm r (tO n) y
theorem MR(f:Flow es st g r)(h:n≠g):sm (vs0 es st g) (inn r n)=TV r n:=by
 have c:=f.cons (tO n) (λz=>TB z.symm) (λz=>h (FB z));unfold out at c;have e:∀y,fl es st g r (tO n) y=(if y=fR n then TV r n else 0)+- inn r n y:=λy=>by unfold inn;by_cases e:y=fR n;rw[oa e,oa e,e,SV f.toBase];omega;rw[ot e,ot e];unfold fl;rw[yn e];omega
 rw[yB λy _=>e y,PH,PJ,Rf _ AF (fR n) (TV r n) (λz=>v6 f.toBase (.inl z))]at c;omega
theorem LR(b:Base es st g r)(n:Str)(y:Pt):0<=inn r n y:=by unfold inn;split;decide;exact b.nn _ _
def Dc(r:Rm)(n:Str)(y:Pt):Int:=if y=tO n then 0 else rm r y (fR n)
theorem HY(f:Flow es st g r)(n:Str):sm (vs0 es st g) (Dc r n)=TV r n:=by
 have c:=f.cons (fR n) (λz=>ME z.symm) (λz=>SA z.symm);unfold out at c;have e:∀y,fl es st g r (fR n) y=- (if y=tO n then TV r n else 0)+Dc r n y:=λy=>by unfold Dc;by_cases e:y=tO n;rw[oa e,oa e,e];have:=f.anti (fR n) (tO n);rw[SV f.toBase]at this;omega;rw[ot e,ot e,RL f.toBase (Ex e)];omega
 rw[yB λy _=>e y,PH,PJ,Rf _ AF (tO n) (TV r n) (λz=>v6 f.toBase (.inr z))]at c;omega
theorem gk(b:Base es st g r)(n:Str)(y:Pt):0<=Dc r n y:=by unfold Dc;split;decide;exact b.nn _ _
def CV(r:Rm)(n:Str):Prop:=0<rm r (tO n) UA
def Na(r:Rm)(a b:Str):Prop:=a≠b/\0<rm r (tO b) (fR a)
theorem uK(b:Base es st g r)(h:CV r n):n∈st/\n≠g:=by
 rcases dC.mp (pB.mp (b.adjw h)) with⟨v,m⟩| ⟨v,m⟩
 exact o2 (zC _ m).1 λl=>by
  rcases l with⟨e,_⟩| ⟨_,_,e⟩| ⟨_,_,_,e,_⟩
  exact TB e.symm;exact ME e;exact SA e
 rcases oE.mp m with⟨k,mk,x,e|e⟩| ⟨e,_,_,y|y|y⟩
 ·exact o2 (QP qp e) TB
 have:=QP (λw:Wy=>w.2.1) e;rw[FB this];exact#[mk,x];exact o2 (QP qp y) TB;exact o2 (QP qp y) TB;exact o2 (QP qp y) ME
theorem Jl(b:Base es st g r){c:Str}(h:Na r a c):(a,c)∈es/\a≠g:=by
 rcases dC.mp (pB.mp (b.adjw h.2)) with⟨v,m⟩| ⟨v,m⟩
 exact o2 (zC _ m).1 λl=>by
  rcases l with⟨e,_⟩| ⟨k,z,x⟩| ⟨_,_,_,e,_⟩
  exact TB e.symm;exact h.1 ((yI x).trans (FB z).symm);exact SA e
 rcases oE.mp m with⟨k,mk,u,e|e⟩| ⟨e,f,u,y|y|y⟩
 ·exact o2 (QP qp e).symm SA
 exact o2 (QP qp e).symm ME;exact o2 (QP qp y).symm SA;exact o2 (QP qp y).symm SA;have z:a=e.1:=yI (QP qp y);have x:c=e.2:=FB (QP (λw:Wy=>w.2.1) y);rw[z,x];exact#[f,u.1]
theorem cX:inn r n UA=rm r (tO n) UA:=by unfold inn;exact ot ME
theorem uR(h:a≠n):inn r n (fR a)=rm r (tO n) (fR a):=by unfold inn;exact ot λz=>h (yI z)
theorem Vd(h:a≠n):Dc r a (tO n)=rm r (tO n) (fR a):=by unfold Dc;exact ot λz=>h (FB z).symm
theorem EI(b:Base es st g r)(h:0<rm r p q):p∈vs0 es st g/\q∈vs0 es st g:=#[oB (b.adjw h),oB (UB (b.adjw h))]
theorem mZ(f:Flow es st g r)(n:Str)(h:n≠g):rm r (tO n) UA<=1:=by by_cases c:0<rm r (tO n) UA;have z:=OH (λx _=>LR f.toBase n x) (EI f.toBase c).2;rw[MR f h,cX]at z;exact W0 z (oM f.toBase n);omega
theorem Xe(f:Flow es st g r)(h:CV r n):TV r n=1:=by have ng:=(uK f.toBase h).2;have z:=OH (λx _=>LR f.toBase n x) (EI f.toBase h).2;rw[MR f ng,cX]at z;have:=oM f.toBase n;unfold CV at h;omega
theorem Kd(f:Flow es st g r)(h:Na r a n)(ng:n≠g):TV r n=1:=by have z:=OH (λx _=>LR f.toBase n x) (EI f.toBase h.2).2;rw[MR f ng,uR h.1]at z;have:=oM f.toBase n;have:=h.2;omega
theorem t5(f:Flow es st g r)(ng:n≠g){x:Pt}(u:0<inn r n x)(h:0<inn r n y):x=y:=by
 have w:x∈vs0 es st g:=by unfold inn at u;split at u;exact o2 u (wz 0);exact(EI f.toBase u).2
 have v:y∈vs0 es st g:=by unfold inn at h;split at h;exact o2 h (wz 0);exact(EI f.toBase h).2
 by_cases e:x=y;exact e;have k:=M5 (λz _=>LR f.toBase n z) w v e;rw[MR f ng]at k;have:=oM f.toBase n;omega
theorem PY(f:Flow es st g r){b:Str}(ng:n≠g)(x:Na r a n)(h:Na r b n):a=b :=
 yI (t5 f ng (by rw[uR x.1];exact x.2) (by rw[uR h.1];exact h.2))
theorem IR(f:Flow es st g r)(x:CV r n)(h:Na r a n):False :=
 ME (t5 f (uK f.toBase x).2 (by rw[cX];exact x) (by rw[uR h.1];exact h.2))
theorem K7(f:Flow es st g r)(h:TV r n=1):∃y,y≠tO n/\0<rm r y (fR n):=by let#[y,_,x]:=N5 (f:=Dc r n) (l:=vs0 es st g) (by rw[HY f,h];decide);unfold Dc at x;split at x;exact o2 x (wz 0);rename_i ne;exact#[y,ne,x]
theorem Jg(b:Base es st g r)(h:oI r y (fR n)):∃m,y=tO m:=by
 rcases dC.mp (pB.mp ((b.adj _ _).mp h)) with⟨v,m⟩| ⟨v,m⟩
 rcases(zC _ m).1 with⟨_,k,e⟩| ⟨k,e,_⟩| ⟨_,k,_,_,e⟩
 ·exact o2 e.symm SA
 exact#[k,e];exact o2 e.symm SA;rcases(zC _ m).1 with⟨e,_⟩| ⟨k,e,_⟩| ⟨_,k,_,_,e⟩
 ·exact o2 e.symm ME
 exact o2 e.symm SA;exact#[k,e]
theorem O7(b:Base es st g r)(h:oI r y UA):∃m,y=tO m:=by
 rcases dC.mp (pB.mp ((b.adj _ _).mp h)) with⟨v,m⟩| ⟨v,m⟩
 rcases(zC _ m).1 with⟨_,k,e⟩| ⟨k,_,e⟩| ⟨_,k,_,_,e⟩
 ·exact o2 e TB
 exact o2 e ME;exact o2 e TB;rcases(zC _ m).1 with⟨_,k,e⟩| ⟨k,e,_⟩| ⟨_,k,_,e,_⟩
 ·exact#[k,e]
 exact o2 e TB;exact o2 e ME
theorem ul(f:Flow es st g r)(h:TV r n=1):∃m,Na r n m:=by let#[y,z,x]:=K7 f h;let#[m,rfl]:=Jg f.toBase ((f.adj _ _).mpr (f.toBase.adjw x));exact#[m,λe=>z (by rw[e]),x]
theorem kP(f:Flow es st g r){v:Int}(m:(p,tO n,v)∈Y4 es st g):0<rm r p (tO n):=by
 have c:=jn m;have l:=(zC _ m).1;have h:fl es st g r p (tO n)=rm r (tO n) p:=RL f.toBase (tJ (cF l));unfold fl at h;rw[c]at h;have key:rm r (tO n) p<=1:=by
  rcases oE.mp m with⟨k,mk,z,e|e⟩| ⟨e,o,z,y|y|y⟩
  exact o2 (QP (λw:Wy=>w.2.1) e) SA;have b:p=UA:=QP qp e;have u:n=k:=FB (QP (λw:Wy=>w.2.1) e);rw[b];exact mZ f n (by rw[u];exact z);exact o2 (QP (λw:Wy=>w.2.1) y) SA;exact o2 (QP (λw:Wy=>w.2.1) y) SA;have b:p=fR e.1:=QP qp y;have u:n=e.2:=FB (QP (λw:Wy=>w.2.1) y);rw[b];by_cases c:0<rm r (tO n) (fR e.1);have j:e.1≠n:=by rw[u];exact z.2
  have i:=OH (λx _=>gk f.toBase e.1 x) (EI f.toBase c).1;rw[HY f,Vd j]at i;exact W0 i (oM f.toBase _);omega
 omega
theorem gT{l m:List Pt}(v:l.Nodup)(u:m.Nodup)(h:∀x,x∈l↔x∈m):l.9=m.length:=by have a:=zH v λx z=>(h x).mp z;have b:=zH u λx z=>(h x).mpr z;omega
noncomputable def oH(ks:List Pt)(x:Pt):Bool:=decide (x.2="to")&&!decide (fR x.1∈ks)
theorem xE{x:Pt}:oH ks x=kb↔∃n,x=tO n/\fR n∉ks:=by unfold oH;rw[QW,Q7,Qe,decide_eq_false_iff_not];constructor;rintro⟨u,z⟩;exact#[x.1,QCh rfl u,z];rintro⟨n,rfl,h⟩;exact#[rfl,h]
theorem DQ(p:Pt->Bool):∀(l:List Pt),sm l (λx=>if p x=kb then 1 else 0)=(l.filter p).9
 |[]=>rfl|x::l=>by show(if p x=kb then 1 else 0)+sm l _=_;rw[DQ p l,wI];by_cases c:p x=kb;rw[oa c,oa c,QM];omega;rw[ot c,ot c];omega
theorem CU(f:Flow es st g r)(nd:ks.Nodup)(hk:∀p,p∈ks↔Rch r p)(M:tO g∉ks):out es st g r UA=(ks.filter (oH ks)).length:=by
 have sub:∀p∈ks,p∈vs0 es st g:=λp L=>by have:=xB.mp (HI f.toBase.dom f.toBase.bg ((hk p).mp L));rw[f.keys]at this;exact this
 have o:∀x∈ks,∀y,y∉ks->rm r x y=0:=λx w y u=>by have:=f.nn x y;by_cases c:0<rm r x y;exact o2 ((hk y).mpr (.go ((hk x).mp w) ((GV f.ndi).mpr c))) u;omega
 have I:sm ((vs0 es st g).filter λx=>decide (x∈ks)) (λx=>out es st g r x)=out es st g r UA:=by
  have hb:UA∈ks:=(hk UA).mpr .bg;have e:∀x∈(vs0 es st g).filter (λx=>decide (x∈ks)),out es st g r x=if x=UA then out es st g r UA else 0:=λx w=>by by_cases c:x=UA;rw[oa c,c];rw[ot c];exact f.cons x c λz=>M (z▸QB (Qb.mp w).2)
  rw[yB e];exact RJ (AF.sublist qA) (Qb.mpr #[sub _ hb,dT hb])
 have G:∀x∈(vs0 es st g).filter (λx=>decide (x∈ks)),sm ((vs0 es st g).filter λy=>!decide (y∈ks)) (fl es st g r x)=if oH ks x=kb then 1 else 0:=λx w=>by
  have W:x∈ks:=QB (Qb.mp w).2;have Z:=(Qb.mp w).1;have k:∀y∈(vs0 es st g).filter (λy=>!decide (y∈ks)),y∉ks/\fl es st g r x y=rm (yA es st g) x y:=λy u=>by have:=(Qb.mp u).2;rw[Q7,decide_eq_false_iff_not]at this;refine#[this,?_];unfold fl;rw[o x W y this];omega
  have B:∀y∈(vs0 es st g).filter (λy=>!decide (y∈ks)),∀n,y=tO n->fl es st g r x y=0:=λy u n e=>by
   let#[C,O]:=k y u;rw[O,e];by_cases A:x=fR n;rw[A];exact tJ λl=>cF (.inr (.inl #[n,rfl,rfl])) l;rcases Rs (es:=es) (st:=st) (g:=g) A with z|z
   ·exact z
   have a:oI (yA es st g) x (tO n):=by refine wa λJ=>?_;rw[LQ J]at z;exact o2 z (by decide)
   rcases dC.mp (pB.mp a) with⟨v,m⟩| ⟨v,m⟩
   have:=kP f m;rw[o x W (tO n) (e▸C)]at this;exact o2 this (wz 0);rw[tJ (cF (zC _ m).1)]
  rcases oD.kind x (xB.mpr Z) with e|⟨n,e|e⟩
  have i:¬ oH ks x=true:=λz=>by let#[n,j,_]:=xE.mp z;exact TB (e.symm.trans j)
  rw[ot i];rw[yB (g:=λ_=>0),AG];intro y u;by_cases t:∃n,y=tO n;let#[n,t]:=t;exact B y u n t;rw[(k y u).2,e];exact tJ λl=>by
   rcases l with⟨_,z⟩| ⟨n,z,_⟩| ⟨_,b,_,_,z⟩
   exact t z;exact TB z;exact t #[b,z]
  by_cases X:fR n∈ks
  ·have i:¬ oH ks x=true:=λz=>by
    let#[m,j,h]:=xE.mp z;rw[<- FB (e.symm.trans j)]at h;exact h X
   rw[ot i,yB (g:=λ_=>0),AG];intro y u;rw[(k y u).2,e];exact yn λz=>(k y u).1 (z▸X)
  rw[oa (xE.mpr #[n,e,X])];have K:Key (yA es st g) (tO n):=by rw[<- e];exact xB.mpr Z
  have N:fR n∈vs0 es st g:=oB (UB (pB.mpr (iP K)));rw[yB (g:=λy=>if y=fR n then 1 else 0)];exact RJ (AF.sublist qA) (Qb.mpr #[N,by rw[dF X];rfl]);intro y u;rw[(k y u).2,e];by_cases c:y=fR n;rw[oa c,c,zn K];rw[ot c,yn c];have i:¬ oH ks x=true:=λz=>by let#[m,j,_]:=xE.mp z;exact SA (j.symm.trans e)
  rw[ot i,yB (g:=λ_=>0),AG];intro y u;by_cases t:∃n,y=tO n;let#[n,t]:=t;exact B y u n t;rw[(k y u).2,e];exact tJ λl=>by
   rcases l with⟨z,_⟩| ⟨n,z,_⟩| ⟨_,b,_,_,z⟩
   exact ME z.symm;exact SA z.symm;exact t #[b,z]
 have F:∀x,out es st g r x=sm ((vs0 es st g).filter λy=>decide (y∈ks)) (fl es st g r x)+sm ((vs0 es st g).filter λy=>!decide (y∈ks)) (fl es st g r x):=λx=>kT _ _;have E:sm ((vs0 es st g).filter λx=>decide (x∈ks)) (λx=>out es st g r x)=sm ((vs0 es st g).filter λx=>decide (x∈ks)) (λx=>if oH ks x=kb then 1 else 0):=by rw[yB λx _=>F x,PH,Mb _ λx _ y _=>f.anti x y,yB G];omega
 rw[<- I,E,DQ];have:(((vs0 es st g).filter λx=>decide (x∈ks)).filter (oH ks)).9=(ks.filter (oH ks)).length:=by refine gT ((AF.sublist qA).sublist qA) (nd.sublist qA) λx=>?_;rw[Qb,Qb,Qb,Qe];exact#[λ#[#[_,s],Y]=>#[s,Y],λ#[s,Y]=>#[#[sub x s,s],Y]]
 rw[this]
theorem Ue(f:Flow es st g r):out es st g r UA=(((lk r UA).map (·.1)).filter λy=>decide (0<rm r y UA)).length:=by
 have e:∀y∈vs0 es st g,fl es st g r UA y=if decide (0<rm r y UA)=kb then 1 else 0:=λy x=>by rw[RL f.toBase Ix];have h0:=f.nn y UA;by_cases c:0<rm r y UA;rw[dT c,oa rfl];let#[n,e]:=O7 f.toBase ((f.adj _ _).mpr (f.toBase.adjw c));rw[e]at c ⊢;have:=mZ f n (uK f.toBase c).2;omega;rw[dF c,ot (by decide)];omega
 unfold out;rw[yB e,DQ];have:((vs0 es st g).filter λy=>decide (0<rm r y UA)).9=(((lk r UA).map (·.1)).filter λy=>decide (0<rm r y UA)).length:=by refine gT (AF.sublist qA) ((f.ndi UA).sublist qA) λy=>?_;rw[Qb,Qb,Qe];refine#[λ#[_,h]=>#[?_,h],λ#[_,h]=>#[(EI f.toBase h).1,h]];let#[v,hv]:=(f.adj UA y).mpr (UB (f.toBase.adjw h));exact QX.mpr #[(y,v),kH hv,rfl]
 rw[this]
theorem Le(f:Flow es st g r)(hk:∀p,p∈ks↔Rch r p)(o:tO g∉ks){cut:LS}(hc:∀n,tO n∈ks->fR n∉ks->n∈cut):¬ ∃a,(a,g)∈es/\Led es st g cut a:=by
 have u:∀p∈ks,∀n v,(p,tO n,v)∈Y4 es st g->tO n∈ks:=λp j n v m=>(hk _).mpr (.go ((hk _).mp j) ((GV f.ndi).mpr (kP f m)));have key:∀n,Led es st g cut n->fR n∈ks:=λn h=>by
  induction h with|@st s h k=>let#[w,x]:=GE.mp k;have t:=u UA ((hk _).mpr .bg) s 2 (oE.mpr (.inl #[s,h,w,.inr rfl]));exact wa λz=>x (hc s t z)|@ed a b l m k i=>let#[w,x]:=GE.mp k;by_cases e:a=b;rw[<- e];exact i;have t:=u (fR a) i b 2 (oE.mpr (.inr #[(a,b),m,#[(tN l).1,e],.inr (.inr rfl)]));exact wa λz=>x (hc b t z)
 rintro⟨a,m,l⟩;exact o (u (fR a) (key a l) g 2 (oE.mpr (.inr #[(a,g),m,#[(tN l).1,(tN l).1],.inr (.inr rfl)])))
end
end
inductive Run(r:Rm)(g f:Str):LS->Str->Prop
 |nil:Run r g f [] f
 |go {c:LS}{n m:Str}:Run r g f c n->n≠g->Na r n m->Run r g f (c++[n]) m
inductive Chn(es:EC)(st:LS)(g:Str):LS->Str->Prop
 |st {f:Str}:f∈st->f≠g->Chn es st g [] f
 |go {c:LS}{n m:Str}:Chn es st g c n->n≠g->(n,m)∈es->Chn es st g (c++[n]) m
section
variable{es:EC}{st:LS}{g:Str}{r:Rm}
section
variable{s n:Str}{c:LS}
theorem Run.chn(f:Flow es st g r)(hs:CV r s)(h:Run r g s c n):Chn es st g c n:=by
 induction h with|nil=>exact .st (uK f.toBase hs).1 (uK f.toBase hs).2|go _ ng x y=>exact .go y ng (Jl f.toBase x).1
theorem Run.thr1(f:Flow es st g r)(hs:CV r s)(h:Run r g s c n)(ng:n≠g):TV r n=1:=by
 cases h with|nil=>exact Xe f hs|go _ _ x=>exact Kd f x ng
theorem Run.pred(h:Run r g s c n):∀x,x∈c∨x=n->x=s∨∃y∈c,Na r y x:=by
 induction h with
 |nil=>intro x u;exact u.elim (λz=>(nomatch z)) .inl
 |@go c n m _ _ v w =>
  intro x u;rcases u with u|rfl;have:x∈c∨x=n:=(Qd.mp u).imp_right QJ.mp;rcases w x this with z|⟨y,k,z⟩
  exact .inl z;exact .inr #[y,Qn _ k,z];exact .inr #[n,QU _ QE,v]
theorem Run.ng(h:Run r g s c n):∀x∈c,x≠g:=by
 induction h with
 |nil=>exact λx y=>(nomatch y)
 |go _ k _ u=>intro x y;rcases Qd.mp y with z|z;exact u x z;rw[QJ.mp z];exact k
theorem Run.nd(f:Flow es st g r)(hs:CV r s)(h:Run r g s c n):c.Nodup/\n∉c:=by
 induction h with
 |nil=>exact#[Q4,λz=>(nomatch z)]
 |@go c n m h k x u =>
  have nd:(c++[n]).Nodup:=qh.mpr #[u.1,Qh.mpr #[λz=>(nomatch z),Q4],λa w b hb z=>by rw[QJ.mp hb]at z;exact u.2 (z▸w)];refine#[nd,λz=>?_];rcases Qd.mp z with z|z;rcases h.pred m (.inl z) with e|⟨y,v,e⟩
  ·rw[e]at x;exact IR f hs x
  rw[PY f (h.ng m z) e x]at v;exact u.2 v;exact x.1 (QJ.mp z).symm
theorem Run.apart(f:Flow es st g r){s':Str}(hs:CV r s)(b:CV r s'){l:LS}{p:Str}(h:Run r g s c n)(h':Run r g s' l p):∀x∈c,x∈l->s=s':=by
 induction h with
 |nil=>exact λx a=>(nomatch a)
 |@go c n m h k q i =>
  intro x a v;rcases Qd.mp a with z|z;exact i x z v;have z:=QJ.mp z;subst z;rcases h.pred x (.inr rfl) with e|⟨y,j,e⟩<;>rcases h'.pred x (.inl v) with u|⟨o,w,u⟩
  exact e.symm.trans u;rw[e]at u;exact(IR f hs u).elim;rw[u]at e;exact(IR f b e).elim;rw[PY f k e u]at j;exact i o j w
end
end
section
variable{es:EC}{st:LS}{g:Str}
theorem Pe{cut:LS}{c:LS}{n:Str}(h:Chn es st g c n)(hc:∀x∈c,x∉cut)(ng:n≠g)(y:n∉cut):Led es st g cut n:=by
 induction h with|st h _=>exact .st h (GE.mpr #[ng,y])|@go c n m _ k e z=>exact .ed (z (λx u=>hc x (Qn _ u)) k (hc n (QU _ QE))) e (GE.mpr #[ng,y])
theorem X9{cut:LS}{c:LS}(h:Chn es st g c g)(hl:¬ ∃a,(a,g)∈es/\Led es st g cut a):∃x∈c,x∈cut:=by
 refine wa λz=>?_;have hc:∀x∈c,x∉cut:=λx y m=>z #[x,y,m];cases h with|st _ e=>exact e rfl|@go c n _ h k e=>exact hl #[n,e,Pe h (λx y=>hc x (Qn _ y)) k (hc n (QU _ QE))]
def GJ:List (LS)->Prop
 |[]=>True|c::cs=>(∀d∈cs,∀x∈c,x∉d)/\GJ cs
theorem kg{cut:LS}:∀{cs:List (LS)},GJ cs->(∀c∈cs,∃x∈c,x∈cut)->∃u:LS,u.9=cs.9/\u.Nodup/\(∀p∈u,p∈cut)/\∀p∈u,∃c∈cs,p∈c
 |[],_,_=>#[[],rfl,Q4,λ_ z=>(nomatch z),λ_ z=>(nomatch z)]
 |c::cs,a,h=>by
  let#[u,f,e,b,k]:=kg (cs:=cs) a.2 λd v=>h d (QF _ v);let#[x,w,hc]:=h c QE;refine#[x::u,by rw[QM,QM,f],Qh.mpr #[λz=>?_,e],λp y=>?_,λp y=>?_];let#[d,v,y]:=k x z;exact a.1 d v x w y;rcases QL.mp y with z|z
  ·rw[z];exact hc
  exact b p z;rcases QL.mp y with z|z
  ·exact#[c,QE,by rw[z];exact w]
  let#[d,v,y]:=k p z;exact#[d,QF _ v,y]
theorem T3{cut:LS}{cs:List (LS)}(a:GJ cs)(h:∀c∈cs,Chn es st g c g)(hl:¬ ∃a,(a,g)∈es/\Led es st g cut a):cs.9<=cut.length:=by let#[u,z,y,x,_]:=kg a λc hc=>X9 (h c hc) hl;rw[<- z];exact nR y x
end
section
variable{ks:List Pt}{vs:List D}{p:Pt}
noncomputable def AC(ks:List Pt)(vs:List D):List (D×D):=(ks.map pr).zip vs
theorem Im(ks:List Pt)(vs:List D):(Ee ks vs).er=.dict (AC ks vs):=by show PyData.dict ((ks.map pr).zip (ersT (vs.map T.d)))=_;rw[gB];rfl
theorem TL(h:vs.9=ks.9):(AC ks vs).map (·.1)=ks.map pr:=W7 (by rw[QD];omega)
theorem Ae(h:vs.9=ks.9):(AC ks vs).map (·.2)=vs:=WQ (by rw[QD];omega)
theorem pJ(h:vs.9=ks.9)(m:p∈ks):xD (AC ks vs)=jr true:=by
 cases ks with
 |nil=>exact(nomatch m)
 |cons x ks=>cases vs with|nil=>cases h|cons y vs=>rfl
theorem XU{q:Pt}{u:List Pt}:∀{y:List Pt},q∉y->dA ((y++q::u).map pr) (pr q)=jr y.9
 |[],_=>Rg rfl|x::y,h=>by show dA (pr x::(y++q::u).map pr) (pr q)=_;rw[u9 (λz=>h (by rw[TQ z];exact QE)),XU λz=>h (QF _ z)];rfl
theorem Oo{h z:List Pt}{y x:List D}{q:Pt}{n m:Bool}{R:T->Prop}(u:y.9=h.9)(w:x.9=z.9)(v:q∉h)(k:R (.d (pr p))):KA (.d (.dict (AC (h++q::z) (y++pr p::x)))) n (.d (pr q)) m R:=by
 have hl:(y++pr p::x).9=(h++q::z).length:=by rw[QI,QI,QM,QM,u,w]
 refine Mo (pJ hl (p:=q) (QU _ QE)) (IB q) (by rw[TL hl];exact XU v) ?_ k;rw[Ae hl,<- u,Qy (QZ _),QBQ];rfl
theorem zS(a b:Pt):Qp (pr a) (pr b)=decide (a=b):=by
 rw[Q8,Qe];have e:Qp (pr a) (pr b)=(Qp (.str a.1) (.str b.1)&&(Qp (.str a.2) (.str b.2)&&kb)):=by simp[pr,Qp,PyData.eqvAll]
 rw[e,gK,gK,QAt,QW,Qe,Qe];exact#[λh=>QCh h.1 h.2,λh=>by rw[h];exact#[rfl,rfl]]
def BK(es:EC)(st:LS):Prop:=(∀s∈st,qi s=kb)/\∀e∈es,qi e.1=kb/\qi e.2=kb
theorem zD{a b:Str}(x:qi a=kb)(h:qi b=kb):AE (pr (a,b)):=by refine#[?_,?_];simp only[pr,QAc,q0,x,h,Bool.and_self];simp only[pr,QBL,wk];decide
theorem zT:qi "to"=true:=by decide +kernel
theorem sY:qi "from"=true:=by decide +kernel
theorem cP:qi ""=kb/\qi "begin"=true:=by decide +kernel
theorem V8{es:EC}{st:LS}{g:Str}(h:BK es st)(k:p∈vs0 es st g):AE (pr p):=by
 have k:Key (yA es st g) p:=xB.mpr k;rw[VE]at k;rcases PL.mp k with z|⟨⟨u,v,c⟩,m,z⟩
 rw[QJ.mp (xB.mp z)];exact zD cP.1 cP.2;have z:p=u∨p=v:=z;rcases oE.mp m with⟨n,w,_,e|e⟩| ⟨e,x,_,y|y|y⟩
 cases e;rcases z with z|z<;>subst z;exact zD (h.1 n w) zT;exact zD (h.1 n w) sY;cases e;rcases z with z|z<;>subst z;exact zD cP.1 cP.2;exact zD (h.1 n w) zT;cases y;rcases z with z|z<;>subst z;exact zD (h.2 e x).1 zT;exact zD (h.2 e x).1 sY;cases y;rcases z with z|z<;>subst z;exact zD (h.2 e x).2 zT;exact zD (h.2 e x).2 sY;cases y;rcases z with z|z<;>subst z;exact zD (h.2 e x).1 sY;exact zD (h.2 e x).2 zT
def XS(r:Rm)(x:List (D×D))(last:D)(h:Pt)(o4:Option Sl):kA:=[oW (dB r),bD (.dict x),bD last,bD (pr h),o4]
end
section
variable{Ψ:PEv}{Z:PEnds}{q:PT}{r:Rm}{h:List (D×D)}{last:D}{u v:Pt}
theorem Ow(hk:Key r u)(w:oI r u v)(hl:(lk r u).9<ku)(k:pF Ψ q Z (XS (put r u (put (lk r u) v (rm r u v - 1))) h last v (bD (pr u)))) :
  pF Ψ (.seq (.six (.idx (.var 0) (.var 4)) (.var 3) (.bin .Sub (.idx (.idx (.var 0) (.var 4)) (.var 3)) (.int 1))) q) Z (XS r h last v (bD (pr u))):=by
 let#[x,y]:=w;have e:rm r u v=x:=by unfold rm;rw[y];rfl
 rw[e]at k;delta XS at k ⊢;simp![↓mI];refine IE hk ?_;simp![↓GZ];refine oQ y ?_;simp![↓vA];refine aI (FE hk) λf z=>eQ hl ?_;rw[z];exact k
theorem Nw(hk:Key r v)(w:oI r v u)(hl:(lk r v).9<ku)(k:pF Ψ q Z (XS (put r v (put (lk r v) u (rm r v u+1))) h last v (bD (pr u)))) :
  pF Ψ (.seq (.six (.idx (.var 0) (.var 3)) (.var 4) (.bin .Add (.idx (.idx (.var 0) (.var 3)) (.var 4)) (.int 1))) q) Z (XS r h last v (bD (pr u))):=by
 let#[x,y]:=w;have e:rm r v u=x:=by unfold rm;rw[y];rfl
 rw[e]at k;delta XS at k ⊢;simp![↓mI];refine IE hk ?_;simp![↓GZ];refine oQ y ?_;simp![↓vA];refine aI (FE hk) λf z=>eQ hl ?_;rw[z];exact k
end
theorem Base.inn{es:EC}{st:LS}{g:Str}{r:Rm}(b:Base es st g r)(p:Pt):(lk r p).9<=(yA es st g).length:=by
 have:=zH (ns:=vs0 es st g) (b.ndi p) λq h=>by let#[e,x,z]:=QX.mp h;have a:oI r p q:=pB.mpr #[e.2,by rw[<- z];exact x];exact oB (UB ((b.adj p q).mp a))
 unfold vs0 at this;rw[QD,QD]at this;exact this
section
variable{Ψ:PEv}{Z:PEnds}{es:EC}{st:LS}{g:Str}
theorem Td{m r:Rm}{ks:List Pt}{vs:List D}{x:Pt}{last:D}{o4:Option Sl}{z v:List Pt}{b u:List D}(hsz:(yA es st g).9<=1000)(Q:af m)(G:CF m z b)(R:ks=z++v)(ev:vs=b++u)(h9:u.9=v.9)(E:x∈z)(hb:x≠UA)(i:LC es st g m r x z)
  (k:∀h y n l p r',CF m h y->ks=h++n->vs=y++l->l.9=n.9->h.9<z.9->p∈h->LC es st g m r' p h->Z.nx (XS r' (AC ks vs) last p (bD (pr p)))) :
  pF Ψ sE Z (XS r (AC ks vs) last x o4):=by
 let#[h,y,p,j,e,I,P,w,A,X,F]:=G.find E hb;have L:=G.len;have J:=I.len;have S:e.9=j.length:=by rw[X,F,QI,QI,QM,QM]at L;omega
 have s:ks=h++x::(j++v):=by rw[R,X,Qz];rfl
 have o:vs=y++pr p::(e++u):=by rw[ev,F,Qz];rfl
 let#[W,K]:=ze Q i E hb w A λq O=>by rw[X];exact Qn _ O
 have a:=i.adjw W;have B:=iS a;have N:Key r p:=by rw[xB,i.keys];exact oB a
 have M:Key r x:=by rw[xB,i.keys];exact oB (UB a)
 have C:=i.toBase.inn;have Y:pF Ψ %[.set 3 (.var 4)|2] Z (XS (C0 r p x) (AC ks vs) last x (bD (pr p))):=by have:=k h y (x::(j++v)) (pr p::(e++u)) p (C0 r p x) I s o (by rw[QM,QM,QI,QI];omega) (by rw[X,QI,QM];omega) P K;unfold XS at this;delta XS;simp![↓vA];exact this
 have f:pF Ψ %[.six (.idx (.var 0) (.var 4)) (.var 3) (.bin .Sub (.idx (.idx (.var 0) (.var 4)) (.var 3)) (.int 1)),.six (.idx (.var 0) (.var 3)) (.var 4) (.bin .Add (.idx (.idx (.var 0) (.var 3)) (.var 4)) (.int 1)),.set 3 (.var 4)|2] Z (XS r (AC ks vs) last x (bD (pr p))):=by have i1:=C p;have H:=C x;refine Ow N ((i.adj _ _).mpr a) () (Nw ?_ ?_ ?_ Y);exact uJ.mpr (.inr M);show oI _ x p;have:=(i.adj x p).mpr (UB a);unfold oI at this ⊢;rw[mE,ot B];exact this;rw[mE,ot B];omega
 unfold XS at f;delta XS;delta sE;simp![↓vA];rw[s,o]at f ⊢;refine Oo J (by rw[QI,QI];omega) A ?_;simp![↓vA];exact f
end
section
variable{Ψ:PEv}{W:LT->Prop}{n m:Bool}{E:XE}{ρ:kA}{R:T->Prop}{a g f:Str}{es:EC}{st c:LS}{r:Rm}{Z:PEnds}{ks:List Pt}{vs:List D}{L:Bool->Prop}{Q:T->Bool->Prop}{i:Nat}{cs:List (LS)}
def ZQ:PSp where
 md:=[.chg]
 run:=λy Q _=>∃(es:EC) (st:LS) (g:Str) (h:Rm) (ks:List Pt) (vs:List D),y=[dB h,.d (.dict (AC ks vs)),.d (pr (tO g))]/\((yA es st g).9<=1000/\BK es st/\Flow es st g h/\CF h ks vs/\tO g∈ks)/\∀x,Flow es st g x->out es st g x UA=out es st g h UA+1->Q (.d .none) [dB x]
theorem Rk(B:Ψ.va "BEGIN"=jr (pr UA)):JE Ψ YG ZQ fL MI:=by
 rintro _ Q _ ⟨es,st,g,k,ks,vs,rfl,⟨N,M,fl,H,I⟩,q⟩;refine nK [oW (dB k),bD (.dict (AC ks vs)),bD (pr (tO g)),kd,kd] ?_;delta YG;simp![↓vA];refine pI (λm ρ=>∃r h x v u y o4,m=h.9/\CF k h x/\ks=h++v/\vs=x++u/\u.9=v.9/\y∈h/\LC es st g k r y h/\ρ=XS r (AC ks vs) (pr (tO g)) y o4) ks.9 #[k,ks,vs,[],[],tO g,_,rfl,H,by rw[Q5],by rw[Q5],rfl,I,m8 fl ks,rfl] ?_;rintro m ρ ⟨r,h,x,v,u,y,o4,em,C,S,ev,J,K,Y,rfl⟩;have o:AE (pr y):=V8 M (by have:=HI fl.toBase.dom fl.toBase.bg (C.rch y K);rw[xB,fl.keys]at this;exact this);have s:AE (pr UA):=zD cP.1 cP.2;have z:∀L:Bool->Prop,L (!decide (y=UA))->PB .NotEq (.d (pr y)) (.d (pr UA)) L:=λL l=>by show AE (pr y)/\AE (pr UA)/\L (!PyData.eqv (pr y) (pr UA));rw[zS];exact#[o,s,l]
 by_cases e:y=UA;subst e;delta XS;simp![↓HH B];refine z _ ?_;rw[dT rfl];let#[P,O]:=Ol Y;exact q r P O;have A:=λ(Z:PEnds) G=>Td (Ψ:=Ψ) (Z:=Z) (last:=pr (tO g)) (o4:=o4) N fl.ndi C S ev J K e Y G;unfold XS at A;delta XS;simp![↓HH B];refine z _ ?_;rw[dF e];refine A _ λw j X b p F a1 a2 a3 a4 a5 a6 a7=>#[w.9,(),F,w,j,X,b,p,_,rfl,a1,a2,a3,a4,a6,a7,rfl]
theorem v5{l:Inn}:xK .val [(VD l,kn)] W=W ((l.map λe=>pr e.1).map T.d):=mU _ _
theorem Pi{kvs:List (D×D)}(h:xD kvs=jr kb):xK .val [(.d (.dict kvs),n)] W=W ((kvs.map (·.1)).map T.d):=by unfold xK AB;rw[sA];show LB .val [DB kvs] W=_;unfold DB;rw[h];exact mU _ _
theorem oh{a b h:PX}{t:Str}{x:T}{R:Option T->Prop}:eG Ψ E [] [t] (.nm 0) (.and a b) h ρ x R=yN Ψ (.and a b) E (jr (.bor x)::lockA ρ) λk z=>if k=kb then jB Ψ h E z λy n _=>rC y n (R (jr y)) else R none:=rfl
theorem DS{p:Pt}:KA (.d (pr p)) n (.d (.int 0)) m R=R (.d (.str p.1)):=by delta pr;rw[P4,Fn,OA]
theorem Fo{p:Pt}:KA (.d (pr p)) n (.d (.int 1)) m R=R (.d (.str p.2)):=by delta pr;rw[P4,xy,OA]
theorem zg:(T.d (.tuple [.str a,.str "from"]))=.d (pr (fR a)):=rfl
theorem V6:(T.d (.tuple [.str a,.str "to"]))=.d (pr (tO a)):=rfl
def RG:PSp where
 md:=[.bor]
 run:=λh Q _=>∃(es:EC) (st:LS) (g:Str) (r:Rm) (n:Str),h=[dB r,.d (.str n)]/\((yA es st g).9<=1000/\Flow es st g r/\TV r n=1)/\∀m,Na r n m->Q (.d (.str m)) []
theorem V1:JE Ψ rE RG CH uG:=by
 rintro _ Q _ ⟨es,st,g,r,n,rfl,⟨J,fl,K⟩,q⟩;have I:=fl.toBase.inn (fR n);let#[b,k]:=ul fl K;have l:oI r (fR n) (tO b):=(fl.adj _ _).mpr (UB (fl.toBase.adjw k.2));have s:Key r (fR n):=by rw[xB,fl.keys];exact oB ((fl.adj _ _).mp l)
 refine uA [jr (.bor (dB r)),bD (.str n),kd] ?_;delta rE;simp![zg,↓mI];refine#[(),IE s ?_];simp![↓Ka,↓v5];have C:((lk r (fR n)).map λe=>pr e.1).map T.d=((lk r (fR n)).map (·.1)).map λp=>T.d (pr p):=by rw[Qc,Qc];rfl
 rw[C];refine lA (λp=>T.d (pr p)) (λ(p:Pt)=>T.d (.str p.1)) (λp=>!decide (p.1=n)&&decide (0<rm r p (fR n))) ((lk r (fR n)).map (·.1)) [] _ (λx Y R u=>?_) (by show 0+((lk r (fR n)).map (·.1)).9<=_;rw[QD];omega) ?_;let#[e,A,B]:=QX.mp Y;have F:oI r (fR n) x:=pB.mpr #[e.2,by rw[<- B];exact A];have w:oI r x (fR n):=(fl.adj _ _).mpr (UB ((fl.adj _ _).mp F));have o:Key r x:=by rw[xB,fl.keys];exact oB ((fl.adj _ _).mp w)
 let#[v,hv]:=w;have ev:rm r x (fR n)=v:=by unfold rm;rw[hv];rfl
 rw[ev]at u;simp![↓oh,↓DS,↓mI];by_cases c:x.1=n;rw[dT c]at u ⊢;exact u;rw[dF c]at u ⊢;simp only[WL,↓reduceIte];refine IE o ?_;simp![↓GZ];refine oQ hv ?_;simp![↓DS];by_cases d:0<v;rw[dT d]at u ⊢;exact u;rw[dF d]at u ⊢;exact u;have hm:tO b∈((lk r (fR n)).map (·.1)).filter λp=>!decide (p.1=n)&&decide (0<rm r p (fR n)):=by let#[v,hv]:=l;refine Qb.mpr #[QX.mpr #[_,kH hv,rfl],?_];rw[dF (show ¬ (tO b).1=n from λz=>k.1 z.symm),dT k.2];rfl
 cases j:((lk r (fR n)).map (·.1)).filter λp=>!decide (p.1=n)&&decide (0<rm r p (fR n)) with
 |nil=>rw[j]at hm;exact(nomatch hm)
 |cons y G =>
  have X:y∈((lk r (fR n)).map (·.1)).filter λp=>!decide (p.1=n)&&decide (0<rm r p (fR n)):=by rw[j];exact QE
  have h:=(Qb.mp X).2;rw[QW,Q7,decide_eq_false_iff_not,Qe]at h;let#[m,rfl]:=Jg fl.toBase ((fl.adj _ _).mpr (fl.toBase.adjw h.2));rw[Qj,rA (λp:Pt=>j0 p.1)];simp![↓vA];rw[QT,Fn];simp![↓vA];exact q m #[λz=>h.1 z.symm,h.2]
def ZI:PSp where
 md:=[.bor]
 run:=λh Q _=>∃(es:EC) (st:LS) (g:Str) (r:Rm) (f:Str),h=[dB r,.d (.str f),.d (.str g)]/\((yA es st g).9<=1000/\Flow es st g r/\CV r f)/\∀c,Run r g f c g->Q (.lst ((c.map j0).map T.d)) []
theorem Vj(fl:Flow es st g r)(w:CV r f){n:Str}(h:Run r g f c n):(∀x∈c,tO x∈vs0 es st g)/\tO n∈vs0 es st g:=by
 induction h with
 |nil=>exact#[λx y=>(nomatch y),(EI fl.toBase w).1]
 |go _ _ v u=>refine#[λx y=>?_,(EI fl.toBase v.2).1];rcases Qd.mp y with z|z;exact u.1 x z;rw[QJ.mp z];exact u.2
theorem JY(fl:Flow es st g r)(y:CV r f){n:Str}(h:Run r g f c n):c.9<=(yA es st g).length:=by
 have nd:=(h.nd fl y).1;have:=zH (ks:=c.map tO) (ns:=vs0 es st g) (Wo tO (λa b u z=>u (FB z)) nd) λp w=>by let#[x,v,e]:=QX.mp w;rw[<- e];exact(Vj fl y h).1 x v
 unfold vs0 at this;rw[QD,QD]at this;exact this
def Am(r:Rm)(f g:Str)(c:LS)(n:Str):kA:=[jr (.bor (dB r)),bD (.str f),bD (.str g),oW (.lst ((c.map j0).map T.d)),bD (.str n)]
theorem Re(x:Ψ.sp "name_behind"=RG){n:Str}(hs:(yA es st g).9<=1000)(fl:Flow es st g r)(h:TV r n=1)(hl:c.9<=1000)(k:∀m,Na r n m->Z.nx (Am r f g (c++[n]) m)) :
  pF Ψ LD Z (Am r f g c n):=by
 delta Am at k ⊢;delta LD;simp![↓JS,↓zA (md:=[.bor]) x rfl rfl];refine#[by rw[QD,QD];omega,#[_,_,_,_,_,rfl,#[hs,fl,h],λm nx=>?_]];have:=k m nx;rw[QN,QN]at this;simp![↓vA];exact this
theorem J7(b:Ψ.sp "name_behind"=RG):JE Ψ VF ZI DJ VH:=by
 rintro _ Q _ ⟨es,st,g,r,f,rfl,⟨hs,fl,z⟩,q⟩;have u:ku=16777216:=qC;refine uA [jr (.bor (dB r)),bD (.str f),bD (.str g),kd,kd] ?_;delta VF
 simp![↓vA];refine#[Qs _,pI (λm ρ=>∃c n,m+c.9=1001/\Run r g f c n/\ρ=Am r f g c n) 1001 #[[],f,rfl,.nil,rfl] ?_];rintro m ρ ⟨c,n,j,x,rfl⟩;have hl:=JY fl z x;by_cases e:n=g;subst e;delta Am;simp![↓vA];exact q c x;have v:=λ(Z:PEnds) u=>Re (Ψ:=Ψ) (Z:=Z) (f:=f) (g:=g) (c:=c) b hs fl (x.thr1 fl z e) () u;unfold Am at v;delta Am;simp![↓vA];rw[dF e];refine v _ λk w=>?_;have h:=x.go e w;have y:=JY fl z h;rw[QI,qL]at y;exact#[m - 1,(),c++[n],k,by rw[QI,qL];omega,h,rfl]
theorem xn{q:Pt}(hv:vs.9=ks.9)(hb:UA∈ks):PB .NotIn (.d (pr q)) (.d (.dict (AC ks vs))) L=L (!decide (q∈ks)):=by show(∃b,xD (AC ks vs)=jr b/\SD b (pr q)/\L (!(dA ((AC ks vs).map (·.1)) (pr q)).isSome))=_;rw[pJ hv hb,TL hv,gJ];exact o9 #[λ#[_,_,_,h]=>h,λh=>#[kb,rfl,IB q,h]]
theorem vh{q:Pt}(hv:vs.9=ks.9)(hb:UA∈ks):PB .In (.d (pr q)) (.d (.dict (AC ks vs))) L=L (decide (q∈ks)):=by show(∃b,xD (AC ks vs)=jr b/\SD b (pr q)/\L (dA ((AC ks vs).map (·.1)) (pr q)).isSome)=_;rw[pJ hv hb,TL hv,gJ];exact o9 #[λ#[_,_,_,h]=>h,λh=>#[kb,rfl,IB q,h]]
theorem Nq{x:LS}(y:x.9<64)(q:∀h:LS,h.Perm x->Ia h=kb->Q (.lst ((h.map j0).map T.d)) kb):jQ .sorted [(.lst ((x.map j0).map T.d),n)] Q:=by unfold jQ AB;rw[YD];exact .inl #[_,x,rfl,VA _,y,q]
theorem Oq{ls:List (LS)}(x:ls.9<64)(q:∀h:List (LS),h.Perm ls->Q (.lst ((h.map TD).map T.d)) kb):jQ .sorted [(.d (.list (ls.map TD)),n)] Q:=by unfold jQ AB;rw[sA];exact .inr (.inl #[_,ls,rfl,VA _,x,q])
def DN(ks:List Pt):LS:=(ks.filter (oH ks)).map λp=>p.1
def KQ:PSp where
 run:=λh Q _=>∃(ks:List Pt) (vs:List D),h=[.d (.dict (AC ks vs))]/\(vs.9=ks.9/\UA∈ks/\ks.9<=1000/\(ks.filter (oH ks)).9<64)/\∀cut:LS,cut.Perm (DN ks)->Ia cut=kb->Q (.lst ((cut.map j0).map T.d)) []
theorem ud:JE Ψ KF KQ CJ KH:=by rintro _ Q _ ⟨ks,vs,rfl,⟨hv,hb,k,v⟩,q⟩;refine uA [bD (.dict (AC ks vs))] ?_;delta KF;simp![↓Pi (pJ hv hb),TL hv];rw[<- rA];refine lA (λp=>T.d (pr p)) (λ(p:Pt)=>T.d (.str p.1)) (oH ks) ks [] _ (λx w R h=>?_) (by show 0+ks.9<=_;omega) ?_;have h:R (if(decide (x.2="to")&&!decide (fR x.1∈ks))=kb then jr (T.d (.str x.1)) else kd):=h;simp![↓oh,↓DS,↓Fo,zg,↓xn hv hb];by_cases c:x.2="to";rw[dT c]at h ⊢;refine#[(),?_];by_cases d:fR x.1∈ks;rw[dT d]at h ⊢;exact h;rw[dF d]at h ⊢;exact h;rw[dF c]at h ⊢;exact h;rw[Qj,rA (λp:Pt=>j0 p.1),show((ks.filter (oH ks)).map λp=>j0 p.1)=(DN ks).map j0 by unfold DN;rw[Qc];rfl];refine Nq (by unfold DN;rw[QD];exact v) λy u z=>?_;simp![↓vA];exact q y u z
theorem M3(f:Flow es st g r):(((lk r UA).map (·.1)).filter λy=>decide (0<rm r y UA)).9<=st.length:=by
 have u:∀y∈((lk r UA).map (·.1)).filter (λy=>decide (0<rm r y UA)),y=tO y.1/\CV r y.1:=λy x=>by have h:=QB (Qb.mp x).2;let#[n,rfl]:=O7 f.toBase ((f.adj _ _).mpr (f.toBase.adjw h));exact#[rfl,h]
 have nd:(((lk r UA).map (·.1)).filter λy=>decide (0<rm r y UA)).Nodup:=(f.ndi UA).sublist qA;have:=nR (ks:=(((lk r UA).map (·.1)).filter λy=>decide (0<rm r y UA)).map (·.1)) (ns:=st) (by
  refine Wo _ (λa b h=>h) (wo (λ{a b} w hb v z=>?_) nd);exact v (by rw[(u a w).1,(u b hb).1,z])) λs hs=>by
  let#[y,x,e]:=QX.mp hs;rw[<- e];exact(uK f.toBase (u y x).2).1
 rw[QD]at this;exact this
theorem FP{α v:Type}{body:T->(Option T->Prop)->Prop}(P:α->v->Prop)(g:α->T)(f:v->T):∀(l:List α) (h:LT) (Q:LT->Prop),(∀x∈l,∀R:Option T->Prop,(∀y,P x y->R (jr (f y)))->body (g x) R)->h.9+l.9<=ku->(∀u,y1 P l u->Q (h++u.map f))->uD body (l.map g) h Q
 |[],h,Q,_,hl,q=>by have:=q [] .nil;rw[wT,Q5]at this;exact#[by rw[wO]at hl;omega,this]|x::r,h,Q,hb,hl,q=>by
  rw[QM]at hl;refine hb x QE _ λy k=>#[(),?_]
  refine FP P g f r _ Q (λz w=>hb z (QF _ w)) (by rw[QI,qL];omega) λu b=>?_;have:=q (y::u) (.cons k b);rw[QT]at this;rw[Qz];exact this
theorem ki{r:PT}:sO Ψ E r Z i (Ee ks vs) kb ρ=vB Ψ E r Z (ρ.set i (bD (.dict (AC ks vs)))):=by unfold sO;rw[Im];exact o9 #[λh=>h.2,λh=>#[rfl,h]]
def Ps(c:LS):T:=.lst ((c.map j0).map T.d)
theorem Sm(cs:List (LS)):ersT (cs.map Ps)=cs.map TD:=by rw[yS,Qc];congr 1;funext c;show PyData.list (ersT ((c.map j0).map T.d))=_;rw[gB];rfl
theorem Gy{r:PT}:sO Ψ E r Z i (.lst (cs.map Ps)) kb ρ=vB Ψ E r Z (ρ.set i (bD (.list (cs.map TD)))):=by
 have e:(T.lst (cs.map Ps)).er=.list (cs.map TD):=by show PyData.list (ersT (cs.map Ps))=_;rw[Sm]
 unfold sO;rw[e];exact o9 #[λh=>h.2,λh=>#[rfl,h]]
theorem cr{a b:LT}:vD [.lst a,.lst b]=.tup [.lst a,.lst b]:=rfl
theorem ZK:∀{cs:List (LS)},GJ cs↔cs.Pairwise λc d=>∀x∈c,x∉d
 |[]=>#[λ_=>.nil,λ_=>trivial]|c::cs=>by rw[List.pairwise_cons,<- ZK];exact WJ
theorem AX{ds:List (LS)}(h:ds.Perm cs)(a:GJ cs):GJ ds:=ZK.mpr ((h.pairwise_iff (λ{a b} z x u y=>z x y u)).mpr (ZK.mp a))
structure Good(es:EC)(st:LS)(g:Str)(cs:List (LS))(cut:LS):Prop where
 chn:∀c∈cs,Chn es st g c g/\c.Nodup/\∀x∈c,x≠g
 apart:GJ cs
 len:cs.9=cut.9
 few:cut.9<=11
 nd:cut.Nodup
 srt:Ia cut=kb
 ng:g∉cut
 led:¬ ∃a,(a,g)∈es/\Led es st g cut a
 okn:∀s∈cut,qi s=kb
end
section
variable{es:EC}{st:LS}{g:Str}{r:Rm}
theorem KM(f:Flow es st g r):∀{fs:LS}{cs:List (LS)},fs.Nodup->(∀s∈fs,CV r s)->y1 (λs c=>Run r g s c g) fs cs->GJ cs/\(∀c∈cs,∃s∈fs,Run r g s c g)
 |_,_,_,_,.nil=>#[trivial,λ_ h=>(nomatch h)]
 |s::fs,c::cs,nd,hf,.cons h t=>by
  let#[b,a]:=Qh.mp nd;let#[j,k]:=KM f a (λs hs=>hf s (QF _ hs)) t;refine#[#[λd w x i e=>?_,j],λd w=>?_];let#[u,y,v]:=k d w;have:=Run.apart f (hf s QE) (hf u (QF _ y)) h v x i e;exact b (this▸y);rcases QL.mp w with z|z
  ·rw[z];exact#[s,QE,h]
  let#[u,y,v]:=k d z;exact#[u,QF _ y,v]
def Gu(r:Rm):List Pt:=((lk r UA).map λe=>e.1).filter λy=>decide (0<rm r y UA)
def fX(r:Rm):LS:=(Gu r).map λp=>p.1
theorem y9(f:Flow es st g r):∀y∈Gu r,y=tO y.1/\CV r y.1:=λy x=>by have h:=QB (Qb.mp x).2;let#[n,rfl]:=O7 f.toBase ((f.adj _ _).mpr (f.toBase.adjw h));exact#[rfl,h]
theorem Vs(f:Flow es st g r):(fX r).Nodup:=by have nd:(Gu r).Nodup:=(f.ndi UA).sublist qA;refine Wo _ (λa b h=>h) (wo (λ{a b} y hb x z=>?_) nd);exact x (by rw[(y9 f a y).1,(y9 f b hb).1,z])
theorem dX(f:Flow es st g r):∀s∈fX r,CV r s:=λs hs=>by let#[y,h,e]:=QX.mp hs;rw[<- e];exact(y9 f y h).2
theorem bK(f:Flow es st g r):out es st g r UA=(fX r).9/\(fX r).9<=st.length:=by have x:=Ue f;have h:=M3 f;unfold fX;rw[QD];exact#[x,h]
theorem xN{α x:Type}{P:α->x->Prop}{l:List α}{m:List x}(h:y1 P l m):l.9=m.length:=qM h
theorem Ye(f:Flow es st g r)(B:BK es st)(E:st.9<=11){ks:List Pt}{vs:List D}(Z:CF r ks vs)(hk:∀p,p∈ks↔Rch r p)(o:tO g∉ks){cs ds:List (LS)}(X:y1 (λs c=>Run r g s c g) (fX r) cs)(j:ds.Perm cs){cut:LS}(w:cut.Perm (DN ks))(sc:Ia cut=kb):Good es st g ds cut:=by
 let#[I,G]:=KM f (Vs f) (dX f) X;let#[O,N]:=bK f;have M:=CU f Z.nd hk o;have L:(DN ks).9=(ks.filter (oH ks)).length:=by unfold DN;rw[QD]
 have J:=xN X;have u:∀s,s∈DN ks↔tO s∈ks/\fR s∉ks:=λs=>by unfold DN;rw[QX];constructor;rintro⟨y,A,e⟩;let#[v,x]:=Qb.mp A;let#[n,q,k]:=xE.mp x;subst q;have e:n=s:=e;subst e;exact#[v,k];rintro⟨v,x⟩;exact#[tO s,Qb.mpr #[v,xE.mpr #[s,rfl,x]],rfl]
 have l:(DN ks).Nodup:=by unfold DN;refine Wo _ (λa b h=>h) (wo (λ{a b} C hb K z=>?_) (Z.nd.sublist (qA (p:=oH ks))));let#[n,F,_]:=xE.mp (Qb.mp C).2;let#[m,q,_]:=xE.mp (Qb.mp hb).2;subst F q;have z:n=m:=z;exact K (by rw[z])
 have W:=w.length_eq;refine#[λc hc=>?_,AX j I,by rw[j.length_eq,W];omega,(),w.nodup_iff.mpr l,sc,λz=>o ((u g).mp (w.mem_iff.mp z)).1,?_,λs hs=>?_];let#[s,hs,i]:=G c (j.mem_iff.mp hc);have Y:=dX f s hs;exact#[i.chn f Y,(i.nd f Y).1,i.ng];exact Le f hk o λn v x=>w.mem_iff.mpr ((u n).mpr #[v,x]);have v:=((u s).mp (w.mem_iff.mp hs)).1;have x:=xB.mp (HI f.toBase.dom f.toBase.bg ((hk _).mp v));rw[f.keys]at x;have k:=(V8 B x).1;simp only[pr,tO,QAc,q0,QW]at k;exact k.1
end
def rS(es:EC)(st:LS)(g:Str)(r:Rm)(h:List (D×D))(o5 o6:Option Sl):kA:=[bD (.list (es.map pr)),bD (.tuple (st.map j0)),bD (.str g),oW (dB r),bD (.dict h),o5,o6]
section
variable{Ψ:PEv}{Z:PEnds}{es:EC}{st:LS}{g:Str}{r:Rm}
section
variable{q:PT}{h:List (D×D)}{o6:Option Sl}
theorem ly(u:Ψ.sp "rooms_of"=YI)(z:Ψ.sp "points_reached"=yG)(y:es.9<=126)(x:st.9<=11)(k:∀ks vs,CF (yA es st g) ks vs->(∀p,p∈ks↔Rch (yA es st g) p)->pF Ψ q Z (rS es st g (yA es st g) (AC ks vs) kd kd)) :
  pF Ψ (.seq (.own 3 (.call "rooms_of" %[.var 0,.var 1,.var 2|1])) (.seq (.set 4 (.call "points_reached" %[.var 3|1])) q)) Z [bD (.list (es.map pr)),bD (.tuple (st.map j0)),bD (.str g),kd,kd,kd,kd]:=by
 have ok:=ZT (g:=g) y x;delta rS at k;simp![↓zA (md:=[]) u rfl rfl,↓zA (md:=[.bor]) z rfl rfl];refine#[_,_,_,rfl,#[y,x],?_];simp![↓JS,↓zA (md:=[.bor]) z rfl rfl];refine#[_,_,rfl,#[(.inl rfl),ok.dom,ok.bg,ok.sz.1],λks vs hc hk=>?_];simp![↓ki];exact k ks vs hc hk
theorem gy(u:Ψ.sp "points_reached"=yG)(a:Ψ.sp "lay_chain"=ZQ){ks:List Pt}{vs:List D}(hs:(yA es st g).9<=1000)(v:BK es st)(f:Flow es st g r)(b:CF r ks vs)(w:tO g∈ks)
  (k:∀r' x y,Flow es st g r'->out es st g r' UA=out es st g r UA+1->CF r' x y->(∀p,p∈x↔Rch r' p)->Z.nx (rS es st g r' (AC x y) kd kd)) :
  pF Ψ CC Z (rS es st g r (AC ks vs) kd kd):=by
 delta rS at k ⊢;delta CC;simp![V6,↓dH (md:=[]) a rfl rfl,↓zA (md:=[.bor]) u rfl rfl];refine#[(),#[_,_,_,_,_,_,rfl,#[hs,v,f,b,w],λr' z e=>#[_,rfl,?_]]];simp![↓JS,↓zA (md:=[.bor]) u rfl rfl];refine#[_,_,rfl,#[(.inl rfl),z.toBase.dom,z.toBase.bg,(by rw[z.toBase.len];exact hs)],λx y hc hk=>?_];simp![↓ki];exact k r' x y z e hc hk
theorem cy(w:Ψ.va "BEGIN"=jr (pr UA)){o5:Option Sl}(hs:(yA es st g).9<=1000)(f:Flow es st g r)(k:pF Ψ q Z (rS es st g r h (bD (.list ((fX r).map j0))) o6)) :
  pF Ψ (.seq (.set 5 (.comp [] ["point"] (.nm 0) .val %[.idx (.var 3) (.glo "BEGIN")|1] (.cmp .Gt (.idx (.idx (.var 4) (.var 0)) (.glo "BEGIN")) (.int 0)) (.idx (.var 0) (.int 0)))) q) Z (rS es st g r h o5 o6):=by
 have o:=f.toBase.inn UA;delta rS at k ⊢;simp![↓mI,↓HH w];refine IE f.toBase.bg ?_;simp![↓Ka,↓v5];have m:((lk r UA).map λe=>pr e.1).map T.d=((lk r UA).map λe=>e.1).map λp=>T.d (pr p):=by rw[Qc,Qc];rfl
 rw[m];refine lA (λp=>T.d (pr p)) (λ(p:Pt)=>T.d (.str p.1)) (λy=>decide (0<rm r y UA)) ((lk r UA).map λe=>e.1) [] _ (λx b R z=>?_) (by show 0+((lk r UA).map λe=>e.1).9<=_;rw[QD];omega) ?_;let#[e,i,j]:=QX.mp b;have n:oI r UA x:=pB.mpr #[e.2,by rw[<- j];exact i];have u:oI r x UA:=(f.adj _ _).mpr (UB ((f.adj _ _).mp n));have a:Key r x:=by rw[xB,f.keys];exact oB ((f.adj _ _).mp u)
 let#[v,hv]:=u;have ev:rm r x UA=v:=by unfold rm;rw[hv];rfl
 rw[ev]at z;simp![↓mI,↓HH w];refine IE a ?_;simp![↓GZ,↓HH w];refine oQ hv ?_;simp![↓DS];by_cases d:0<v;rw[dT d]at z ⊢;exact z;rw[dF d]at z ⊢;exact z;rw[Qj,rA (λp:Pt=>j0 p.1)];have l:((((lk r UA).map λe=>e.1).filter λy=>decide (0<rm r y UA)).map λp=>j0 p.1)=(fX r).map j0:=by unfold fX Gu;rw[Qc];rfl
 rw[l];simp![↓vA];exact k
theorem uy(w:Ψ.sp "chain_from"=ZI)(hs:(yA es st g).9<=1000)(a:st.9<=11)(f:Flow es st g r)(k:∀cs,y1 (λs c=>Run r g s c g) (fX r) cs->pF Ψ q Z (rS es st g r h (bD (.list ((fX r).map j0))) (bD (.list (cs.map TD))))) :
  pF Ψ (.seq (.set 6 (.comp [] ["first"] (.nm 0) .val %[.var 5|1] .nop (.call "chain_from" %[.var 4,.var 0,.var 3|1]))) q) Z (rS es st g r h (bD (.list ((fX r).map j0))) o6):=by
 have hl:=(bK f).2;delta rS at k ⊢;simp![↓vA];rw[<- rA j0 (fX r)];refine FP (λs c=>Run r g s c g) (λs=>T.d (.str s)) Ps (fX r) [] _ (λx z R v=>?_) (by show 0+(fX r).9<=_;omega) λcs u=>?_;simp![↓JS,↓zA (md:=[.bor]) w rfl rfl];refine#[_,_,_,_,_,rfl,#[hs,f,(dX f x z)],λc y=>?_];simp![↓vA];exact v c y;rw[Qj];simp![↓Gy];exact k cs u
end
end
section
variable{es u:EC}{F sr z:LS}{x:Str}{n:Int}
noncomputable def VI:PSp where
 run:=λy Q _=>∃(es:EC) (st:LS) (g:Str),y=[.d (.list (es.map pr)),.d (.tuple (st.map j0)),.d (.str g)]/\(es.9<=126/\st.9<=11/\BK es st)/\∀h cut,Good es st g h cut->Q (.tup [.lst ((h.map TD).map T.d),.lst ((cut.map j0).map T.d)]) []
theorem Y7{Ψ:PEv}(R:Ψ.sp "rooms_of"=YI)(C:Ψ.sp "points_reached"=yG)(P:Ψ.sp "lay_chain"=ZQ)(O:Ψ.sp "chain_from"=ZI)(B:Ψ.sp "full_names"=KQ)(N:Ψ.va "BEGIN"=jr (pr UA))(ds Q E)(h:VI.run ds Q E):Bz Ψ CG VI GG HF ds Q:=by
 let#[es,st,g,rfl,#[Y,i,A],q]:=h;have W:ku=16777216:=qC;have hs:(yA es st g).9<=1000:=(ZT (g:=g) Y i).sz.1;refine uA [bD (.list (es.map pr)),bD (.tuple (st.map j0)),bD (.str g),kd,kd,kd,kd] ?_;refine ly R C Y i λl w S L=>?_;have b0:=bK (Pg (es:=es) (st:=st) (g:=g));delta rS;simp![↓vA];refine pI (λm X=>∃r v b,(m:Int)+out es st g r UA=12/\Flow es st g r/\CF r v b/\(∀p,p∈v↔Rch r p)/\X=rS es st g r (AC v b) kd kd) (12 - out es st g (yA es st g) UA).toNat #[yA es st g,l,w,(),Pg,S,L,rfl] ?_;rintro m X ⟨r,v,b,em,f,y,hk,rfl⟩;have bd:=bK f;by_cases a:tO g∈v;have k:=λ(Z:PEnds) W=>gy (Ψ:=Ψ) (Z:=Z) C P hs A f y a W;unfold rS at k;delta rS;simp![V6,↓vh y.len y.hb];refine#[(),?_];rw[dT a];refine k _ λG o j s e H M=>#[m - 1,?_,G,o,j,?_,s,H,M,rfl]
 have:=bK s;omega;have:=bK s;omega;have K:pF Ψ %[.set 5 (.comp [] ["point"] (.nm 0) .val %[.idx (.var 3) (.glo "BEGIN")|1] (.cmp .Gt (.idx (.idx (.var 4) (.var 0)) (.glo "BEGIN")) (.int 0)) (.idx (.var 0) (.int 0))),.set 6 (.comp [] ["first"] (.nm 0) .val %[.var 5|1] .nop (.call "chain_from" %[.var 4,.var 0,.var 3|1])),.ret (.tup %[.bi .sorted %[.var 6|1],.call "full_names" %[.var 4|1]|1])|2] (eZ Q) (rS es st g r (AC v b) kd kd):=by refine cy N hs f (uy O hs i f λcs k=>?_);have lc:=xN k;have l3:=CU f y.nd hk a;delta rS;simp![↓zA (md:=[]) B rfl rfl];refine Oq () λds I=>?_;simp![↓zA (md:=[]) B rfl rfl];refine#[_,_,rfl,#[y.len,y.hb,(QS (y.le f.toBase.dom f.toBase.bg) (by rw[f.toBase.len];exact hs)),()],λcut J sc=>?_];simp![cr];exact#[(),q ds cut (Ye f A i y hk a k I J sc)]
 unfold rS at K;delta rS;simp![V6,↓vh y.len y.hb];refine#[(),?_];rw[dF a];exact K
def oX(es:EC)(F:LS):EC:=es.filter λe=>decide (e.1∈F)
theorem OR{e:Str×Str}:e∈oX es F↔e∈es/\e.1∈F:=by unfold oX;rw[Qb,Qe]
def DL(es:EC)(sr:LS)(x:Str)(F:LS)(n:Int):Prop:=∃h:List (LS),GJ h/\(∀c∈h,Chn (oX es F) sr x c x)/\n<=(h.9:Int)
theorem Chn.sub{g:Str}(w:∀e∈es,e∈u)(v:∀s∈sr,s∈z){c:LS}{n:Str}(h:Chn es sr g c n):Chn u z g c n:=by
 induction h with|st a b=>exact .st (v _ a) b|go _ b c y=>exact .go y b (w _ c)
theorem DL.sub{w:LS}{v:Int}(j:∀e∈es,e∈u)(i:∀s∈sr,s∈z)(g:∀y∈F,y∈w)(k:v<=n)(h:DL es sr x F n):DL u z x w v:=by let#[p,a,c,l]:=h;refine#[p,a,λd f=>Chn.sub (λe b=>?_) i (c d f),W0 k l];let#[o,m]:=OR.mp b;exact OR.mpr #[j e o,g _ m]
theorem y8{cs:List (LS)}{cut:LS}(h:Good (oX es F) sr x cs cut):DL es sr x F n↔n<=(cs.9:Int):=by constructor;rintro⟨y,a,c,l⟩;have:=T3 a c h.led;rw[<- h.len]at this;exact W0 l (Int.ofNat_le.mpr this);exact λl=>#[cs,h.apart,λc hc=>(h.chn c hc).1,l]
inductive Held(es:EC)(sr:LS)(nd:List (Str×Int)):Str->Prop
 |see {x:Str}{n:Int}:(x,n)∈nd->x∈sr->Held es sr nd x
 |tell {x:Str}{n:Int}(F:LS):(x,n)∈nd->(∀y∈F,Held es sr nd y)->DL es sr x F n->Held es sr nd x
end
section
variable{es v:EC}{sr y:LS}{nd u:List (Str×Int)}
theorem T8{S:LS}(f:∀x∈S,Held es sr nd x)(e:∀x n,(x,n)∈nd->x∈sr->x∈S)(k:∀x n,(x,n)∈nd->x∉S->¬ DL es sr x S n)(x:Str):x∈S↔Held es sr nd x:=by
 refine#[f x,λh=>?_];induction h with|see a b=>exact e _ _ a b|@tell x n F a _ m w=>by_cases z:x∈S;exact z;exact o2 (m.sub (λ_ h=>h) (λ_ h=>h) w (QCq _)) (k x n a z)
theorem re{x:Str}(h:Held es sr nd x):∃n,(x,n)∈nd:=by
 cases h with|see a _=>exact#[_,a]|tell _ a=>exact#[_,a]
end
noncomputable def JI:PSp where
 md:=[.fro,.fro,.shal]
 run:=λz Q _=>∃(x:EC) (h F:LS) (g:Str),z=[.d (.tuple (x.map pr)),.d (.tuple (h.map j0)),.lst ((F.map j0).map T.d),.d (.str g)]/\(x.9<=126/\h.9<=11/\BK x h)/\∀y cut,Good (oX x F) h g y cut->Q (.tup [.lst ((y.map TD).map T.d),.lst ((cut.map j0).map T.d)]) []
theorem Tc{Ψ:PEv}(w:Ψ.sp "apart_chains"=VI):JE Ψ DD JI DG FF:=by
 rintro _ Q _ ⟨h,u,F,g,rfl,⟨b,a,v⟩,q⟩;have k:(oX h F).9<=126:=QS (Qx _ _) b;have z:BK (oX h F) u:=#[v.1,λe f=>v.2 e (OR.mp f).1]
 refine uA [bD (.tuple (h.map pr)),bD (.tuple (u.map j0)),jr (.bor (.lst ((F.map j0).map T.d))),bD (.str g)] ?_;delta DD;simp![↓zA (md:=[]) w rfl rfl];rw[<- rA pr h];refine lA (λp=>T.d (pr p)) (λ(p:Str×Str)=>T.d (pr p)) (λp=>decide (p.1∈F)) h [] _ (λx l R y=>?_) (by show 0+h.9<=_;omega) ?_;simp![↓DS,jM,fJ,YB,true_or];by_cases d:x.1∈F;rw[dT d]at y ⊢;exact y;rw[dF d]at y ⊢;exact y;rw[Qj,rA pr];simp![↓zA (md:=[]) w rfl rfl];refine#[_,_,_,rfl,#[k,a,z],λj cut i=>?_];simp![↓vA];exact q j cut i
section
variable{Ψ:PEv}{E:XE}{ρ:kA}{K:TK}{a b c h:PX}{ds:List D}{n m:Bool}{L:Bool->Prop}
def Tp(x:T)(n:Bool)(Ψ:PEv)(b:PX)(E:XE)(ρ:kA)(K:TK):Prop:=sq (α:=Option Int) (gA x n) ρ (λρ R=>(pe Ψ b E).e ρ λu _ y=>fG u.er λo=>R o y) λu y=>BI (gA x n).vw kd u λz k=>K z k y
def tP(x:T)(Q:Option Int->Prop):Prop:=fG x.er Q
theorem zc{i:Int}{Q:Option Int->Prop}:tP (.d (.int i)) Q=Q (jr i):=rfl
theorem bj{x:T}{R:Option Int->kA->Prop}:sq (α:=Option Int) x ρ (λρ (R:Option Int->kA->Prop)=>R kd ρ) R=R kd ρ:=by unfold sq;split<;>rfl
theorem jo{j:Nat}:jB Ψ (.slc a .nop (.var j)) E ρ K=jB Ψ a E ρ λx n v=>Tp x n Ψ (.var j) E v K:=by show(pe Ψ a E).e ρ (λx n v=>sq (α:=Option Int) (gA x n) v (λρ (R:Option Int->kA->Prop)=>R kd ρ) λl w=>sq (α:=Option Int) (gA x n) w (λρ R=>(pe Ψ (.var j) E).e ρ λu _ y=>fG u.er λo=>R o y) λu y=>BI (gA x n).vw l u λz k=>K z k y)=_;simp only[bj];rfl
theorem My{x:D}:Tp (.d x) n Ψ b E ρ K=jB Ψ b E ρ λu _ y=>tP u λo=>lH (.d x) n kd o λz k=>K z k y:=by cases n<;>rfl
theorem De(a b:List D):(T.tup [.lst (a.map T.d),.lst (b.map T.d)]).er=.tuple [.list a,.list b]:=by show PyData.tuple [.list (ersT (a.map T.d)),.list (ersT (b.map T.d))]=_;rw[gB,gB]
theorem Iu{a b:List D}{m:Bool}{t:T}{R:T->Prop}:KA (.tup [.lst (a.map T.d),.lst (b.map T.d)]) kb t m R=KA (.d (.tuple [.list a,.list b])) kn t m R:=by
 have e:gA (.tup [.lst (a.map T.d),.lst (b.map T.d)]) kb=.d (.tuple [.list a,.list b]):=by show T.d (T.tup [.lst (a.map T.d),.lst (b.map T.d)]).er=_;rw[De]
 unfold KA;rw[e];rfl
end
section
variable{Ψ:PEv}{E:XE}{ρ:kA}{a c h:PX}{W:LT->Prop}{R:Option T->Prop}{C:LT->Prop}{xs:List (T×Bool)}{ds:List D}{n m:Bool}
section
variable{md:List Md}{ts:LT}{b:Bool}{t u:Str}
theorem sC{v:PX}{M:List (T×Bool)->kA->Prop}:zN Ψ (.acons a v) E (.fro::md) ρ M=jB Ψ a E ρ λx n z=>Ga x n Ψ v E md z λxs y=>M ((x,n)::xs) y:=rfl
theorem sf{d:D}:rB (.fro::md) ((.d d,n)::xs) C=rB md xs λts=>C (.d d::ts):=by
 have e:ZA (.fro::md) ((.d d,n)::xs) []=(ZA md xs []).map (.d d::·):=by cases n<;>rfl
 unfold rB;rw[e,kF]
theorem Io:xK .val [(.lst ts,kn)] W=W ts:=by unfold xK AB;exact bJ ts
theorem Yt{m:List Bool}{x y:D}{v:bb}:eG Ψ E (b::m) [t,u] (.tp [0,1]) (.cmp v a c) h ρ (.d (.tuple [x,y])) R=yN Ψ (.cmp v a c) E (bD x::bD y::nC (b::m) (lockA ρ)) λk z=>if k=kb then jB Ψ h E z λy n _=>rC y n (R (jr y)) else R none:=OA
theorem sy{m:List Bool}{x y:T}:eG Ψ E (b::m) [t,u] (.tp [0,1]) .nop h ρ (.tup [x,y]) R=jB Ψ h E (jr (.bor x)::jr (.bor y)::nC (b::m) (lockA ρ)) λy n _=>rC y n (R (jr y)):=OA
theorem jAk:ZL ((.lst [],kb)::xs) C=ZL xs λts=>C (.lst []::ts):=Fy (ds:=[])
theorem ur{d:D}:vD [.d d,.lst ts]=.tup [.d d,.lst ts]:=rfl
theorem yt{i j:Int}{L:Bool->Prop}:PB .GtE (.d (.int i)) (.d (.int j)) L=L (decide (j<=i)):=rfl
end
end
noncomputable abbrev Rw:=Str×List (LS)
noncomputable def TJ(r:Rw):T:=.tup [.d (.str r.1),.lst ((r.2.map TD).map T.d)]
def VS(p:Str×Int):D:=.tuple [.str p.1,.int p.2]
def G3(es:EC)(sr:LS)(nd:List (Str×Int))(h:List Rw)(F:LS)(b:Bool)(o6 o7 o8:Option Sl):kA:=[bD (.tuple (es.map pr)),bD (.tuple (sr.map j0)),bD (.list (nd.map VS)),oW (.lst (h.map TJ)),oW (.lst ((F.map j0).map T.d)),bD (.bool b),o6,o7,o8]
section
variable{Ψ:PEv}{Z:PEnds}{es:EC}{sr:LS}{nd:List (Str×Int)}{q:PT}
section
variable{o5 o6 o7 o8:Option Sl}{h:List Rw}
noncomputable def bT(sr:LS)(nd:List (Str×Int)):List Rw:=(nd.filter λp=>decide (p.1∈sr)).map λp=>(p.1,[])
theorem Fx(hl:nd.9<=100){o4:Option Sl}(k:pF Ψ q Z [bD (.tuple (es.map pr)),bD (.tuple (sr.map j0)),bD (.list (nd.map VS)),oW (.lst ((bT sr nd).map TJ)),o4,o5,o6,o7,o8]) :
  pF Ψ (.seq (.own 3 (.comp [kn,kn,kn,kn,kn,kn,kb,kb] ["name","number"] (.tp [0,1]) .val %[.var 2|1] (.cmp .In (.var 0) (.var 3)) (.tup %[.var 0,.lst .anil|1]))) q) Z [bD (.tuple (es.map pr)),bD (.tuple (sr.map j0)),bD (.list (nd.map VS)),kd,o4,o5,o6,o7,o8]:=by
 simp![↓vA];rw[<- rA VS nd];refine lA (λp=>T.d (VS p)) (λ(p:Str×Int)=>TJ (p.1,[])) (λp=>decide (p.1∈sr)) nd [] _ (λx z R y=>?_) (by show 0+nd.9<=_;omega) ?_;let#[x,n]:=x;delta VS;simp![↓Yt,jM,fJ,YB,true_or];by_cases d:x∈sr;rw[dT d]at y ⊢;simp![↓jAk,↓ur];exact#[(),(),y];rw[dF d]at y ⊢;exact y;rw[Qj];have e:(nd.filter λp=>decide (p.1∈sr)).map (λp=>TJ (p.1,[]))=(bT sr nd).map TJ:=by unfold bT;rw[Qc];rfl
 rw[e];exact k
theorem Dx(hl:h.9<=100)(k:pF Ψ q Z [bD (.tuple (es.map pr)),bD (.tuple (sr.map j0)),bD (.list (nd.map VS)),oW (.lst (h.map TJ)),oW (.lst (((h.map λr=>r.1).map j0).map T.d)),o5,o6,o7,o8]) :
  pF Ψ (.seq (.own 4 (.comp [kn,kn,kn,kn,kn,kn,kb,kn,kb] ["name","chains"] (.tp [0,1]) .val %[.var 3|1] .nop (.var 0))) q) Z [bD (.tuple (es.map pr)),bD (.tuple (sr.map j0)),bD (.list (nd.map VS)),oW (.lst (h.map TJ)),kd,o5,o6,o7,o8]:=by
 simp![↓Io];refine tB TJ (λr=>T.d (.str r.1)) h [] _ (λx z R y=>?_) (by show 0+h.9<=_;omega) ?_;delta TJ;simp![↓sy];exact y;rw[Qj,rA (λr:Rw=>j0 r.1)];have e:(h.map λr=>j0 r.1)=(h.map λr=>r.1).map j0:=by rw[Qc];rfl
 rw[e];exact k
theorem Bx(f:Ψ.sp "told_through"=JI){F:LS}{b:Bool}{x:Str}{n:Int}(a:es.9<=126)(k:sr.9<=11)(e:BK es sr)(j:h.9<=100)(i:F.9<=100)
  (w:x∈F->∀o8,Z.nx (G3 es sr nd h F b (bD (.str x)) (bD (.int n)) o8))
  (v:x∉F->¬ DL es sr x F n->∀o8,Z.nx (G3 es sr nd h F b (bD (.str x)) (bD (.int n)) o8))
  (u:x∉F->DL es sr x F n->∀cs o8,Z.nx (G3 es sr nd (h++[(x,cs)]) (F++[x]) kb (bD (.str x)) (bD (.int n)) o8)) :
  pF Ψ BC Z (G3 es sr nd h F b (bD (.str x)) (bD (.int n)) o8):=by
 delta G3 at w v u ⊢;delta BC;simp![jM,fJ,YB,true_or];by_cases d:x∈F;rw[dT d];exact w d _;rw[dF d];simp![↓sC,↓sf,↓zA (md:=[.fro,.fro,.shal]) f rfl rfl];refine#[_,_,_,_,rfl,#[a,k,e],λcs cut g=>?_];have y:=y8 (n:=n) g;simp![↓Iu,↓Fn,↓yt,QD];by_cases c:n<=(cs.9:Int);rw[dT c];simp![↓jo,↓My,↓zc,↓ur];rw[ZZ];refine#[(),(),by rw[QD,QD];omega,?_];have:=u d (y.mpr c) (SF cs kd (jr n)) (bD (.list (cs.map TD)));rw[QN,QN,QN]at this;exact this;rw[dF c];exact v d (λz=>c (y.mp z)) _
end
end
structure GI(es:EC)(sr:LS)(nd:List (Str×Int))(rs:List Rw)(F:LS):Prop where
 e:F=rs.map λr=>r.1
 ndp:F.Nodup
 held:∀x∈F,Held es sr nd x
 see:∀x n,(x,n)∈nd->x∈sr->x∈F
 non:∀r∈rs,r.1∈sr->r.2=[]
section
variable{es:EC}{sr:LS}{nd:List (Str×Int)}{u:List Rw}{F:LS}
theorem GI.len(g:GI es sr nd u F):F.9<=nd.length:=by
 have:=nR (ns:=nd.map λp=>p.1) g.ndp λs hs=>by let#[n,h]:=re (g.held s hs);exact QX.mpr #[_,h,rfl]
 rw[QD]at this;exact this
theorem GI.rlen(g:GI es sr nd u F):u.9=F.length:=by rw[g.e,QD]
theorem Xx(h:(nd.map λp=>p.1).Nodup):GI es sr nd (bT sr nd) ((bT sr nd).map λr=>r.1):=by
 have e:((bT sr nd).map λr=>r.1)=(nd.filter λp=>decide (p.1∈sr)).map λp=>p.1:=by unfold bT;rw[Qc];rfl
 refine#[rfl,?_,λx y=>?_,λx n y hs=>?_,λr z _=>?_];rw[e];exact h.sublist (qA.map _);rw[e]at y;let#[p,v,rfl]:=QX.mp y;let#[k,w]:=Qb.mp v;exact .see (n:=p.2) k (QB w);rw[e];exact QX.mpr #[(x,n),Qb.mpr #[y,dT hs],rfl];unfold bT at z;let#[p,_,rfl]:=QX.mp z;rfl
theorem GI.add(g:GI es sr nd u F){x:Str}{n:Int}(v:(x,n)∈nd)(w:x∉F)(m:DL es sr x F n)(cs:List (LS)):GI es sr nd (u++[(x,cs)]) (F++[x]):=by
 refine#[by rw[QN,<- g.e];rfl,qh.mpr #[g.ndp,Qh.mpr #[λz=>(nomatch z),Q4],λa i b hb e=>?_],λy h=>?_,λy k h hs=>Qn _ (g.see y k h hs),λr f hs=>?_];rw[QJ.mp hb]at e;exact w (e▸i);rcases Qd.mp h with z|z
 ·exact g.held y z
 rw[QJ.mp z];exact .tell F v g.held m;rcases Qd.mp f with z|z
 ·exact g.non r z hs
 rw[QJ.mp z]at hs;exact o2 (g.see x n v hs) w
end
def XI:PSp where
 run:=λu Q _=>∃(y:EC) (h:LS) (nd:List (Str×Int)),u=[.d (.tuple (y.map pr)),.d (.tuple (h.map j0)),.d (.list (nd.map VS))]/\(y.9<=126/\h.9<=11/\BK y h/\nd.9<=90/\(nd.map λp=>p.1).Nodup)/\∀z F,GI y h nd z F->(∀x,x∈F↔Held y h nd x)->Q (.lst (z.map TJ)) []
theorem K0{es:EC}{sr:LS}{nd:List (Str×Int)}{K:T->LT->Prop}{E:XE}(l:es.9<=126/\sr.9<=11/\BK es sr/\nd.9<=90/\(nd.map λp=>p.1).Nodup)(q:∀h F,GI es sr nd h F->(∀x,x∈F↔Held es sr nd x)->K (.lst (h.map TJ)) []):rL XI [.d (.tuple (es.map pr)),.d (.tuple (sr.map j0)),.d (.list (nd.map VS))] K E:=#[es,sr,nd,rfl,l,q]
section
variable{Ψ:PEv}{Z:PEnds}{es:EC}{sr:LS}{nd:List (Str×Int)}{u:List Rw}{F:LS}
theorem Ux(L:Ψ.sp "told_through"=JI)(G:es.9<=126)(E:sr.9<=11)(J:BK es sr)(O:nd.9<=90){b:Bool}{o6 o7 o8:Option Sl}(g:GI es sr nd u F)
  (k:∀v w a o6 o7 o8,GI es sr nd v w->F.9<=w.9->(a=kb->F.9<w.9)->(a=kn->∀x n,(x,n)∈nd->x∉w->¬ DL es sr x w n)->Z.nx (G3 es sr nd v w a o6 o7 o8)) :
  pF Ψ UC Z (G3 es sr nd u F b o6 o7 o8):=by
 delta G3;delta UC;simp![↓vA];rw[<- rA VS nd];refine FA (λ(p:Str×Int)=>T.d (VS p)) (λl r=>∃v w a o6 o7 o8,GI es sr nd v w/\(∀p∈l,p∈nd)/\F.9<=w.9/\(a=kb->F.9<w.9)/\(a=kn->∀x n,(x,n)∈nd->(x,n)∈l∨x∈w∨¬ DL es sr x w n)/\r=G3 es sr nd v w a o6 o7 o8) ?_ ?_ _ _ #[u,F,kn,_,_,_,g,λ_ z=>z,QZ _,λz=>(nomatch z),λ_ x n h=>.inl h,rfl];rintro r ⟨v,w,a,B,A,K,f,_,q,o,j,rfl⟩;exact k v w a _ _ _ f q o λhb x n Y i=>((j hb x n Y).resolve_left λz=>(nomatch z)).resolve_left i;rintro⟨x,n⟩ l r N W ⟨v,w,a,B,A,K,f,m,q,o,j,rfl⟩;have Y:=m _ QE;have s:∀p∈l,p∈nd:=λp I=>m p (QF _ I);have Q:=f.len;have P:=f.rlen;refine vF.mk rfl ?_;refine Bx (x:=x) (n:=n) L G E J () () (λi o8=>W _ #[v,w,a,_,_,_,f,s,q,o,λhb y k X=>?_,rfl]) (λi nm o8=>W _ #[v,w,a,_,_,_,f,s,q,o,λhb y k X=>?_,rfl]) λi C M o8=>W _ #[_,_,kb,_,_,_,f.add Y i C M,s,?_,λ_=>?_,λz=>(nomatch z),rfl];rcases j hb y k X with z|z
 ·rcases QL.mp z with e|z
  ·cases e
   exact .inr (.inl i)
  exact .inl z
 exact .inr z;rcases j hb y k X with z|z
 ·rcases QL.mp z with e|z
  ·cases e
   exact .inr (.inr nm)
  exact .inl z
 exact .inr z;rw[QI,qL];omega;rw[QI,qL];omega
end
theorem Z7{Ψ:PEv}(p:Ψ.sp "told_through"=JI):JE Ψ BG XI FG GF:=by
 rintro _ Q _ ⟨es,sr,nd,rfl,⟨i,f,l,e,o⟩,q⟩;refine uA [bD (.tuple (es.map pr)),bD (.tuple (sr.map j0)),bD (.list (nd.map VS)),kd,kd,kd,kd,kd,kd] ?_;have g0:=Xx (es:=es) (sr:=sr) o;have K:=g0.len;have W:=g0.rlen;refine Fx () (Dx () ?_);simp![↓vA];refine pI (λm u=>∃h F b o6 o7 o8,m=2 * (nd.9 - F.9)+(if b=kb then 1 else 0)/\GI es sr nd h F/\(b=kn->∀x n,(x,n)∈nd->x∉F->¬ DL es sr x F n)/\u=G3 es sr nd h F b o6 o7 o8) _ #[_,_,kb,kd,kd,kd,rfl,g0,λz=>(nomatch z),rfl] ?_;rintro m u ⟨h,F,b,o6,o7,o8,k,g,r,rfl⟩;cases b with
 |true =>
  have v:=λ(Z:PEnds) j=>Ux (Ψ:=Ψ) (Z:=Z) (b:=kb) (o6:=o6) (o7:=o7) (o8:=o8) p i f l e g j;unfold G3 at v;delta G3;simp![↓vA];refine v _ λy Y a o6 o7 o8 w A X s=>#[_,?_,y,Y,a,o6,o7,o8,rfl,w,s,rfl]
  have:=w.len;cases a with|true=>have:=X rfl;rw[k,oa rfl];omega|false=>rw[k,oa rfl,ot QG];omega
 |false=>delta G3;simp![↓vA];exact q h F g λx=>T8 g.held g.see (r rfl) x
noncomputable def dG(p:Str×Int×Int×Int):D:=.tuple [.str p.1,.int p.2.1,.int p.2.2.1,.int p.2.2.2]
inductive Evt where
 |see (t:Int) (p m w:Str)|tell (t:Int) (a b m w:Str) (by_:LS)
noncomputable def XC:Evt->D
 | .see t p m w=>.tuple [.str "see",.int t,.str p,.str m,.str w]|.tell t a b m w q=>.tuple [.str "tell",.int t,.str a,.str b,.str m,.str w,.tuple (q.map j0)]
structure Wd where
 ps:List (Str×Int×Int×Int)
 ms:LS
 ag:EC
 es:List Evt
def wD(w:Wd):D:=.tuple [.list (w.ps.map dG),.list (w.ms.map j0),.list (w.ag.map pr),.list (w.es.map XC)]
section
variable{w:Wd}{p:Str×Int×Int×Int}{n m:Bool}{R:T->Prop}
theorem RA{ds:List D}{i:Nat}{d:D}(h:ds[i]?=jr d):KA (.d (.tuple ds)) n (.d (.int (i:Int))) m R=R (.d d):=by rw[P4,show NC ds (i:Int)=jr d from xC h,OA]
theorem MZ:KA (.d (wD w)) n (.d (.int 0)) m R=R (.d (.list (w.ps.map dG))):=RA (i:=0) rfl
theorem Ta:KA (.d (wD w)) n (.d (.int 1)) m R=R (.d (.list (w.ms.map j0))):=RA (i:=1) rfl
theorem Eu:KA (.d (wD w)) n (.d (.int 2)) m R=R (.d (.list (w.ag.map pr))):=RA (i:=2) rfl
theorem US:KA (.d (wD w)) n (.d (.int 3)) m R=R (.d (.list (w.es.map XC))):=RA (i:=3) rfl
theorem DV:KA (.d (dG p)) n (.d (.int 0)) m R=R (.d (.str p.1)):=RA (i:=0) rfl
theorem gv:KA (.d (dG p)) n (.d (.int 1)) m R=R (.d (.int p.2.1)):=RA (i:=1) rfl
theorem dv:KA (.d (dG p)) n (.d (.int 2)) m R=R (.d (.int p.2.2.1)):=RA (i:=2) rfl
theorem bv:KA (.d (dG p)) n (.d (.int 3)) m R=R (.d (.int p.2.2.2)):=RA (i:=3) rfl
end
def eO(w:Wd):List (Str×Int):=w.ps.map λp=>(p.1,p.2.2.2)
def yW:PSp where
 run:=λh Q _=>∃w:Wd,h=[.d (wD w)]/\w.ps.9<=90/\Q (.lst (((eO w).map VS).map T.d)) []
theorem Gk{Ψ:PEv}:JE Ψ uI yW xO OK:=by
 rintro _ Q _ ⟨w,rfl,l,q⟩;refine uA [bD (wD w)] ?_;delta uI;simp![↓MZ];rw[<- rA dG];refine tB (λp=>T.d (dG p)) (λp=>T.d (VS (p.1,p.2.2.2))) w.ps [] _ (λx y R h=>?_) (by show 0+w.ps.9<=_;omega) ?_;simp![↓DV,↓bv];exact#[(),h];rw[Qj,rA λp:Str×Int×Int×Int=>VS (p.1,p.2.2.2)];have e:(w.ps.map λp=>VS (p.1,p.2.2.2))=(eO w).map VS:=by unfold eO;rw[Qc];rfl
 rw[e];exact q
noncomputable def YE(es:EC)(sr:LS):D:=.tuple [.tuple (sr.map j0),.tuple (es.map pr)]
section
variable{es:EC}{sr:LS}{n m:Bool}{R:T->Prop}
theorem Xv:KA (.d (YE es sr)) n (.d (.int 0)) m R=R (.d (.tuple (sr.map j0))):=RA (i:=0) rfl
theorem Vv:KA (.d (YE es sr)) n (.d (.int 1)) m R=R (.d (.tuple (es.map pr))):=RA (i:=1) rfl
end
def HL:PSp where
 run:=λz Q _=>∃(w:Wd) (y:EC) (h:LS),z=[.d (wD w),.d (YE y h)]/\(y.9<=126/\h.9<=11/\BK y h/\w.ps.9<=90/\(w.ps.map λp=>p.1).Nodup)/\∀l:LS,(∀x,x∈l↔Held y h (eO w) x)->l.9<=90->Q (.lst ((l.map j0).map T.d)) []
theorem Eo{ts:LT}{W:LT->Prop}:xK .val [(.lst ts,kb)] W=W ((ersT ts).map T.d):=bJ _
theorem Bm(r:Rw):(TJ r).er=.tuple [.str r.1,.list (ersT ((r.2.map TD).map T.d))]:=rfl
theorem yd{Ψ:PEv}(l:Ψ.sp "ground_alone"=XI)(j:Ψ.sp "needs_of"=yW):JE Ψ YF HL UJ YH:=by
 rintro _ Q _ ⟨w,m,z,rfl,⟨a,k,b,y,nd⟩,q⟩;have v:(eO w).9<=90:=by unfold eO;rw[QD];exact y
 have u:((eO w).map λp=>p.1).Nodup:=by unfold eO;rw[Qc];exact nd
 refine uA [bD (wD w),bD (YE m z)] ?_;delta YF;simp![↓Xv,↓Vv,↓zA (md:=[]) l rfl rfl,↓zA (md:=[]) j rfl rfl];refine#[_,rfl,y,?_];simp![↓vA];refine K0 #[a,k,b,v,u] λh F g i=>?_;rw[Eo];have fl:=g.len;have rl:h.9=F.length:=by rw[g.e,QD]
 rw[yS,Qc,Qc];refine#[rfl,?_];refine tB (λr=>T.d (TJ r).er) (λr=>T.d (.str r.1)) h [] _ (λx n R f=>?_) (by show 0+h.9<=_;omega) ?_;rw[Bm];simp![↓vA];exact f;rw[Qj,rA (λr:Rw=>j0 r.1)];have e:(h.map λr=>j0 r.1)=F.map j0:=by rw[g.e,Qc];rfl
 rw[e];exact q F i ()
noncomputable def XA(evs:List Evt)(n:Nat):Evt:=(evs[n]?).getD (.see 0 "" "" "")
def FC(e:Evt):Prop:=∃t a b m w q,e=.tell t a b m w q
def Jr:Evt->Str
 | .see _ _ m _=>m|.tell _ _ _ m _ _=>m
noncomputable def YJ:Evt->Str×Str
 | .see _ p m _=>(p,m)|.tell _ a b _ _ _=>(a,b)
def nD(n:Nat):D:=.int (n:Int)
theorem pQ{evs:List Evt}{i:Nat}{n m:Bool}{R:T->Prop}(h:i<evs.9):KA (.d (.list (evs.map XC))) n (.d (nD i)) m R=R (.d (XC (XA evs i))):=by delta nD;rw[Aa,show NC (evs.map XC) (i:Int)=jr (XC (XA evs i)) from xC (by rw[Qa,Qi h];unfold XA;rw[Qi h];rfl),OA]
section
variable{e:Evt}{n m:Bool}{R:T->Prop}
theorem Xf(h:FC e):KA (.d (XC e)) n (.d (.int 2)) m R=R (.d (.str (YJ e).1)):=by let#[t,a,b,x,w,q,rfl]:=h;exact RA (i:=2) rfl
theorem Vf(h:FC e):KA (.d (XC e)) n (.d (.int 3)) m R=R (.d (.str (YJ e).2)):=by let#[t,a,b,x,w,q,rfl]:=h;exact RA (i:=3) rfl
theorem Bo(h:FC e):KA (.d (XC e)) n (.d (.int 4)) m R=R (.d (.str (Jr e))):=by let#[t,a,b,x,w,q,rfl]:=h;exact RA (i:=4) rfl
end
section
variable{Ψ:PEv}{ks:List Pt}{L:Bool->Prop}
theorem Yg{ds:List D}{Q:T->Bool->Prop}:jQ .tuple [(.lst (ds.map T.d),kb)] Q=Q (.d (.tuple ds)) false:=by unfold jQ AB;show x4 .tuple [.ls ((ersT (ds.map T.d)).map T.d)] Q=_;rw[gB,gh];exact o9 #[λ#[_,e,q]=>by rw[VA]at e;cases e;exact q,λq=>#[_,VA _,q]]
def kI(evs:List Evt)(h:LN)(m:Str):EC:=(h.filter λn=>decide (Jr (XA evs n)=m)).map λn=>YJ (XA evs n)
def XQ:PSp where
 run:=λy Q _=>∃(h:List Evt) (x:LN) (m:Str),y=[.d (.list (h.map XC)),.d (.list (x.map nD)),.d (.str m)]/\x.9<=100/\(∀n∈x,n<h.9/\FC (XA h n))/\Q (.d (.tuple ((kI h x m).map pr))) []
theorem Ak:JE Ψ fI XQ gO IK:=by
 rintro _ Q _ ⟨h,y,m,rfl,l,a,q⟩;refine uA [bD (.list (h.map XC)),bD (.list (y.map nD)),bD (.str m),kd] ?_;delta fI;simp![↓vA];rw[<- rA nD];refine lA (λn=>T.d (nD n)) (λn=>T.d (XC (XA h n))) (λn=>decide (Jr (XA h n)=m)) y [] _ (λx v R u=>?_) (by show 0+y.9<=_;omega) ?_;simp![↓pQ (a x v).1,↓Bo (a x v).2];split at u;rename_i c;rw[oa c];exact u;rename_i c;rw[ot c];exact u;rw[Qj,rA λn=>XC (XA h n)];simp![↓vA];rw[<- rA λn=>XC (XA h n)];refine tB (λn=>T.d (XC (XA h n))) (λn=>T.d (pr (YJ (XA h n)))) _ [] _ (λx v R u=>?_) (by show 0+(List.filter _ y).9<=_;have:=Qx (λn=>decide (Jr (XA h n)=m)) y;omega) ?_;have z:=(Qb.mp v).1;simp![↓Xf (a x z).2,↓Vf (a x z).2];exact#[(),u];rw[Qj,rA λn=>pr (YJ (XA h n)),Yg];have e:((y.filter λn=>decide (Jr (XA h n)=m)).map λn=>pr (YJ (XA h n)))=(kI h y m).map pr:=by unfold kI;rw[Qc];rfl
 rw[e];simp![↓vA];exact q
noncomputable def HK(w:Wd)(x:Str):LJ:=(w.ps.filter λp=>decide (p.1=x)).map λp=>p.2.1
def YQ:PSp where
 run:=λh Q _=>∃(w:Wd) (x:Str) (r:Int),h=[.d (wD w),.d (.str x)]/\w.ps.9<=90/\(HK w x)[0]?=jr r/\Q (.d (.int r)) []
theorem Ec:JE Ψ oK YQ vQ HM:=by
 rintro _ Q _ ⟨w,x,r,rfl,l,a,q⟩;refine uA [bD (wD w),bD (.str x)] ?_;delta oK;simp![↓MZ];rw[<- rA dG];refine lA (λp=>T.d (dG p)) (λp=>T.d (.int p.2.1)) (λp=>decide (p.1=x)) w.ps [] _ (λp z R h=>?_) (by show 0+w.ps.9<=_;omega) ?_;simp![↓DV,↓gv];split at h;rename_i c;rw[oa c];exact h;rename_i c;rw[ot c];exact h;rw[Qj,rA λp:Str×Int×Int×Int=>j1 p.2.1];have e:((w.ps.filter λp=>decide (p.1=x)).map λp=>j1 p.2.1)=(HK w x).map j1:=by unfold HK;rw[Qc];rfl
 rw[e];have y:NC ((HK w x).map j1) 0=jr (.int r):=xC (j:=0) (by rw[Qa,a];rfl);simp![y];exact q
noncomputable def sG(w:Wd)(x:Str):LJ:=(w.ps.filter λp=>decide (p.1=x)).map λp=>p.2.2.1
def aM:PSp where
 run:=λh Q _=>∃(w:Wd) (x:Str) (r:Int),h=[.d (wD w),.d (.str x)]/\w.ps.9<=90/\(sG w x)[0]?=jr r/\Q (.d (.int r)) []
theorem i7:JE Ψ dI aM fO AK:=by
 rintro _ Q _ ⟨w,x,r,rfl,l,a,q⟩;refine uA [bD (wD w),bD (.str x)] ?_;delta dI;simp![↓MZ];rw[<- rA dG];refine lA (λp=>T.d (dG p)) (λp=>T.d (.int p.2.2.1)) (λp=>decide (p.1=x)) w.ps [] _ (λp z R h=>?_) (by show 0+w.ps.9<=_;omega) ?_;simp![↓DV,↓dv];split at h;rename_i c;rw[oa c];exact h;rename_i c;rw[ot c];exact h;rw[Qj,rA λp:Str×Int×Int×Int=>j1 p.2.2.1];have e:((w.ps.filter λp=>decide (p.1=x)).map λp=>j1 p.2.2.1)=(sG w x).map j1:=by unfold sG;rw[Qc];rfl
 rw[e];have y:NC ((sG w x).map j1) 0=jr (.int r):=xC (j:=0) (by rw[Qa,a];rfl);simp![y];exact q
noncomputable def YL(ks:List Pt):T:=.dct kb (ks.map pr) (ks.map λ_=>T.d (.bool kb))
noncomputable def pV(ks:List Pt)(p:Pt):List Pt:=if p∈ks then ks else ks++[p]
theorem oV(ks:List Pt)(p:Pt):(pV ks p).9<=ks.9+1:=by unfold pV;split;omega;simp
theorem fP{α h:Type}(c:h):∀(l:List α) (n:Nat),(l.map λ_=>c).set n c=l.map λ_=>c
 |[],_=>rfl|_::_,0=>rfl|x::l,n+1=>by show c::(l.map λ_=>c).set n c=_;rw[fP c l n];rfl
theorem Nf{p:Pt}{Q:T->Prop}(hl:ks.9<ku)(q:Q (YL (pV ks p))):Pf (YL ks) (.d (pr p)) (.d (.bool kb)) Q:=by
 refine#[IB p,by rw[QD];exact hl,?_];show Q (EJ kb (ks.map pr) (ks.map λ_=>T.d (.bool kb)) (pr p) (.d (.bool kb)));unfold pV at q;unfold EJ;by_cases c:p∈ks;rw[oa c]at q;cases e:dA (ks.map pr) (pr p) with|none=>exact o2 (SQ.mpr c) (zB.mp e)|some n=>show Q (.dct kb (ks.map pr) ((ks.map λ_=>T.d (.bool kb)).set n (.d (.bool kb))));rw[fP];exact q
 rw[ot c]at q;rw[zB.mpr λz=>c (SQ.mp z)];unfold YL at q;rw[QN,QN]at q;exact q
theorem Es{q:Pt}:PB .In (.d (pr q)) (YL ks) L=L (decide (q∈ks)):=by unfold YL;rw[G9,gJ];exact o9 #[λh=>h.2,λh=>#[IB q,h]]
theorem vn{q:Pt}:PB .NotIn (.d (pr q)) (YL ks) L=L (!decide (q∈ks)):=by unfold YL;rw[PN,gJ];exact o9 #[λh=>h.2,λh=>#[IB q,h]]
def kG(evs:List Evt)(ks:List Pt)(n:Nat):List Pt:=match XA evs n with
 | .see _ p m _=>pV ks (p,m)|_=>ks
def GB(evs:List Evt)(l:LN):List Pt:=l.foldl (kG evs) []
noncomputable def X4:Evt->Str
 | .see _ _ _ _=>"see"|.tell _ _ _ _ _ _=>"tell"
end
section
variable{e:Evt}{n m:Bool}{R:T->Prop}{t:Int}{p h w:Str}
theorem nQ:KA (.d (XC e)) n (.d (.int 0)) m R=R (.d (.str (X4 e))):=by cases e;exact RA (i:=0) rfl;exact RA (i:=0) rfl
theorem Co:KA (.d (XC (.see t p h w))) n (.d (.int 2)) m R=R (.d (.str p)):=RA (i:=2) rfl
theorem Uf:KA (.d (XC (.see t p h w))) n (.d (.int 3)) m R=R (.d (.str h)):=RA (i:=3) rfl
end
section
variable{Ψ:PEv}{ks z:List Pt}{a b:Str}{L:Bool->Prop}{ns:LJ}
theorem pG{c a b:Prop}[Decidable c](h:¬ c)(q:b):if c then a else b:=by rw[ot h];exact q
def kw(evs:List Evt)(l:LN)(ks:List Pt)(o3:Option Sl):kA:=[bD (.list (evs.map XC)),jr (.bor (.lst (l.map λn=>T.d (nD n)))),oW (YL ks),o3]
def FL:PSp where
 md:=[.fro,.shal]
 run:=λx Q _=>∃(h:List Evt) (l:LN),x=[.d (.list (h.map XC)),.lst ((l.map nD).map T.d)]/\l.9<=100/\(∀n∈l,n<h.9)/\Q (YL (GB h l)) []
theorem Ac:JE Ψ nF FL VJ iH:=by
 rintro _ Q _ ⟨h,l,rfl,hl,j,q⟩;refine uA [bD (.list (h.map XC)),jr (.bor (.lst ((l.map nD).map T.d))),kd,kd] ?_;delta nF;simp![↓vA];rw[<- rA nD];refine FA (λn=>T.d (nD n)) (λr y=>∃ks u,r.foldl (kG h) ks=GB h l/\ks.9+r.9<=100/\(∀n∈r,n<h.9)/\y=kw h l ks u) ?_ ?_ l _ #[[],kd,rfl,by simpa using hl,j,rfl];rintro y ⟨ks,u,e,_,_,rfl⟩;have e:ks=GB h l:=e;subst e;delta kw;simp![↓vA];exact q;rintro n r y N i ⟨ks,u,e,hk,k,rfl⟩;have g:ks.9+(r.9+1)<=100:=hk;have f:=k n QE;delta kw;delta JG;simp![↓pQ f,↓nQ];have e:r.foldl (kG h) (kG h ks n)=GB h l:=e;unfold kG at e;cases ev:XA h n with|see t p m w=>rw[ev]at e;simp![X4,↓Co,↓Uf];rw[pQ f,ev];simp![↓Uf];exact#[(),Nf (p:=(p,m)) () (i _ #[pV ks (p,m),_,e,by have:=oV ks (p,m);omega,λx v=>k x (QF _ v),rfl])]|tell t a b m w o=>rw[ev]at e;refine pG (show decide ((QY "tell")=(QY "see"))≠kb by decide) ?_;exact i _ #[ks,_,e,(),λx v=>k x (QF _ v),rfl]
theorem NX:PB .In (.d (.tuple [.str a,.str b])) (YL ks) L=L (decide ((a,b)∈ks)):=Es (q:=(a,b))
theorem UZ:PB .NotIn (.d (.tuple [.str a,.str b])) (YL ks) L=L (!decide ((a,b)∈ks)):=vn (q:=(a,b))
noncomputable def NH(w:Wd)(ks:List Pt)(m:Str):LS:=(w.ps.filter λp=>decide ((p.1,m)∈ks)).map λp=>p.1
def JQ:PSp where
 md:=[.fro,.bor]
 run:=λh Q _=>∃(w:Wd) (ks:List Pt) (m:Str),h=[.d (wD w),YL ks,.d (.str m)]/\w.ps.9<=90/\Q (.d (.tuple ((NH w ks m).map j0))) []
theorem Ck:JE Ψ xI JQ kO LK:=by
 rintro _ Q _ ⟨w,ks,m,rfl,l,q⟩;refine uA [bD (wD w),jr (.bor (YL ks)),bD (.str m)] ?_;delta xI;simp![↓MZ];rw[<- rA dG];refine lA (λp=>T.d (dG p)) (λp=>T.d (.str p.1)) (λp=>decide ((p.1,m)∈ks)) w.ps [] _ (λp x R h=>?_) (by show 0+w.ps.9<=_;omega) ?_;simp![↓DV,↓NX];refine#[(),?_];split at h;rename_i c;rw[oa c];exact h;rename_i c;rw[ot c];exact h;rw[Qj,rA λp:Str×Int×Int×Int=>j0 p.1,Yg];have e:((w.ps.filter λp=>decide ((p.1,m)∈ks)).map λp=>j0 p.1)=(NH w ks m).map j0:=by unfold NH;rw[Qc];rfl
 rw[e];simp![↓vA];exact q
theorem Vt{E:XE}{ρ:kA}{a c h:PX}{t u:Str}{x y:D}{w:bb}{R:Option T->Prop}:eG Ψ E [] [t,u] (.tp [0,1]) (.cmp w a c) h ρ (.d (.tuple [x,y])) R=yN Ψ (.cmp w a c) E (bD x::bD y::lockA ρ) λk v=>if k=kb then jB Ψ h E v λy n _=>rC y n (R (jr y)) else R none:=OA
theorem jZ:∀{l:List D},(∀x∈l,x.canLay0=kb/\x.depth<=1)->q0 l=kb/\wk l<=1
 |[],_=>by simp[q0,wk]|x::l,h=>by let#[w,e]:=h x QE;let#[u,k]:=jZ (l:=l) λy v=>h y (QF _ v);simp only[q0,wk,w,u,Bool.and_self,true_and];omega
theorem Mk{l:List D}(h:∀x∈l,x.canLay0=kb/\x.depth<=1):AE (.list l):=by let#[y,u]:=jZ h;refine#[?_,?_];simp only[QAc];exact y;simp only[QBL];omega
noncomputable def aL(w:Wd)(m:Str):LS:=(w.ag.filter λp=>decide (p.1=m)).map λp=>p.2
noncomputable def tL(w:Wd)(m:Str):LS:=(w.ag.filter λp=>decide (p.2=m)).map λp=>p.1
def OkS(a:Str):Prop:=qi a=kb
def An(h:T)(f:Pt->Bool):Prop:=∀a b (L:Bool->Prop),OkS a->OkS b->L (f (a,b))->PB .In (.d (.tuple [.str a,.str b])) h L
theorem Nr(ks:List Pt):An (YL ks) λq=>decide (q∈ks):=λa b L _ _ h=>by rw[NX];exact h
theorem Dk(h:∀p∈z,OkS p.1/\OkS p.2):AE (.list (z.map pr)):=Mk λx u=>by let#[p,y,rfl]:=QX.mp u;have q:=zD (h p y).1 (h p y).2;exact#[q.1,by simp[pr,QBL,wk]]
theorem M8(h:∀p∈z,OkS p.1/\OkS p.2):An (.d (.list (z.map pr))) λq=>decide (q∈z):=λa b L u hb q=>by
 refine#[.inr #[zD u hb,Dk h],?_];have e:((z.map pr).any λy=>Qp y (.tuple [.str a,.str b]))=decide ((a,b)∈z):=by rw[QBP,Q8,w4,Qe];constructor;rintro⟨p,x,e⟩;have e:Qp (pr p) (pr (a,b))=true:=e;rw[zS,Qe]at e;exact e▸x;intro x;refine#[(a,b),x,?_];show Qp (pr (a,b)) (pr (a,b))=kb;rw[zS];exact dT rfl
 show L ((z.map pr).any λy=>Qp y (.tuple [.str a,.str b]));rw[e];exact q
def BQ:PSp where
 md:=[.fro,.bor]
 run:=λy Q _=>∃(w:Wd) (h:T) (f:Pt->Bool) (x m:Str),y=[.d (wD w),h,.d (.str x),.d (.str m)]/\(An h f/\OkS x/\∀p∈w.ag,OkS p.1/\OkS p.2)/\w.ag.9<=100/\Q (.d (.bool ((aL w m++tL w m).any λr=>f (x,r)))) []
theorem xl:JE Ψ iE BQ FH cG:=by
 rintro _ Q _ ⟨w,v,f,x,m,rfl,⟨i,k,u⟩,l,q⟩;have Y:=Qx (λp:Str×Str=>decide (p.1=m)) w.ag;have X:=Qx (λp:Str×Str=>decide (p.2=m)) w.ag;have s:(aL w m).9<=100:=by unfold aL;rw[QD];omega
 have o:(tL w m).9<=100:=by unfold tL;rw[QD];omega
 refine uA [bD (wD w),jr (.bor v),bD (.str x),bD (.str m),kd] ?_;delta iE;simp![↓Eu];rw[<- rA pr w.ag];refine lA (λp=>T.d (pr p)) (λ(p:Str×Str)=>T.d (.str p.2)) (λp=>decide (p.1=m)) w.ag [] _ (λp e R y=>?_) (by show 0+w.ag.9<=_;omega) ?_;delta pr;simp![↓Vt];split at y;rename_i c;rw[oa c];exact y;rename_i c;rw[ot c];exact y;rw[Qj,rA λp:Str×Str=>j0 p.2];have n:((w.ag.filter λp=>decide (p.1=m)).map λp=>j0 p.2)=(aL w m).map j0:=by unfold aL;rw[Qc];rfl
 rw[n];refine lA (λp=>T.d (pr p)) (λ(p:Str×Str)=>T.d (.str p.1)) (λp=>decide (p.2=m)) w.ag [] _ (λp e R y=>?_) (by show 0+w.ag.9<=_;omega) ?_;delta pr;simp![↓Vt];split at y;rename_i c;rw[oa c];exact y;rename_i c;rw[ot c];exact y;rw[Qj,rA λp:Str×Str=>j0 p.1];have j:((w.ag.filter λp=>decide (p.2=m)).map λp=>j0 p.1)=(tL w m).map j0:=by unfold tL;rw[Qc];rfl
 rw[j,<- QN,<- QN];refine#[by rw[QD,QD,QD,QD];omega,?_];simp![↓vA];rw[<- rA j0];refine tB (λr=>T.d (.str r)) (λr=>T.d (.bool (f (x,r)))) (aL w m++tL w m) [] _ (λr e R y=>?_) (by show 0+(aL w m++tL w m).9<=_;rw[QI];omega) ?_;simp![↓vA];refine#[(),i _ _ _ k ?_ y];rcases Qd.mp e with h|h;let#[p,g,rfl]:=QX.mp h;exact(u p (Qb.mp g).1).2;let#[p,g,rfl]:=QX.mp h;exact(u p (Qb.mp g).1).1;rw[Qj,rA λr=>PyData.bool (f (x,r)),Aq];refine#[(aL w m++tL w m).map λr=>f (x,r),by rw[Qc];rfl,?_];rw[QBP];simp![↓vA];exact q
theorem Pq{n:Bool}{Q:T->Bool->Prop}(x:ns.9<64)(q:∀h:LJ,h.Perm ns->h.Pairwise (·<=·)->Q (.lst ((h.map j1).map T.d)) kb):jQ .sorted [(.lst ((ns.map j1).map T.d),n)] Q:=by unfold jQ AB;rw[YD];exact .inr (.inr #[_,ns,rfl,VA _,x,q])
theorem Hd{l:LN}(h:ns.Perm (l.map λ(n:Nat)=>(n:Int)))(u:ns.Pairwise (·<=·)):∃y:LN,ns=y.map (λ(n:Nat)=>(n:Int))/\y.Perm l/\y.Pairwise (·<=·):=by
 have e:ns=(ns.map QCr).map λ(n:Nat)=>(n:Int):=by rw[Qc];refine(QCp ns).symm.trans (wQ λx v=>?_);let#[n,_,rfl]:=QX.mp (h.mem_iff.mp v);rfl
 refine#[ns.map QCr,e,?_,?_];have:=h.map QCr;rw[Qc]at this;refine this.trans (QCx.of_eq ?_);exact(wQ λn _=>rfl).trans (QCp l);rw[e]at u;exact(QCN.mp u).imp λh=>()
def PF(evs:List Evt)(h:LN)(ks:List Pt):LN:=h.filter λn=>!decide (((YJ (XA evs n)).1,(YJ (XA evs n)).2)∈ks)
def OG:PSp where
 md:=[.fro,.shal,.bor]
 run:=λu Q _=>∃(h:List Evt) (x:LN) (ks:List Pt),u=[.d (.list (h.map XC)),.lst ((x.map nD).map T.d),YL ks]/\x.9<64/\(∀n∈x,n<h.9/\FC (XA h n))/\∀y:LN,y.Perm (PF h x ks)->y.Pairwise (·<=·)->Q (.lst ((y.map nD).map T.d)) []
theorem Ic:JE Ψ sF OG XJ JH:=by
 rintro _ Q _ ⟨h,x,ks,rfl,l,a,q⟩;refine uA [bD (.list (h.map XC)),jr (.bor (.lst ((x.map nD).map T.d))),jr (.bor (YL ks))] ?_;delta sF;simp![↓vA];rw[<- rA nD];refine lA (λn=>T.d (nD n)) (λn=>T.d (nD n)) (λn=>!decide (((YJ (XA h n)).1,(YJ (XA h n)).2)∈ks)) x [] _ (λn u R v=>?_) (by show 0+x.9<=_;omega) ?_;simp![↓pQ (a n u).1,↓Xf (a n u).2,↓Vf (a n u).2,↓UZ];refine#[(),?_];split at v;rename_i c;rw[oa c];exact v;rename_i c;rw[ot c];exact v;rw[Qj,rA nD];have e:(PF h x ks).map nD=((PF h x ks).map λ(n:Nat)=>(n:Int)).map j1:=by rw[Qc];rfl
 have fl:=Qx (λn=>!decide (((YJ (XA h n)).1,(YJ (XA h n)).2)∈ks)) x;show jQ .sorted [(.lst (((PF h x ks).map nD).map T.d),kb)] _;rw[e];refine Pq (by rw[QD];unfold PF;omega) λf k w=>?_;let#[y,rfl,i,g]:=Hd k w;have j:(y.map λ(n:Nat)=>(n:Int)).map j1=y.map nD:=by rw[Qc];rfl
 rw[j];simp![↓vA];exact q y i g
def T4(w:Wd)(h:List Pt)(b m:Str):Bool:=!decide ((b,m)∈h)&&(aL w m++tL w m).any λr=>decide ((b,r)∈h)
def vM(w:Wd)(h ks:List Pt)(n:Nat):List Pt:=match XA w.es n with
 | .tell _ a b m _ _=>if T4 w h b m=kb then pV ks (a,b) else ks|_=>ks
def xM(w:Wd)(l:LN):List Pt:=l.foldl (vM w (GB w.es l)) []
def G4(w:Wd)(x:Str):Prop:=∃p∈w.ps,p.1=x
def Xa(w:Wd):Evt->Prop
 | .see _ p m h=>G4 w p/\m∈w.ms/\OkS h|.tell _ a b m h q=>G4 w a/\G4 w b/\m∈w.ms/\a≠b/\OkS h/\∀x∈q,G4 w x
structure WOk(w:Wd):Prop where
 ag:∀p∈w.ag,OkS p.1/\OkS p.2
 al:w.ag.9<=100
 pl:w.ps.9<=11
 pn:(w.ps.map λp=>p.1).Nodup
 po:∀p∈w.ps,OkS p.1
 ml:w.ms.9<=10
 mo:∀m∈w.ms,OkS m
 mn:w.ms.Nodup
 el:w.es.9<=60
 eo:∀e∈w.es,Xa w e
theorem WOk.ev{w:Wd}(h:WOk w){n:Nat}(x:n<w.es.9):Xa w (XA w.es n):=by unfold XA;rw[Qi x];exact h.eo _ (WR x)
theorem WOk.nm{w:Wd}(h:WOk w){x:Str}(y:G4 w x):OkS x:=by let#[p,u,rfl]:=y;exact h.po p u
end
section
variable{Ψ:PEv}{E:XE}{ρ:kA}{M:List (T×Bool)->kA->Prop}{a z:PX}{md:List Md}{d:D}{n m:Bool}{xs:List (T×Bool)}{C:LT->Prop}{R:T->Prop}{t:Int}{x b h y:Str}{q:LS}
theorem ju{ks:List Pt}:Ga (YL ks) kn Ψ z E md ρ M=zN Ψ z E md (lockA ρ) λxs _=>M xs ρ:=rfl
theorem O4:KA (.d (XC (.tell t x b h y q))) n (.d (.int 2)) m R=R (.d (.str x)):=RA (i:=2) rfl
theorem CS:KA (.d (XC (.tell t x b h y q))) n (.d (.int 3)) m R=R (.d (.str b)):=RA (i:=3) rfl
theorem BS:KA (.d (XC (.tell t x b h y q))) n (.d (.int 4)) m R=R (.d (.str h)):=RA (i:=4) rfl
end
section
variable{Ψ:PEv}{x:Str}{es:List Pt}{sr:LS}{u:Kn}
def Cv(w:Wd)(l:LN)(ks:List Pt)(o4 o5:Option Sl):kA:=[bD (wD w),jr (.bor (.lst (l.map λn=>T.d (nD n)))),oW (YL (GB w.es l)),oW (YL ks),o4,o5]
def IF:PSp where
 md:=[.fro,.shal]
 run:=λh Q _=>∃(w:Wd) (l:LN),h=[.d (wD w),.lst ((l.map nD).map T.d)]/\WOk w/\l.9<=100/\(∀n∈l,n<w.es.9)/\Q (YL (xM w l)) []
theorem c7(K:Ψ.sp "seen_among"=FL)(W:Ψ.sp "has_against"=BQ):JE Ψ pE IF BH xG:=by
 rintro _ Q _ ⟨w,l,rfl,k,hl,X,q⟩;refine uA [bD (wD w),jr (.bor (.lst ((l.map nD).map T.d))),kd,kd,kd,kd] ?_;delta pE;simp![↓US,↓zA (md:=[.fro,.shal]) K rfl rfl,↓sC,↓sf];refine#[_,_,rfl,hl,X,?_];simp![↓vA];rw[<- rA nD];refine FA (λn=>T.d (nD n)) (λr i=>∃h o j,r.foldl (vM w (GB w.es l)) h=xM w l/\h.9+r.9<=100/\(∀n∈r,n<w.es.9)/\i=Cv w l h o j) ?_ ?_ l _ #[[],kd,kd,rfl,by simpa using hl,X,rfl];rintro i ⟨h,o,j,e,_,_,rfl⟩;have e:h=xM w l:=e;subst e;delta Cv;simp![↓vA];exact q;rintro n r i N f ⟨h,o,j,e,hk,z,rfl⟩;have Y:h.9+(r.9+1)<=100:=hk;have s:=z n QE;have v:=k.ev s;have e:r.foldl (vM w (GB w.es l)) (vM w (GB w.es l) h n)=xM w l:=e;unfold vM at e;delta Cv;delta LF;simp![↓US,↓pQ s,↓nQ];cases ev:XA w.es n with|see t p m Z=>rw[ev]at e;refine pG (show decide ((QY "see")=(QY "tell"))≠kb by decide) ?_;exact f _ #[h,_,_,e,(),λx y=>z x (QF _ y),rfl]|tell t a b m Z A=>rw[ev]at e v;let#[B,hb,hm,_]:=v;simp![X4,↓O4,↓CS,↓BS,↓UZ,↓zA (md:=[.fro,.bor]) W rfl rfl,↓sC,↓sf,↓ju];refine#[(),?_];unfold T4 at e;by_cases c:(b,m)∈GB w.es l;simp![dT c];simp only[dT c,QAB,QAX,Qu,if_false]at e;exact f _ #[h,_,_,e,(),λx y=>z x (QF _ y),rfl];simp![dF c];refine#[_,_,_,_,_,rfl,#[Nr _,k.nm hb,k.ag],k.al,?_];simp![↓vA];by_cases g:((aL w m++tL w m).any λr=>decide ((b,r)∈GB w.es l))=kb;simp![g];simp only[dF c,g,WL,WW,if_true]at e;exact#[(),Nf (p:=(a,b)) () (f _ #[pV h (a,b),_,_,e,by have:=oV h (a,b);omega,λx y=>z x (QF _ y),rfl])];rw[ot g];simp only[dF c,WL,WW]at e;rw[ot g]at e;exact f _ #[h,_,_,e,(),λx y=>z x (QF _ y),rfl]
theorem Dd{hs:List Pt}(h:∀p∈hs,OkS p.1/\OkS p.2){a b:Str}{L:Bool->Prop}(y:OkS a)(hb:OkS b)(q:L (!decide ((a,b)∈hs))):PB .NotIn (.d (.tuple [.str a,.str b])) (.d (.list (hs.map pr))) L:=M8 h a b (λc=>L (!c)) y hb q
def mT(w:Wd)(x:Str):Int:=((HK w x)[0]?).getD 0
def VN(w:Wd)(x:Str):Int:=((sG w x)[0]?).getD 0
theorem Ab{w:Wd}(h:G4 w x):(HK w x)[0]?=jr (mT w x):=by
 let#[p,y,rfl]:=h;have hm:p.2.1∈HK w p.1:=QX.mpr #[p,Qb.mpr #[y,dT rfl],rfl];unfold mT;cases e:HK w p.1 with|nil=>rw[e]at hm;cases hm|cons x r=>rfl
theorem v9{w:Wd}(h:G4 w x):(sG w x)[0]?=jr (VN w x):=by
 let#[p,y,rfl]:=h;have hm:p.2.2.1∈sG w p.1:=QX.mpr #[p,Qb.mpr #[y,dT rfl],rfl];unfold VN;cases e:sG w p.1 with|nil=>rw[e]at hm;cases hm|cons x r=>rfl
def Gv(w:Wd)(wr hs:List Pt):Evt->Bool
 | .see _ _ _ _=>kb|.tell _ a b m _ _=>decide ((a,m)∈hs)&&!decide ((a,b)∈wr)&&decide (VN w b<=mT w a)&&!((aL w m++tL w m).any λr=>decide ((b,r)∈hs))
def Jf(hs:List Pt):Prop:=∀p∈hs,OkS p.1/\OkS p.2
def pY:PSp where
 md:=[.fro,.fro,.bor,.fro]
 run:=λy Q _=>∃(w:Wd) (e:Evt) (h hs:List Pt),y=[.d (wD w),.d (XC e),YL h,.d (.list (hs.map pr))]/\WOk w/\Xa w e/\Jf hs/\Q (.d (.bool (Gv w h hs e))) []
theorem Fq(s:Ψ.sp "rank_of"=YQ)(o:Ψ.sp "floor_of"=aM)(n:Ψ.sp "has_against"=BQ):JE Ψ JF pY dO SK:=by
 rintro _ Q _ ⟨w,e,k,hs,rfl,h,l,g,q⟩;refine uA [bD (wD w),bD (XC e),jr (.bor (YL k)),bD (.list (hs.map pr)),kd,kd,kd] ?_;cases e with|see t p m j=>delta JF;simp![↓nQ,X4];exact q|tell t a b m j X=>let#[i,hb,hm,_]:=l;delta JF;simp![↓nQ,X4];refine pG (show decide ((QY "tell")=(QY "see"))≠kb by decide) ?_;simp![↓O4,↓CS,↓BS,↓Bt];refine#[(),Dd g (h.nm i) (h.mo _ hm) ?_];have q:Q (.d (.bool (decide ((a,m)∈hs)&&!decide ((a,b)∈k)&&decide (VN w b<=mT w a)&&!((aL w m++tL w m).any λr=>decide ((b,r)∈hs))))) []:=q;by_cases v:(a,m)∈hs;simp![dT v,↓NX];rw[dT v]at q;refine#[(),?_];by_cases z:(a,b)∈k;simp![dT z];rw[dT z]at q;exact q;simp![dF z,↓zA (md:=[]) s rfl rfl,↓zA (md:=[]) o rfl rfl];rw[dF z]at q;have f:w.ps.9<=90:=QS h.pl (by decide);refine#[_,_,_,rfl,f,(Ab i),?_];simp![↓vA];refine#[_,_,_,rfl,f,(v9 hb),?_];simp![↓yt];by_cases y:VN w b<=mT w a;simp![dT y,↓zA (md:=[.fro,.bor]) n rfl rfl,↓sC,↓sf];rw[dT y]at q;refine#[_,_,_,_,_,rfl,#[M8 g,h.nm hb,h.ag],h.al,?_];simp![↓vA];exact q;simp![dF y];rw[dF y]at q;exact q;simp![dF v];rw[dF v]at q;exact q
noncomputable abbrev Kn:=List ((List Pt×LS)×LS)
def T2(u:Kn):List D:=u.map λx=>YE x.1.1 x.1.2
def Il(u:Kn):LT:=u.map λx=>T.d (.list (x.2.map j0))
def V4(u:Kn):T:=.dct kb (T2 u) (Il u)
def mO(w:Wd)(u:Kn):Prop:=∀x∈u,∀y,y∈x.2↔Held x.1.1 x.1.2 (eO w) y
theorem Ff:∀l:LS,tDs (l.map NK.s)=l.map j0
 |[]=>rfl|x::l=>by show j0 x::tDs (l.map NK.s)=_;rw[Ff l];rfl
theorem Gf:∀l:List Pt,tDs (l.map λp=>NK.t [.s p.1,.s p.2])=l.map pr
 |[]=>rfl|x::l=>by show pr x::tDs (l.map λp=>NK.t [.s p.1,.s p.2])=_;rw[Gf l];rfl
theorem Lq:∀l:LS,nkds (l.map NK.s)=0
 |[]=>rfl|x::l=>by show max 0 (nkds (l.map NK.s))=0;rw[Lq l];rfl
theorem Mq:∀l:List Pt,nkds (l.map λp=>NK.t [.s p.1,.s p.2])<=1
 |[]=>Qs _|x::l=>by show max 1 (nkds (l.map λp=>NK.t [.s p.1,.s p.2]))<=1;have:=Mq l;omega
theorem XR(es:List Pt)(sr:LS):SD kb (YE es sr):=by refine#[[.t (sr.map NK.s),.t (es.map λp=>NK.t [.s p.1,.s p.2])],?_,?_];show _=PyData.tuple [.tuple (tDs (sr.map NK.s)),.tuple (tDs (es.map λp=>NK.t [.s p.1,.s p.2]))];rw[Ff,Gf];rfl;show max (nkds (sr.map NK.s)+1) (max (nkds (es.map λp=>NK.t [.s p.1,.s p.2])+1) 0)+1<=6;rw[Lq];have:=Mq es;omega
theorem yb{v:List Pt}{z:LS}(h:YE es sr=YE v z):es=v/\sr=z:=by injection h with h;injection h with h1 h2;injection h2 with h2 _;injection h1 with h1;injection h2 with h2;refine#[(Wh λx y e=>?_).mp h2,(Wh λx y e=>?_).mp h1];injection e with e;injection e with e1 e2;injection e2 with e2 _;injection e1 with e1;injection e2 with e2;exact QCh e1 e2;injection e
theorem El{v:LS}{Q:T->Prop}(hl:u.9<ku)(h:dA (T2 u) (YE es sr)=kd)(q:Q (V4 (u++[((es,sr),v)]))):Pf (V4 u) (.d (YE es sr)) (.lst ((v.map j0).map T.d)) Q:=by refine#[XR es sr,by unfold T2;rw[QD];exact hl,?_];show Q (EJ kb (T2 u) (Il u) (YE es sr) (.d (.list (ersT ((v.map j0).map T.d)))));unfold EJ;rw[h,gB];unfold V4 T2 Il at q;rw[QN,QN]at q;exact q
theorem Dg{k:Nat}(h:dA (T2 u) (YE es sr)=jr k):∃v,((es,sr),v)∈u/\(Il u)[k]?=jr (T.d (.list (v.map j0))):=by
 have e:=TC h;unfold T2 at e;unfold Il;rw[Qa]at e ⊢;cases z:u[k]? with|none=>rw[z]at e;cases e|some x=>rw[z]at e;let#[w,y]:=yb (Ql e);let#[#[a,b],v]:=x;cases w;cases y;exact#[v,qa z,rfl]
end
section
variable{Ψ:PEv}{E:XE}{ρ:kA}{K:TK}{M:List (T×Bool)->kA->Prop}{a b c i g:PX}{md:List Md}{m:Bool}{f:Kn}{es:List Pt}{sr:LS}{L:Bool->Prop}{R:T->Prop}
section
variable{u:List (Str×LS)}{w:Str}
theorem Ie:PB .NotIn (.d (.tuple [.tuple (sr.map j0),.tuple (es.map pr)])) (V4 f) L=L (!(dA (T2 f) (YE es sr)).isSome):=by unfold V4;rw[PN];exact o9 #[λh=>h.2,λh=>#[XR es sr,h]]
theorem Kv{v:LS}{k:Nat}(h:dA (T2 f) (YE es sr)=jr k)(hv:(Il f)[k]?=jr (T.d (.list (v.map j0))))(q:R (.d (.list (v.map j0)))):KA (V4 f) kn (.d (.tuple [.tuple (sr.map j0),.tuple (es.map pr)])) m R:=.inr #[kb,_,_,k,_,rfl,XR es sr,h,hv,q]
theorem jAi:Z4 (V4 f) kn Ψ b E ρ K=jB Ψ b E (lockA ρ) λy m _=>K y m ρ:=rfl
noncomputable def V3(u:List (Str×LS)):T:=.dct kn (u.map λx=>.str x.1) (u.map λx=>T.d (.list (x.2.map j0)))
theorem Js{v:LS}{Q:T->Prop}(hl:u.9<ku)(h:w∉u.map λx=>x.1)(q:Q (V3 (u++[(w,v)]))):Pf (V3 u) (.d (.str w)) (.d (.list (v.map j0))) Q:=by refine#[#[w,rfl],by rw[QD];exact hl,?_];show Q (EJ kn (u.map λx=>.str x.1) (u.map λx=>T.d (.list (x.2.map j0))) (.str w) (.d (.list (v.map j0))));unfold EJ;rw[zB.mpr λz=>h (by let#[x,y,e]:=QX.mp z;injection e with e;exact QX.mpr #[x,y,e])];unfold V3 at q;rw[QN,QN]at q;exact q
theorem Ys(h:w∈u.map λx=>x.1)(q:∀v,(w,v)∈u->R (.d (.list (v.map j0)))):KA (V3 u) kn (.d (.str w)) m R:=by
 cases e:dA (u.map λx=>j0 x.1) (.str w) with
 |none=>let#[x,l,j]:=QX.mp h;exact o2 (QX.mpr #[x,l,QP j0 j]) (zB.mp e)|some k =>
  have j:=TC e;rw[Qa]at j;cases z:u[k]? with|none=>rw[z]at j;cases j|some x=>rw[z]at j;have j:j0 x.1=.str w:=Ql j;injection j with j;let#[y,v]:=x;cases j;exact .inr #[kn,_,_,k,T.d (.list (v.map j0)),rfl,#[_,rfl],e,by rw[Qa,z];rfl,q v (qa z)]
theorem jAj:Z4 (V3 u) kn Ψ b E ρ K=jB Ψ b E (lockA ρ) λy m _=>K y m ρ:=rfl
theorem oy{v:Bool}{mk:List Bool}{t:Str}{x:T}{z:bb}{R:Option T->Prop}:eG Ψ E (v::mk) [t] (.nm 0) (.cmp z a c) g ρ x R=yN Ψ (.cmp z a c) E (jr (.bor x)::nC (v::mk) (lockA ρ)) λk h=>if k=kb then jB Ψ g E h λy n _=>rC y n (R (jr y)) else R none:=rfl
end
end
theorem GR{c a b:Prop}[Decidable c](h:c)(q:a):if c then a else b:=by rw[oa h];exact q
def tV(w:Wd)(l h:LN)(m x:Str):Prop:=Held (kI w.es h m) (NH w (GB w.es l) m) (eO w) x
open Classical in
def Jo(w:Wd)(l h:LN)(x m:Str):Bool:=decide (tV w l h m x)
open Classical in
section
variable{Ψ:PEv}{Z:PEnds}{w:Wd}{l u:LN}{f:Kn}{g:List (Str×LS)}{m:Str}{o8 i o7:Option Sl}
theorem se(w:Wd)(l u:LN)(x m:Str):Jo w l u x m=kb↔tV w l u m x:=by unfold Jo;exact Qe
noncomputable def Mg(w:Wd)(l u:LN)(x:Str):List Pt:=(w.ms.filter (Jo w l u x)).map λm=>(x,m)
def YN(w:Wd)(l u:LN):List Pt:=w.ps.flatMap λp=>Mg w l u p.1
def kY(w:Wd)(u:LN):Prop:=u.9<=100/\∀n∈u,n<w.es.9/\FC (XA w.es n)
def lz(Q:T->LT->Prop):PEnds:={ nx:=λh=>rW (BA [3] h) (Q (.d .none)),rt:=λt h=>rW (BA [3] h) (Q t) }
def B3(w:Wd)(l u:LN)(f:Kn)(g:List (Str×LS))(o6 o7 o8 i:Option Sl):kA:=[bD (wD w),jr (.bor (.lst ((l.map nD).map T.d))),bD (.list (u.map nD)),oW (V4 f),oW (YL (GB w.es l)),oW (V3 g),o6,o7,o8,i]
def ub(w:Wd)(l u:LN)(m:Str):T:=.d (YE (kI w.es u m) (NH w (GB w.es l) m))
theorem Lg{k:Nat}{v:LS}(hl:g.9<ku)(hm:m∉g.map λx=>x.1)(h:dA (T2 f) (YE (kI w.es u m) (NH w (GB w.es l) m))=jr k)(hv:(Il f)[k]?=jr (T.d (.list (v.map j0))))(q:Z.nx (B3 w l u f (g++[(m,v)]) (bD (.str m)) (jr (.bor (ub w l u m))) o8 i)):pF Ψ jD Z (B3 w l u f g (bD (.str m)) (jr (.bor (ub w l u m))) o8 i):=by delta B3 ub YE;delta jD;simp![↓jAi];refine Kv h hv ?_;simp![↓vA];exact Js hl hm q
theorem xj(w:Wd)(ks:List Pt)(m:Str):(NH w ks m).9<=w.ps.length:=by unfold NH;rw[QD];exact Qx _ _
theorem Gm(evs:List Evt)(u:LN)(m:Str):(kI evs u m).9<=u.length:=by unfold kI;rw[QD];exact Qx _ _
theorem Oi(h:WOk w)(hv:kY w u)(m:Str):BK (kI w.es u m) (NH w (GB w.es l) m):=by constructor;intro s hs;let#[p,z,rfl]:=QX.mp hs;exact h.po p (Qb.mp z).1;intro e v;let#[n,y,rfl]:=QX.mp v;have y:=(Qb.mp y).1;let#[a,t,x,b,j,k,q,e]:=hv.2 n y;have:=h.ev a;rw[e]at this ⊢;exact#[h.nm this.1,h.nm this.2.1]
theorem Yx(E:Ψ.sp "seers_of"=JQ)(C:Ψ.sp "edges_of"=XQ)(p:Ψ.sp "holders_in"=HL)(b:WOk w)(hv:kY w u)(hk:mO w f)(B:f.9<=20000)(hl:g.9<1000)(hm:m∉g.map λx=>x.1)(q:∀h v,mO w h->h.9<=f.9+1->(∀y,y∈v↔tV w l u m y)->Z.nx (B3 w l u h (g++[(m,v)]) (bD (.str m)) (jr (.bor (ub w l u m))) o8 i)):pF Ψ HD Z (B3 w l u f g (bD (.str m)) o7 o8 i):=by
 have J:=b.pl;have I:=xj w (GB w.es l) m;have G:=Gm w.es u m;have F:=hv.1;delta B3;delta HD;simp![↓US,↓zA (md:=[.fro,.bor]) E rfl rfl,↓zA (md:=[]) C rfl rfl,↓zA (md:=[]) p rfl rfl,↓sC,↓sf,↓ju];refine#[_,_,_,rfl,(),?_];simp![↓vA];refine#[_,_,_,rfl,hv.1,hv.2,?_];simp![↓Ie];refine#[(),?_];cases e:dA (T2 f) (YE (kI w.es u m) (NH w (GB w.es l) m)) with
 |some k=>let#[v,s,r]:=Dg e;refine pG (λz=>by cases z) ?_;exact Lg () hm e r (q f v hk () (hk _ s))|none =>
  refine GR rfl ?_;simp![↓zA (md:=[]) p rfl rfl];refine#[_,_,_,rfl,#[(),(),Oi b hv m,(),b.pn],λv j A=>?_];simp![↓vA];refine El () e ?_;have K:dA (T2 (f++[((kI w.es u m,NH w (GB w.es l) m),v)])) (YE (kI w.es u m) (NH w (GB w.es l) m))≠none:=λz=>zB.mp z (QX.mpr #[_,QU _ (QJ.mpr rfl),rfl]);have o:mO w (f++[((kI w.es u m,NH w (GB w.es l) m),v)]):=λx a=>by rcases Qd.mp a with a|a;exact hk x a;rw[QJ.mp a];exact j
  cases n:dA (T2 (f++[((kI w.es u m,NH w (GB w.es l) m),v)])) (YE (kI w.es u m) (NH w (GB w.es l) m)) with|none=>exact o2 n K|some k=>let#[X,W,Y]:=Dg n;exact Lg () hm n Y (q _ X o (by rw[QI];exact QZ _) (o _ W))
theorem u4{b:PT}{p:PSp}{N x:LS}{ds:LT}{Q:T->LT->Prop}(ρ:kA)(h:pF Ψ b (lz Q) ρ)(hl:ds.9=x.length:=by rfl)(hc:XB 0 p.md x.9=[3]:=by rfl)(hs:mB N p.md ds=ρ:=by rfl):ds.9=x.9/\pF Ψ b (YC p x.9 Q) (mB N p.md ds):=by
 have e:YC p x.9 Q=lz Q:=by unfold YC;rw[hc];rfl
 rw[e,hs];exact#[hl,h]
def AD:PSp where
 md:=[.fro,.shal,.fro,.chg]
 run:=λx Q _=>∃(w:Wd) (l u:LN) (f:Kn),x=[.d (wD w),.lst ((l.map nD).map T.d),.d (.list (u.map nD)),V4 f]/\(WOk w/\l.9<=100/\∀n∈l,n<w.es.9)/\kY w u/\(mO w f/\f.9<=10000)/\∀h,mO w h->h.9<=f.9+10->Q (.lst (((YN w l u).map pr).map T.d)) [V4 h]
theorem dZ(h:WOk w)(l u:LN)(x:Str):(Mg w l u x).9<=10:=by unfold Mg;rw[QD];exact QS (Qx _ _) h.ml
theorem Jx{h:List Pt}{o6:Option Sl}{p:Str×Int×Int×Int}(k:WOk w)(j:g.map (λx=>x.1)=w.ms)(b:∀x∈g,∀y,y∈x.2↔tV w l u x.1 y)(hl:h.9<=1000)(q:Z.nx (B3 w l u f g o6 o7 (oW (.lst (((h++Mg w l u p.1).map pr).map T.d))) (bD (dG p)))):pF Ψ GD Z (B3 w l u f g o6 o7 (oW (.lst ((h.map pr).map T.d))) (bD (dG p))):=by
 have n:=k.ml;have a:=dZ k l u p.1;delta B3;delta GD;simp![↓Ta];rw[<- rA j0];refine lA (λm=>T.d (.str m)) (λm=>T.d (pr (p.1,m))) (Jo w l u p.1) w.ms [] _ (λm hm R z=>?_) (by show 0+w.ms.9<=_;omega) ?_;simp![↓oy,↓DV,↓jAj];refine Ys (j▸hm) λv hv=>?_;have e:decide (p.1∈v)=Jo w l u p.1 m:=by rw[Q8,Qe];exact(b _ hv p.1).trans (se w l u p.1 m).symm
 simp![jM,fJ,YB,true_or,e];split at z;rename_i c;rw[oa c];exact#[(),z];rename_i c;rw[ot c];exact z;rw[Qj,rA λm=>pr (p.1,m)];have e:((w.ms.filter (Jo w l u p.1)).map λm=>pr (p.1,m))=(Mg w l u p.1).map pr:=by unfold Mg;rw[Qc];rfl
 rw[e,<- QN,<- QN];exact#[by rw[QD,QD,QD,QD];omega,q]
theorem zd(h0:Ψ.sp "seen_among"=FL)(J:Ψ.sp "seers_of"=JQ)(I:Ψ.sp "edges_of"=XQ)(G:Ψ.sp "holders_in"=HL):JE Ψ ZF AD BJ ZH:=by
 rintro _ Q _ ⟨w,l,u,f,rfl,⟨n,hl,E⟩,hv,⟨hk,F⟩,q⟩;have P:=n.ml;have O:=n.pl;refine u4 [bD (wD w),jr (.bor (.lst ((l.map nD).map T.d))),bD (.list (u.map nD)),oW (V4 f),kd,kd,kd,kd,kd,kd] ?_;delta ZF;simp![↓US,↓Ta,↓zA (md:=[.fro,.shal]) h0 rfl rfl,↓sC,↓sf];refine#[_,_,rfl,hl,E,?_];simp![↓Ta];rw[<- rA j0];refine FA (λm=>T.d (.str m)) (λr b=>∃h g a o7,g.map (λx=>x.1)++r=w.ms/\(mO w h/\h.9+r.9<=f.9+w.ms.9)/\(∀x∈g,∀y,y∈x.2↔tV w l u x.1 y)/\b=B3 w l u h g a o7 kd kd) ?_ ?_ w.ms _ #[f,[],kd,kd,rfl,#[hk,QZ _],(λx j=>by cases j),rfl];rintro b ⟨h,g,a,o7,e,⟨Y,o⟩,K,rfl⟩;have e:g.map (λx=>x.1)=w.ms:=by rw[<- e,Q5]
 have o:h.9<=f.9+w.ms.length:=o;delta B3;simp![↓MZ];rw[<- rA dG];refine#[(),?_];refine FA (λp=>T.d (dG p)) (λr b=>∃k a o7 i,k++r.flatMap (λp=>Mg w l u p.1)=YN w l u/\k.9+10 * r.9<=200/\b=B3 w l u h g a o7 (oW (.lst ((k.map pr).map T.d))) i) ?_ ?_ w.ps _ #[[],_,_,kd,rfl,by show 0+10 * w.ps.9<=200;omega,rfl];rintro b ⟨k,a,o7,i,s,_,rfl⟩;have s:k=YN w l u:=by rw[<- s];exact(Q5 k).symm
 subst s;delta B3;simp![↓vA];exact q h Y ();rintro p r b N W ⟨k,a,o7,i,s,A,rfl⟩;have A:k.9+10 * (r.9+1)<=200:=A;have B:=dZ n l u p.1;refine Jx n e K () (W _ #[k++Mg w l u p.1,a,o7,_,?_,by rw[QI];omega,rfl]);rw[Qz];exact s;rintro m r b N W ⟨h,g,a,o7,e,⟨Y,o⟩,K,rfl⟩;have o:h.9+(r.9+1)<=f.9+w.ms.length:=o;have C:g.9+(r.9+1)=w.ms.length:=by rw[<- e,QI,QD];rfl
 have nd:=n.mn;rw[<- e]at nd;refine Yx J I G n hv Y () () (λz=>(qh.mp nd).2.2 m z m QE rfl) λX v M R L=>W _ #[X,g++[(m,v)],_,_,?_,#[M,()],?_,rfl];rw[QN,Qz];exact e;intro x j;rcases Qd.mp j with j|j;exact K x j;rw[QJ.mp j];exact L
end
end L2.L3.K40
namespace L2.L3
open PySem PySem.Spec PyProof.Rows PySem.W PySem.SeqAt
noncomputable def uz(ks:List (Int×Int))(i j:Nat):Bool:=decide ((ks.getD i (0,0)).1<(ks.getD j (0,0)).1∨(ks.getD i (0,0)).1=(ks.getD j (0,0)).1/\(ks.getD i (0,0)).2<(ks.getD j (0,0)).2)
noncomputable def Lu{α:Type}(lt:Nat->Nat->Bool):KasT α->α
 | .ret a=>a|.ask i j k=>Lu lt (k (lt i j))
def jT(ks:List (Int×Int))(n:Nat):Array Nat:=if n<2 then qG (Qm n) else Lu (uz ks) (kas_sort n)
theorem yC.ev{α:Type}{n:Nat}{P:α->Prop}(lt:Nat->Nat->Bool):∀{t:KasT α},yC n P t->P (Lu lt t)
 | .ret _,h=>h|.ask i j k,#[_,_,h]=>yC.ev (t:=k (lt i j)) lt (h _)
theorem yC.wpE{α:Type}{n:Nat}{P:α->Prop}{lt:Nat->Nat->Bool}{x:Nat->Nat->(Bool->ko->Prop)->ko->Prop}{Q:α->ko->Prop}{s:ko}(y:∀i j,i<n->j<n->∀C:Bool->ko->Prop,C (lt i j) s->x i j C s):∀{t:KasT α},yC n P t->Q (Lu lt t) s->t.kasWp x Q s
 | .ret _,_,q=>q|.ask i j _,#[h1,h2,h],q=>y i j h1 h2 _ (yC.wpE y (h _) q)
def MD(h:xk)(v:kt)(p:Int×Int):Prop:=∃a o n t u,v=.ref a/\h.get? a=jr o/\o.cls=.type "tuple"/\o.data=.seq (qG [Value.int p.1 t,Value.int p.2 u]) n
theorem MD.keep{h h':xk}{v:kt}{x:Int×Int}{c:k4}{u:Obj}(e:h.get? c=jr u)(hc:u.cls≠.type "tuple")(k:∀b o,b≠c->h.get? b=jr o->h'.get? b=jr o)(t:MD h v x):MD h' v x:=by let#[a,o,n,t,r,f,y,w,d]:=t;exact#[a,o,n,t,r,f,k _ _ (λz=>by rw[z,e]at y;cases y;exact hc w) y,w,d]
section
variable{prog:vb}{w:xb}{A:zq}{E:fC}{s:ko}
section
variable{vs:LW}{r f:k4}{a b c:Int}{t u v:Tok}{n:Nat}{kz:List (Int×Int)}
theorem Hl{v u:kt}{x y:Int×Int}{Q:Bool->ko->Prop}(hv:MD s.1 v x)(z:MD s.1 u y)(q:Q (decide (x.1<y.1∨x.1=y.1/\x.2<y.2)) s):k0 (k5 prog w) A (keyLt' (tuples' kb) v u) Q E s:=by let#[a,o,n,t,r,rfl,g,_,j]:=hv;let#[b,p,X,l,m,rfl,k,_,i]:=z;refine kat_lt g j k i (kat_cons (QA6 ?_));by_cases e:x.1=y.1;rw[e,beq_self_eq_true];refine kat_yes (kat_cons (QA6 ?_));by_cases h:x.2=y.2;rw[h,beq_self_eq_true];refine kat_yes (kat_nil ?_);rw[show decide (x.1<y.1∨x.1=y.1/\x.2<y.2)=kn from dF ()]at q;exact q;rw[beq_false_of_ne h];refine kat_no (kat_one _ _ (PyProof.Rows.lt_int ?_));rw[show decide (x.1<y.1∨x.1=y.1/\x.2<y.2)=decide (x.2<y.2) from decide_eq_decide.mpr ()]at q;exact q;rw[beq_false_of_ne e];refine kat_no (oneLt_int ?_);rw[show decide (x.1<y.1∨x.1=y.1/\x.2<y.2)=decide (x.1<y.1) from decide_eq_decide.mpr ()]at q;exact q
theorem Z8{ns:List (Int×Int)}{Q:SortKind->ko->Prop}(l:y1 (MD s.1) vs ns)(K:2<=vs.9)(q:Q (tuples' kb) s):k0 (k5 prog w) A (keyKind' vs.toArray) Q E s:=by
 have key:∀{vs:LW}{ns:List (Int×Int)},y1 (MD s.1) vs ns->∃fs,KatTups s.1 vs fs/\fs.9=vs.9/\∀f∈fs,∃x t,f=.int x t:=by
  intro vs ns h;induction h with
  |nil=>exact#[[],.nil,rfl,λ_ z=>(nomatch z)]
  |@cons v x Z Y h _ e=>let#[fs,j,i,g]:=e;let#[a,o,n,t,r,rfl,p,hc,X]:=h;refine#[.int x.1 t::fs,.cons (f:=.int x.1 t) p hc X (by simp) j,by rw[QM,QM,i],λf m=>?_];rcases QL.mp m with rfl|z;exact#[_,_,rfl];exact g f z
 let#[fs,k,W,y]:=key l;exact kat_kind (T:=.type "int") k () (λv hv=>by let#[x,t,rfl]:=y v hv;exact .of_pure rfl) (by decide) q
theorem TH{α x:Type}{R:α->x->Prop}{d:α}{e:x}:∀{l:List α}{m:List x},y1 R l m->∀i,i<l.9->R (l.getD i d) (m.getD i e)
 |_,_,.nil,i,h=>o2 h (Nat.not_lt_zero _)|_,_,.cons r _,0,_=>r|_,_,.cons _ t,i+1,h=>TH t i (w6 h)
theorem yL{α x:Type}{R:α->x->Prop}:∀{l z:List α}{m y:List x},y1 R l m->y1 R z y->y1 R (l++z) (m++y)
 |_,_,_,_,.nil,h=>h|_,_,_,_,.cons r t,h=>.cons r (yL t h)
theorem CO{Q:LW->ko->Prop}(Y:A.handled=kd)(q:t3 s.1 r a b c t u v)(x:QBr a b c=kb)
  (X:WY a b c=n) (z:n<=2 ^ 24)
  (h:∀h' g y,(∀b o,s.1.get? b=jr o->h'.get? b=jr o)->s.1.1.size<h'.1.size->ItemsOf (λi v=>∃t,v=.int (a+i * c) t) y n->Q y.toList { s with heap:=h',toks:=g }) :
  k0 (k5 prog w) A (collect (.ref r)) Q E s:=by
 unfold collect;refine QA (wpAny_runValue (QAI F.entry_proto_collect ?_));rw[WI F.plain_proto_collect _];show k0 _ A.in1 (newList [] >>= λl=>again (.builtin "list.__iadd__" #[[l,.ref r],[]])) _ _ s;refine QA (Q3 ?_);refine QK #[QAz QCO _,QAI F.entry_list_iadd ?_];rw[WI QCO _];have Z:(s.1.push { cls:=.type "list",data:=.seq ([]:LW).toArray }).get? s.1.1.size=jr { cls:=.type "list",data:=.seq #[] }:=QR _ rfl;show k0 _ A.in1 (WD (.ref s.1.1.size) (.ref r) (.ref s.1.1.size)) _ _ _;refine wpAny_extend_range (R:=λr j=>match r with | .ok (.ret v)=>k0 (k5 prog w) A (match v with | .ref a=>(do let o <- load a;match o.data with | .seq m _=>aj m.toList|_=>unsupported "internal:collect")|_=>unsupported "internal:collect") Q E j | .ok _=>False | .error e=>E e j) (s:={ s with heap:=s.1.push { cls:=.type "list",data:=.seq ([]:LW).toArray } }) Y (QH _ q) x X z _ _ _ Z λh' g y W p k it=>?_;show k0 _ A (load s.1.1.size >>= _) _ _ _;refine QA (wpAny_load k ?_);exact QK (h h' g y (λb o e=>p b o (Qk (QV e)) (QH _ e)) (QV k) it)
theorem Ml{a:k4}{P:PySem.Fin->ko->Prop}(ho:s.1.get? a=jr (ax "list" vs.toArray n))(h64:vs.9<64)(hl:kz.9=vs.9)
  (hf:∀(h:xk) (g:Nat),(∀b o,b≠a->s.1.get? b=jr o->h.get? b=jr o)->∀(i:Nat) (x:kt) (p:Int×Int),vs[i]?=jr x->kz[i]?=jr p->∀C:kt->ko->Prop,
   (∀Z m k,(∀b o,h.get? b=jr o->Z.get? b=jr o)->MD Z k p->C k { s with heap:=Z,toks:=m })->k0 (k5 prog w) A (lj (.ref f) [x]) C (λ_ _=>False) { s with heap:=h,toks:=g })
  (k:∀(p:Array Nat) (h':xk) (g c:Nat),Pm vs.9 p->p=jT kz vs.9->(∀b o,b≠a->s.1.get? b=jr o->h'.get? b=jr o)->h'.get? a=jr (ax "list" (p.toList.map λi=>vs.getD i j2).toArray c)->P (.done (.ret .none)) { s with heap:=h',toks:=g }) :
  k0 (k5 prog w) A (ksk_tree a (.ref f) kn) P E s:=by
 have ha:a<s.1.1.size:=QV ho;have s1:=Q9 s.1 a (Q6 λ_=>(#[]:Array kt));obtain⟨G,ho1⟩:∃G,(s.1.update a (Q6 λ_=>(#[]:Array kt))).get? a=jr (ax "list" #[] G):=#[_,QAJ ho λ_=>#[]]
 generalize hH:((s.1.update a (Q6 λ_=>(#[]:Array kt))).push (ax "tuple" vs.toArray 0))=hT;have S:hT.1.size=s.1.1.size+1:=by rw[<- hH,size_push',QCe]
 have kS0:(hT.push (ax "list" #[] 0)).get? hT.1.size=jr (ax "list" #[] 0):=QR _ rfl;have a0:(hT.push (ax "list" #[] 0)).get? a=jr (ax "list" #[] G):=QH _ (by rw[<- hH];exact QH _ ho1);have kp0:∀b o,b≠a->s.1.get? b=jr o->(hT.push (ax "list" #[] 0)).get? b=jr o:=λb o hb e=>QH _ (by rw[<- hH];exact QH _ ((s1.2 b hb).trans e));have naK:a≠hT.1.size:=by rw[S];exact Qk (WF ha)
 unfold ksk_tree;refine QA (QCU ho rfl (QA (Wb ho rfl ?_ (by rw[QO];omega) (Qs _))));refine QA (QBp ho1 rfl (QA (QBh ?_ (by show vs.9<=_;omega))));refine QA (QA0 (qk ?_) (Qs _));rw[hH];generalize hK:hT.1.size=kS at *;have fin:∀(y:LW) (e:Nat) (h:xk) (g:Nat) (st:SortSt) (p:Array Nat),y.9=vs.9->h.get? kS=jr (ax "list" (qG y) e)->h.get? a=jr (ax "list" #[] G)->(∀b o,b≠a->s.1.get? b=jr o->h.get? b=jr o)->Pm vs.9 p->p=jT kz vs.9 ->
   (arrOf st).map (·.2)=qG (p.toList.map λi=>vs.getD i j2)->i3 st=kd->k0 (k5 prog w) A (ksk_tail a kn G (.ref kS) st) P E { s with heap:=h,toks:=g }:=by
  intro y e h g st p Y hk l I pm H hout N;have t1:=Q9 h kS (Q6 λ_=>(#[]:Array kt));have R:=(t1.2 a naK).trans l;have t2:=Q9 (h.update kS (Q6 λ_=>(#[]:Array kt))) a (Q6 λ_=>qG (p.toList.map λi=>vs.getD i j2));have hps:(p.toList.map λi=>vs.getD i j2).9=vs.length:=by rw[QD,(qY.mp pm).length_eq];simp
  unfold ksk_tail;dsimp only;rw[hout];refine QA (Wb hk rfl ?_ (by rw[QO,qC];omega) (Qs _));refine QA (QCl (QA (QBp R rfl (QA (Wb R rfl ?_ (Qs _) (by simp only[Qu,if_false];rw[QO,qC];omega))))));rw[N];simp only[bne_self_eq_false,Qu,if_false];refine QK (k p _ g _ pm H (λb o hb e=>?_) (QAJ R λ_=>qG (p.toList.map λi=>vs.getD i j2)));have O:b≠kS:=λz=>by have:=QV e;rw[z,S]at this;exact o2 this (Nat.not_lt.mpr (qz _))
  exact(t2.2 b hb).trans ((t1.2 b O).trans (I b o hb e))
 have L:∀(y:LW) (e:Nat) (h:xk) (g:Nat),y1 (MD h) y kz->h.get? kS=jr (ax "list" (qG y) e)->h.get? a=jr (ax "list" #[] G)->(∀b o,b≠a->s.1.get? b=jr o->h.get? b=jr o) ->
   k0 (k5 prog w) A (ksk_end a kn vs.toArray G (.ref kS) (qG y)) P E { s with heap:=h,toks:=g }:=by
  intro y e h g B hk l I;have Y:y.9=vs.length:=(qM B).trans hl;unfold ksk_end;dsimp only;simp only[Qu,if_false];by_cases h2:vs.9<2;have F:vs.toArray.size<2:=by rw[QO];exact h2
  rw[oa F,oa F];refine QA (QK ?_);rw[QCo];refine QA (QK ?_);refine fin y e h g _ (qG (Qm vs.9)) Y hk l I (QCn _) (oa h2).symm ?_ rfl;show((qG y).zip vs.toArray).map (·.2)=_;rw[pP];apply WP.mp;simp[WQ,Y];have F:¬ vs.toArray.size<2:=by rw[QO];exact h2
  rw[ot F,ot F];refine QA (Z8 (s:={ s with heap:=h,toks:=g }) B () ?_);have tree:(kas_sort vs.9).kasWp (kas_ask prog w A (tuples' kb) y) (λp W=>W={ s with heap:=h,toks:=g }/\Pm vs.9 p/\p=jT kz vs.9) { s with heap:=h,toks:=g } :=
   yC.wpE (lt:=uz kz) (λi j hi hj C hC=>Hl (s:={ s with heap:=h,toks:=g }) (TH B i ()) (TH B j ()) hC) (IN ()) #[rfl,(IN ()).ev _,(ot h2).symm]
  refine QA (wE (kat_run (Q:=λK W=>∃p:Array Nat,arrOf K=p.map (kas_item ((qG y).zip vs.toArray))/\i3 K=kd/\W={ s with heap:=h,toks:=g }/\Pm vs.9 p/\p=jT kz vs.9) Y () h64 (λp K W _ a2 a3 a4=>#[p,a2,a3,a4]) tree) ?_ λ_ _ x=>x);rintro⟨⟨⟩,K⟩ W ⟨p,har,N,rfl,pm,H⟩;exact fin y e h g K p Y hk l I pm H (kat_snds Y har) N
 unfold ksk_rest;refine QA (QBU ?_);rw[List.forIn_toArray];refine QA (ksk_fold (λj W=>∃(y:LW) (e:Nat) (h:xk) (g:Nat),W={ s with heap:=h,toks:=g }/\y1 (MD h) y (kz.take j)/\h.get? kS=jr (ax "list" (qG y) e)/\h.get? a=jr (ax "list" #[] G)/\(∀b o,b≠a->s.1.get? b=jr o->h.get? b=jr o)/\j<=vs.9) vs 0 _ #[[],0,_,s.toks,rfl,.nil,kS0,a0,kp0,Qs _] (λj x W hx hI=>?_) λW hI=>?_);let#[y,e,h,g,rfl,B,hk,l,I,jl]:=hI;rw[w8]at B jl ⊢;have jv:j<vs.length:=(Qg.mp hx).1;have hkl:y.9=j:=by rw[qM B,qI];omega
 have hzj:kz[j]?=jr (kz[j]'()):=Qi _;refine QA (QAD (wE (hf h g I j x _ hx hzj (λJ W=>∃Z m,W={ s with heap:=Z,toks:=m }/\(∀b o,h.get? b=jr o->Z.get? b=jr o)/\MD Z J (kz[j]'())) λZ m J X ka=>#[Z,m,rfl,X,ka]) (λJ W hc=>?_) λ_ _ z=>z.elim));let#[Z,m,rfl,X,ka]:=hc;have ea:(qG y).push J=qG (y++[J]):=by simp
 have s5:=Q9 Z kS (Q6 (·.push J));have M:=X _ _ hk;dsimp only;refine QA (Wb M rfl ?_ (by rw[QO,qC];omega) (QS (wq (Array.size_push ..)) (by rw[QO,qC];omega)));refine QK #[rfl,y++[J],_,_,m,rfl,?_,by rw[<- ea];exact QAJ M (·.push J),(s5.2 a naK).trans (X _ _ l),λb o hb q=>?_,jv];have H:∀{v:kt}{x:Int×Int},MD Z v x->MD (Z.update kS (Q6 (·.push J))) v x:=λt=>t.keep M (by show Value.type "list"≠Value.type "tuple";decide) λb o hb q=>(s5.2 b hb).trans q;rw[List.take_succ,hzj];exact yL (L2.Paired.mapP B λ_ _ #[a1,o1,n1,t1,r1,G,g1,c1,d1]=>H #[a1,o1,n1,t1,r1,G,X _ _ g1,c1,d1]) (.cons (H ka) .nil);have O:b≠kS:=λz=>by have:=QV q;rw[z,S]at this;exact o2 this (Nat.not_lt.mpr (qz _))
 exact(s5.2 b O).trans (X _ _ (I b o hb q));let#[y,e,h,g,rfl,B,hk,l,I,_]:=hI;rw[w8,<- hl,List.take_length]at B;exact QA (QCU hk rfl (L y e h g B hk l I))
theorem Hb{Q:fC}(S:A.handled=kd)(N:t3 s.1 r a b c t u v)(y:QBr a b c=kb)
  (R:WY a b c=n) (h64:n<64) (hl:kz.9=n)
  (H:∀(Y:xk) (z:Nat),(∀b o,s.1.get? b=jr o->Y.get? b=jr o)->∀(i:Nat) (Z:Tok) (p:Int×Int),kz[i]?=jr p->∀C:kt->ko->Prop,
   (∀I W k,(∀b o,Y.get? b=jr o->I.get? b=jr o)->MD I k p->C k { s with heap:=I,toks:=W })->k0 (k5 prog w) A.in1.in1 (lj (.ref f) [Value.int (a+i * c) Z]) C (λ_ _=>False) { s with heap:=Y,toks:=z })
  (k:∀(p:Array Nat) (vs:LW) (D:k4) (h':xk) (z e:Nat),Pm n p->p=jT kz n->(∀b o,s.1.get? b=jr o->h'.get? b=jr o)->s.1.1.size<=D->vs.9=n->(∀(i:Nat) x,vs[i]?=jr x->∃t,x=Value.int (a+i * c) t) ->
   h'.get? D=jr (ax "list" (p.toList.map λi=>vs.getD i j2).toArray e)->Q (.ref D) { s with heap:=h',toks:=z }) :
  k0 (k5 prog w) A (lj (.builtin "sorted") [.ref r] [(QY "key",.ref f)]) Q E s:=by
 refine call_function_entry_kw kind_sorted plain_sorted entry_sorted (ksk_s1 _ _) ?_;unfold Builtin.«sorted»;refine QA (m:=checkCount "sorted" 1 1 _) (QK ?_);refine QA (CO S N y R () λg K h l G it=>?_);have M:h.toList.9=n:=by rw[Q0];exact it.1
 refine QA (QA0 ?_ (by rw[qC];omega));have X:(g.push (ax "list" h.toList.toArray 0)).get? g.1.size=jr (ax "list" h.toList.toArray 0):=QR _ rfl;have j:∀b o,s.1.get? b=jr o->(g.push (ax "list" h.toList.toArray 0)).get? b=jr o:=λb o q=>QH _ (l b o q);refine QA (qk (wpAny_call_entry_kw i0 #[_,X,rfl] ir ?body (ksk_l1 _ _)))
 case body =>
  show k0 (k5 prog w) A.in1.in1 (Builtin.«list.sort» #[[.ref g.1.size],[(QY "key",.ref f)]]) _ _ _;rw[ksk_t1];have nD:∀b o,s.1.get? b=jr o->b≠g.1.size:=λb o q=>Qk (QV (l b o q));refine Ml (s:={ s with heap:=g.push (ax "list" h.toList.toArray 0),toks:=K }) (kz:=kz) X () () (λY z B i x p F O C hC=>?_) λp h' z c L J B P=>#[_,rfl,QK #[_,rfl,?_]]
  let#[Z,rfl]:=it.2 i x (by rw[<- F,Wt]);exact H Y z (λb o q=>B b o (nD b o q) (j b o q)) i Z p O C hC;rw[M]at L J;exact k p h.toList _ h' z c L J (λb o q=>B b o (nD b o q) (j b o q)) (Ws G) M (λi x F=>it.2 i x (by rw[<- F,Wt])) P
end
end
section
variable{U Z p2 W V Y X K:Pos}
noncomputable abbrev i8(U Z p2 W V Y X:Pos):Expr:=.Tuple [.Subscript (.Subscript (.Name "events" U) (.Name "number" Z) p2) (.Constant (.int 1) 0 W) V,.Name "number" Y] 0 X
noncomputable abbrev ke(K:Pos):Arguments:={ posonlyargs:=[],args:=[{ arg:="number",annotation:=kd,pos:=K }],vararg:=kd,kwonlyargs:=[],kw_defaults:=[],kwarg:=kd,defaults:=[] }
noncomputable abbrev IW:Scope:={ kind:=.function,names:=[(QY "number",.local),(QY "events",.free)],isGenerator:=kn,isCoroutine:=kn,more:=[] }
variable{prog:vb}{w:xb}{A:zq}{E:fC}{s:ko}
section
variable{h h':xk}{y n:k4}{i:Nat}{g:Int}{l:Tok}
def yP(h:xk)(y:k4)(i:Nat)(g:Int):Prop:=∃(x z:Array kt) (t:k4) (u:Tok),(h.IsList y x∨i2 h y x)/\x[i]?=jr (.ref t)/\i<2 ^ 62/\x.size<2 ^ 62/\i2 h t z/\z[1]?=jr (.int g u)/\z.size<2 ^ 62
theorem yP.keepB{P:k4}{m:Array kt}(p:h.get? P=jr (tabObj m))(k:∀b o,b≠P->h.get? b=jr o->h'.get? b=jr o)(x:yP h y i g):yP h' y i g:=by
 let#[f,j,t,u,a,b,c,q,#[o,d],e]:=x;have v:∀{b:k4}{o:Obj}{T:String},h.get? b=jr o->o.cls=.type T->b≠P:=λe c z=>by rw[z,p]at e;cases e;cases c
 refine#[f,j,t,u,?_,b,c,q,#[o,k _ _ (v d.1 d.2.1) d.1,d.2],e];rcases a with⟨o,a⟩| ⟨o,a⟩
 exact .inl #[o,k _ _ (v a.1 a.2.1) a.1,a.2];exact .inr #[o,k _ _ (v a.1 a.2.1) a.1,a.2]
theorem yP.keep(z:∀b o,h.get? b=jr o->h'.get? b=jr o)(x:yP h y i g):yP h' y i g:=by
 let#[v,k,t,u,a,b,c,f,#[o,d],e]:=x;refine#[v,k,t,u,?_,b,c,f,#[o,z _ _ d.1,d.2],e];rcases a with⟨o,a⟩| ⟨o,a⟩
 exact .inl #[o,z _ _ a.1,a.2];exact .inr #[o,z _ _ a.1,a.2]
theorem t8{env:Env}{L:k4}{m:Str->Option kt}{Q:fC}(hk:env.scope=IW)(G:env.cells.lookup (QY "events")=jr n)(hc:s.1.IsCell n (jr (.ref y)))
  (P:env.locals=L) (O:s.1.Ns L m) (hm:m "number"=jr (.int i l)) (F:yP s.1 y i g)
  (q:∀I u,Q (.ref s.1.1.size) { s with heap:=s.1.push { cls:=.type "tuple",data:=.seq (qG [Value.int g u,Value.int i l]) },toks:=I }) :
  k0 (k5 prog w) A (hB (i8 U Z p2 W V Y X) env) Q E s:=by
 have M:env.kindOf "number"=jr .local:=by show env.scope.names.lookup _=_;rw[hk];rfl
 have N:env.kindOf "events"=jr .free:=by show env.scope.names.lookup _=_;rw[hk];rfl
 have k:env.scope.kind=.function:=by rw[hk]
 let#[C,B,t,u,a,b,c,H,d,e,S]:=F;subst P;have v:∀{p:Pos}{Q:fC}(z:ko),z.1=s.1->Q (.int i l) z->k0 (k5 prog w) A (hB (.Name "number" p) env) Q E z:=λz hs q=>QBT (QBW k M (by rw[hs];exact O) hm q) (by decide);refine QBm ?_;show k0 _ _ (l5 ((kn,hB (.Subscript (.Subscript (.Name "events" U) (.Name "number" Z) p2) (.Constant (.int 1) 0 W) V) env)::dt X (x0 [.Name "number" Y] env))) _ _ s;refine wR (QCE (QCE (QBT (QBl k N G hc (v _ rfl ?_) (by decide)) (by decide))));have o:(0:Int)<=(i:Int):=QB8 i;have f:(i:Int)<2 ^ 63:=by omega (config:={})
 have J:∀{Q:fC},Q (.ref t) s->k0 (k5 prog w) A (a8 (.Name "events" U) (.Name "number" Z) (.ref y) (.int i l)) Q E s:=λ{Q} q=>by rcases a with a|a;exact item_listR a o f (by simpa using b) q;have hs:i<C.size:=(QAS.mp b).1;exact qt (x:=.ref t) a.typeIs QAT.lookup (QB1 (j:=i) (Q:=λr z=>r=.ref t/\Q r z) a (by omega (config:={})) f (by rw[QAx o (by omega (config:={}))];simp) b #[rfl,q])
 refine J (QBy ?_);have R:1<B.size:=(QAS.mp e).1;refine qt (x:=.int g u) (s:={ s with toks:=s.toks+1 }) (show i2 s.1 t B from d).typeIs QAT.lookup (QB1 (j:=1) (show i2 s.1 t B from d) (by decide) (by decide) (by rw[QAx (by decide) (by omega (config:={}))];rfl) e #[rfl,?_]);show k0 _ _ (l5 ((kn,hB (.Name "number" Y) env)::dt X (x0 [] env))) _ _ _;exact wR (v _ rfl (WE #[by rw[qC];show 2<=_;decide,q _ _]))
theorem e8{f L:k4}{z:Str}{N I:kt}{C:fC}(j:A.depth<eH)(P:s.1.get? f=jr (kla_obj "<lambda>" z (ke K) (i8 U Z p2 W V Y X) IW [(QY "events",n)] N L I))
  (F:s.1.CodeRec (.ref L) z) (r:s.1.NoLimit) (hc:s.1.IsCell n (jr (.ref y))) (B:yP s.1 y i g)
  (k:∀G p v,(∀b o,s.1.get? b=jr o->G.get? b=jr o)->MD G v (g,(i:Int))->C v { s with heap:=G,toks:=p }) :
  k0 (k5 prog w) A (lj (.ref f) [.int i l]) C E s:=by
 refine wpAny_call (kla_callFunE j P rfl rfl rfl rfl F ?_);show k0 _ _ (aj [(QY "number",Value.int i l)]) _ _ _;refine QK (QBX (show ∀x∈IW.names,x.2≠NameKind.cell by decide) (by intro x O;rcases QJ.mp O with rfl;rfl) (λJ q m=>#[r.fresh _ m,kla_codeExpr ?_]) rfl);have a:∀b o,s.1.get? b=jr o->J.get? b=jr o:=λb o e=>m.extBut b o (Qk (QV e)) (QH _ e);refine t8 (s:={ s with heap:=J,toks:=s.toks+1 }) rfl rfl (hc.keeps a) rfl q rfl (B.keep a) λM u=>?_;exact k _ M _ (λb o e=>QH _ (a b o e)) #[_,_,_,_,_,rfl,QR _ rfl,rfl,rfl]
end
end
theorem EX{pos:Pos}{a b:Int}{c y:kt}(l:LW)(h:n7 l)(g:b8 pos (l++[fv a,fv b,c])=jr y):b8 pos l=jr y∨y=c:=by
 fun_induction n7 l with
 |case1=>right;have g:b8 pos [fv a,fv b,c]=jr y:=g;unfold fv b8 at g;split at g;exact(Ql g).symm;cases g|case2 i t f u x v w=>simp only[QA3,b8]at g ⊢;split at g;rename_i z;rw[oa z];exact .inl g;rename_i z;rw[ot z];exact w h g|case3 l e k=>exact h.elim
section
variable{X:Cx}{h:SB}{σ:St}{H:Hp}{s:ko}
theorem _root_.L2.Inv.tabbed{P x:k4}{q:Str}{y:Array kt}{K W:Int}{h':xk}{t':Nat}(I:Inv X h σ H s)(m:H P=jr (.tbl q))(N:s.1.get? P=jr (tabObj y))(A:n7 y.toList)(p:∀pos l,b8 pos y.toList=jr l->∃c,l=.ref c/\H c=jr (.own P)/\s.1.CodeRec l q)
  (a:QAH P s.1 h') (i:s.1.1.size<=x) (B:h'.CodeRec (.ref x) q) (f:h'.get? P=jr (tabObj (y++(qG [fv K,fv W,.ref x])))):H x=kd/\Inv X h σ (CA H x (.own P)) { s with heap:=h',toks:=t' }:=by
 have C:H x=none:=I.hok.fresh i;have w:∀b o,H b=jr o->b≠x:=λb o e z=>by rw[z,C]at e;cases e
 have Z:∀b,H b=kd->b≠P:=λb e z=>by rw[z,m]at e;cases e
 refine#[C,I.un #[λb o e n _ _=>a b o (Z b n) e,λb o e n _ _=>#[o.slots,a b o (Z b n) e],λb o e n _=>?_,λb o e _=>?_,λb F e=>?_,λb o u e=>?_,λb q e=>?_] λb u e=>?_];rw[xA (Qk (Qr (QV e) i))];exact n;by_cases hb:b=P
 ·exact#[_,hb▸f]
 exact#[o,a b o hb e];rw[xA (w b _ e)];exact e;rw[xA (w b _ e)];exact e;rw[xA (w b _ e)];exact e;by_cases hb:b=x
 ·subst hb
  rw[pA]at e;cases e;let#[c,o,Y,t,M,L,_]:=B;cases M;exact#[o,L]
 rw[xA hb]at e;by_cases j:b=P;subst j;rw[m]at e;cases e;refine#[_,f,?_,λpos l g=>?_];simpa using TriplesOk_snoc K W _ y.toList A;rcases EX y.toList A (by simpa using g) with g|rfl
 ·let#[c,rfl,o,O,ob,Y,G,E,J,r]:=p pos l g
  cases E;refine#[c,rfl,by rw[xA (w c _ o)];exact o,c,ob,Y,G,rfl,a _ _ (λz=>?_) J,r];rw[z,m]at o;cases o
 exact#[x,rfl,pA,B];refine(I.hok b u e).stay (λd v k g=>a d v (λz=>?_) g) (λd g=>by rw[xA (w d _ g)];exact g) λd F g=>by rw[xA (w d _ g)];exact g
 rcases k with k|k;exact j (k.symm.trans z);rw[z,m]at k;cases k
end
def vz(K:QC)(H:Hp)(xs:LV)(kz:List (Int×Int)):Prop:=kz.9=xs.9/\∀(j:Nat) p,kz[j]?=jr p->p.2=j/\∃t h,xs[j]?=jr (.ref t)/\yD K H t h/\h[1]?=jr (.int p.1)
def Iy(K:QC)(P:k4)(i:Nat):TE:=λz H Q=>∃ev h y,z[i]?=jr (jr (.ref ev))/\(aC K H ev h∨yD K H ev h)/\vz K H h y/\h.9<64 /\
 ∀(p:Array Nat) x l,Pm h.9 p->p=jT y h.9->(x=H∨∃c,H c=kd/\x=CA H c (.own P))->x l=kd->Q (.ref l) (CA x l (.lst (p.toList.map λ(i:Nat)=>V.int i)))
section
variable{X:Cx}{J G p2 F E B W U Z S M Y g d a O L:Pos}
section
variable{x:SB}{σ:St}{H:Hp}{s:ko}{y:k4}{kz:List (Int×Int)}{i:Nat}{q:Str}
theorem Us{xs:LV}(I:Inv X x σ H s)(k:aC X.K H y xs∨yD X.K H y xs)(C:vz X.K H xs kz):∀(j:Nat) p,kz[j]?=jr p->yP s.1 y j p.1:=λj p N=>by let#[_,t,ys,f,Q,P]:=C.2 j p N;have hz:=qC;let#[h,n,w,R]:=I.tuple Q;let#[u2,o,A]:=n.get P;let#[m,rfl]:=A;have l2:=n.9;have jl:j<xs.length:=(Qg.mp f).1;rcases k with k|k;let#[v,r,b,z]:=I.list k;let#[u,e,q]:=r.get f;cases q;have l:=r.9;exact#[v.toArray,h.toArray,t,m,.inl b.isList,by simpa using e,(),by rw[QO];omega,w,by simpa using o,by rw[QO];omega];let#[v,r,b,z]:=I.tuple k;let#[u,e,q]:=r.get f;cases q;have l:=r.9;exact#[v.toArray,h.toArray,t,m,.inr b,by simpa using e,(),by rw[QO];omega,w,by simpa using o,by rw[QO];omega]
theorem Se(I:Inv X x σ H s)(v:X.N[i]?=jr (QY "events"))(hs:X.env.scope.names.lookup (QY "events")=jr .cell)(hv:σ[i]?=jr (jr (.ref y))):∃h,X.env.cells.lookup (QY "events")=jr h/\s.1.IsCell h (jr (.ref y)):=by
 let#[m,_,hl]:=I.loc;let#[u,r,l]:=hl i "events" _ v hv (.inr (.inl hs));cases r;rcases l with⟨k,_⟩| ⟨_,c,e,z⟩
 have k:X.env.scope.names.lookup (QY "events")=jr .local:=k;rw[hs]at k;cases k;exact#[c,e,z]
theorem FK{n:Nat}{vs:LW}(hv:∀i,i<n->∃t,vs.getD i j2=.int (i:Int) t):∀l:LN,(∀i∈l,i<n)->nA (l.map λ(i:Nat)=>V.int i) (l.map λi=>vs.getD i j2)
 |[],_=>.nil|i::l,h=>.cons (hv i (h i QE)) (FK hv l λj z=>h j (QF _ z))
theorem iU{R f ce c':k4}{b ctv:kt}{t u v:Tok}{Q:VK}{n:Nat}(I:Inv X x σ H s)(hh:X.A.handled=kd)(z:X.A.in1.in1.depth<eH)
  (ho:s.1.get? f=jr (kla_obj "<lambda>" q (ke U) (i8 J G p2 F E B W) IW [(QY "events",ce)] b c' ctv)) (m:s.1.CodeRec (.ref c') q) (hc:s.1.IsCell ce (jr (.ref y))) (hev:∀(j:Nat) p,kz[j]?=jr p->p.2=j/\yP s.1 y j p.1)
  (hl:kz.9=n) (h64:n<64) (hr:t3 s.1 R 0 n 1 t u v) (k:∀(p:Array Nat) l,Pm n p->p=jT kz n->H l=kd->Q (.ref l) (CA H l (.lst (p.toList.map λ(i:Nat)=>V.int i)))) :
  k0 (k5 X.prog X.w) X.A (lj (.builtin "sorted") [.ref R] [(QY "key",.ref f)]) (EP X x σ Q) X.xe s:=by
 refine Hb (n:=n) hh hr (small_one (by decide) (by decide) () ()) (by rw[RD];split<;>omega) h64 hl (λh3 P h j tx p hj C hC=>?_) λp K D h' P e b up h r vl hvs ho'=>?_;let#[e2,ev']:=hev j p hj;have e3:(0:Int)+(j:Int) * 1=(j:Int):=()
 rw[e3];refine e8 (s:={ s with heap:=h3,toks:=P }) z (h _ _ ho) (m.keeps h) (I.nolimit.keeps h) (hc.keeps h) (ev'.keep h) λh4 N v kp4 ka=>hC h4 N v kp4 ?_;rw[<- e2]at ka;exact ka;have pl:∀i∈p.toList,i<n:=λi hi=>by simpa using(qY.mp b).mem_iff.mp hi
 have ps:p.toList.9=n:=by rw[(qY.mp b).length_eq];simp
 refine#[.ref D,CA H D (.lst (p.toList.map λ(i:Nat)=>V.int i)),I.laid (t':=P) h r #[by rw[QD,ps,qC];omega,_,e,FK (λi hi=>?_) p.toList pl,ho'],rfl,k p D b up (I.hok.fresh r)];have o:i<K.length:=()
 let#[t,e]:=hvs i (K[i]) (Qi o);refine#[t,?_];have:K.getD i j2=K[i]:=by simp[o]
 rw[this,e,show(0:Int)+(i:Int) * 1=(i:Int) by omega]
theorem Jc{c P:k4}(hN:X.N[i]?=jr (QY "events"))(hs:X.env.scope.names.lookup (QY "events")=jr .cell)(n:X.env.code=.ref c)(hC:CodeHd X.base c P)(hT:kQ X.mg X.base P q)(hq:q=X.env.qual++"<lambda>")(hb:X.base.BuiltinsAt X.mg P)(hgP:vx≠P)
  (g1:Gl X "sorted") (m1:X.mg "sorted"=kd) (g2:Gl X "range") (m2:X.mg "range"=kd) (g3:Gl X "len") (m3:X.mg "len"=kd) (hh:X.A.handled=kd) (f:X.A.in1.in1.depth<eH) :
  PE X (.Call (.Name "sorted" S) [.Call (.Name "range" M) [.Call (.Name "len" Y) [.Name "events" g] [] d] [] a] [#[jr "key",.Lambda (ke U) (i8 J G p2 F E B W) IW Z,O]] L) (Iy X.K P i):=by
 rintro x s σ H Q I ⟨y,xs,kz,hv,hsq,m,h64,k⟩;refine wG (nE I g1 m1 boot_sorted ?_);refine callWith_kw ?_;show k0 _ _ (l5 ((kn,hB (.Call (.Name "range" M) [.Call (.Name "len" Y) [.Name "events" g] [] d] [] a) X.env)::dt L (x0 [] X.env))) _ _ s;have paL:PA X [.Call (.Name "len" Y) [.Name "events" g] [] d] _:=AI (jN rJ g3 m3 boot_len (AI (mW hN (.inr (.inl hs))) AQ)) AQ;refine wR (Call_ (nE I g2 m2 boot_range (callWith_type1 (BB (paL a x s σ H (λvs H1=>vs=[.int xs.9]/\H1=H) I ?_) λus h #[vs,H1,I1,r1,q1]=>?_) rfl rfl)));exact#[_,hv,y,xs,rfl,hsq,rfl,rfl];let#[rfl,rfl]:=q1;cases r1 with
 |cons r rr =>
 cases rr;let#[t,rfl]:=r;refine call_range_1 (WE (kws_cons (kla_eval rfl ?_)));have w:Inv X x σ H1 { h with heap:=h.1.push { cls:=.type "range",data:=.fields (qG [.int 0 h.toks,.int xs.9 t,.int 1 (h.toks+1)]) },toks:=h.toks+1+1 }:=I1.kept λb o e=>QH _ e;have hr2:t3 (h.1.push { cls:=.type "range",data:=.fields (qG [.int 0 h.toks,.int xs.9 t,.int 1 (h.toks+1)]) }) h.1.1.size 0 xs.9 1 h.toks t (h.toks+1):=QR _ rfl;have hP:=w.tb P q hT;let#[ps,hp,ht,hps]:=w.hok P _ hP;let#[ce,hce,hcl]:=Se w hN hs hv;have R:nj IW X.env=aj [(QY "events",ce)]:=by unfold nj cellOf;simp[hce]
 let#[bm,ob,b1,b2,b3,b4,b5,b6]:=hb;have hb2:=And.intro b1 (And.intro b2 (And.intro b3 (And.intro b4 (And.intro (w.bk _ _ b5) b6))));have evs:=Us w hsq m;subst hq;cases e:b8 Z ps.toList with|none=>refine kla_makeFunction (mg:=X.mg) R I.ok.glob (w.mod.glob.keeps w.bk) n (hC.keeps w.bk) hp ht e hgP #[bm,ob,hb2] λc' ctv h' tk hx hge hlt v htb=>evalAll_nil ?_;let#[hn,I3]:=w.tabbed (t':=tk) hP hp ht hps hx hge v htb;have C:∀{oN:Obj}(b:k4) (o:Obj),h'.get? b=jr o->(h'.push oN).get? b=jr o:=λb o e=>QH _ e;let#[oc,c1,c2]:=hcl;show k0 _ _ (lj (.builtin "sorted") [.ref h.1.1.size] [(QY "key",.ref h'.1.size)]) _ _ _;refine iU (I3.kept C) hh f (QR _ rfl) (v.push _) #[oc,C _ _ (hx _ _ (λz=>?_) c1),c2] (λj p hj=>#[(m.2 j p hj).1,((evs j p hj).keepB hp hx).keep C]) m.1 h64 (C _ _ (hx _ _ (λz=>?_) hr2)) λp l pm u hl=>k p _ l pm u (.inr #[c',hn,rfl]) hl;rw[z,hp]at c1;cases c1;cases c2;have z2:=hp.symm.trans (z▸hr2);cases z2|some cv=>let#[c',rfl,_,v]:=hps _ _ e;refine kla_makeFunctionHit (mg:=X.mg) R I.ok.glob (w.mod.glob.keeps w.bk) n (hC.keeps w.bk) hp ht e #[bm,ob,hb2] λctv h' tk kp hge=>evalAll_nil ?_;have C:∀{oN:Obj}(b:k4) (o:Obj),(h.1.push { cls:=.type "range",data:=.fields (qG [.int 0 h.toks,.int xs.9 t,.int 1 (h.toks+1)]) }).get? b=jr o->(h'.push oN).get? b=jr o:=λb o e=>QH _ (kp b o e);show k0 _ _ (lj (.builtin "sorted") [.ref h.1.1.size] [(QY "key",.ref h'.1.size)]) _ _ _;exact iU (w.kept C) hh f (QR _ rfl) (v.keeps C) (hcl.keeps C) (λj p hj=>#[(m.2 j p hj).1,(evs j p hj).keep C]) m.1 h64 (C _ _ hr2) λp l pm u hl=>k p _ l pm u (.inl rfl) hl
end
end
noncomputable def BN:D->Option Int
 | .tuple h=>(match h[1]? with|some (j1 t)=>jr t|_=>kd)
 |_=>kd
def fK(evs:List D):List (Int×Int):=(Qm evs.9).map λ(i:Nat)=>(((evs[i]?).bind BN).getD 0,(i:Int))
theorem N3{evs:List D}{j:Nat}{p:Int×Int}(h:(fK evs)[j]?=jr p):j<evs.9/\p=(((evs[j]?).bind BN).getD 0,(j:Int)):=by unfold fK at h;rw[Qa]at h;by_cases c:j<evs.9;rw[ww c]at h;exact#[c,(Ql h).symm];rw[Q2 (by simpa using c)]at h;cases h
def yu(evs:List D)(ns:LN):Prop:=ns.Perm (Qm evs.9)/\ns=(jT (fK evs) evs.9).toList
def Yq:PSp where
 run:=λy Q _=>∃h:List D,y=[.d (.list h)]/\h.9<64/\(∀e∈h,∃t,BN e=jr t)/\∀x,yu h x->Q (.lst (x.map λ(i:Nat)=>.d (.int i))) []
theorem j6{K:QC}{H x:Hp}{a:k4}{xs:LV}(e:Same H x)(h:yD K H a xs):yD K x a xs:=by rcases h with(h|⟨o,h⟩)|h;exact .inl (.inl (e _ _ h));exact .inl (.inr #[o,e _ _ h]);exact .inr h
section
variable{P:vb}{w:xb}{K:QC}{mg:Str->Option kt}{base:xk}{Ψ:PEv}{D C p2 B W U n m g a0 a1 R O N L J I y:Pos}
noncomputable abbrev Kx:Scope:={ kind:=.function,names:=[(QY "events",.cell),(QY "sorted",.globalImplicit),(QY "range",.globalImplicit),(QY "len",.globalImplicit)],isGenerator:=kn,isCoroutine:=kn,more:=[] }
noncomputable abbrev cz(D C p2 B W U n m g a0 a1 R O N L J I y:Pos):List Stmt:=[.Return (jr (.Call (.Name "sorted" a0) [.Call (.Name "range" a1) [.Call (.Name "len" R) [.Name "events" O] [] N] [] L] [#[jr "key",.Lambda (ke m) (i8 D C p2 B W U n) IW g,J]] I)) y]
theorem gZ{H F:Hp}{vs:LV}{Q:VK}{E:XK}{T:k4}(h:lift K Yq vs H Q E):vs.9=1/\Iy K T 0 (sD [QY "events"] vs) H λv H'=>Q v H':=by
 let#[F,ts,M,Y,h1,h2,h3,h4,x,rfl,h64,he,q]:=h;cases h2 with
 |chg hm=>cases hm|@rd _ v vs' _ _ Z _ hr _ r =>
 cases r;refine#[rfl,?_];cases hr with
 |d rp hz =>
 cases rp with
 |@lst a xs _ hq rs =>
 have A:xs.9=x.length:=rs.9;have kl:(fK x).9=xs.length:=by unfold fK;rw[QD,Qv,A]
 refine#[a,xs,fK x,rfl,.inl (h1.seq hq),#[kl,λj p hj=>?_],by rw[A];exact h64,λp H1 l pm up hH hl=>?_];let#[jl,rfl]:=N3 hj;have G:x[j]?=jr (x[j]'jl):=Qi jl;let#[t,k]:=he _ (WR jl);let#[v,v1,v2]:=rs.get G;refine#[rfl,?_];rw[G];show ∃t ys,_/\_/\ys[1]?=jr (V.int ((BN x[j]).getD 0));rw[k];generalize x[j]=e at *;cases v2 with
 |@tup b ys ds sq rs2 =>
  have k:(match ds[1]? with|some (j1 t)=>jr t|_=>kd)=jr t:=k;cases hd:ds[1]? with
  |none=>rw[hd]at k;cases k|some d =>
   rw[hd]at k;let#[u,u1,u2]:=rs2.get hd;cases u2 with|int i=>cases k;exact#[b,ys,v1,j6 h1 sq,u1]|_=>cases k
 |_=>cases k
 have pn:p.size=x.length:=by have:=pm.size_eq;simpa[A]using this
 have f:H l=none:=by
  rcases hH with rfl|⟨c,hc,rfl⟩
  exact hl;by_cases z:l=c
  ·rw[z];exact hc
  rw[xA z]at hl;exact hl
 have hs:Same H H1:=by
  rcases hH with rfl|⟨c,hc,rfl⟩
  exact λ_ _ e=>e;exact λb o e=>by rw[xA (JA e hc)];exact e
 have s:Same H (CA H1 l (.lst (p.toList.map λ(i:Nat)=>V.int i))):=λb o e=>by rw[xA (JA e f)];exact hs b o e
 have fl:F l=none:=by
  cases z:F l with|none=>rfl|some o=>rw[h1 l o z]at f;cases f
 have X:∀S:LN,Trs K F (CA H1 l (.lst (p.toList.map λ(i:Nat)=>V.int i))) kb (S.map λ(i:Nat)=>V.int i) (S.map λ(i:Nat)=>.d (.int i)) λ_=>False:=λS=>by
  induction S with|nil=>exact .nil λ_ z=>z|cons i r ih=>exact .cons (.d (.int _) λ_ (z:False)=>z) ih (λ_ z=>z.elim) λb=>#[Qf,λz=>z.elim id id]
 refine q p.toList #[?_,?_] (.ref l) F (CA H1 l (.lst (p.toList.map λ(i:Nat)=>V.int i))) (λb=>b=l) (λ_=>False) #[λ_ _ e=>e,λb o e=>s b o (h1 b o e),λb u e _=>s b u e,λb e=>?_,λb e z=>o2 e z] (.lst pA fl (X _) (λz=>z) λb=>#[.inl,λz=>z.elim id Qf]) (.nil λ_ z=>z) (λ_ _ z=>z) λb z=>.inr (z.elim (λz=>z▸f) Qf);rw[A]at pm;exact qY.mp pm;rw[up,A];cases z:H b with|none=>rfl|some o=>rw[s b o z]at e;cases e
theorem Je{f c T:k4}{M kV v l ct:kt}{Z r:Option k4}{b:Array (Option kt)}{z:ro}{k:Nat}(X:K.In base)(G:base.Ns vx mg)(hm:mg "going_order"=jr (.ref f))
  (lk:K.lookup f=jr #[M,Z,.func (fnOf "going_order" "going_order" z (cz D C p2 B W U n m g a0 a1 R O N L J I y) Kx .none kV v l r (.ref c) ct),b])
  (j:codeIn K (.ref c) "going_order"=kb) (e:keepIn K (.ref f)=kb) (p:CodeHd base c T) (hb:base.BuiltinsAt mg T) (i:vx≠T) (m1:mg "sorted"=kd) (m2:mg "range"=kd) (m3:mg "len"=kd)
  (u:∀us:LW,us.9=1->lv (fnOf "going_order" "going_order" z (cz D C p2 B W U n m g a0 a1 R O N L J I y) Kx .none kV v l r (.ref c) ct) #[us,[]]=aj ([QY "events"].zip us)) (hR:Ψ.sp "going_order"=Yq):JC P w K mg base Ψ (k+1) "going_order":=by
 have S:FnScope [QY "events"] [QY "events"] Kx:=#[rfl,rfl,rfl,by decide,rfl,by intro x hx;rcases QJ.mp hx with rfl;exact .inr rfl,by decide]
 refine#[f,_,[QY "events"],?_,hm,e,.all u];rw[hR];refine Og lk j S (λY H Q E h=>(gZ (T:=T) (F:=H) h).1) λA a s H Y Q E o h=>#[_,XY (Y6 (Jc (q:=(QY "going_order")++(QY ".<locals>.<lambda>")) rfl rfl rfl p ?_ ?_ hb i rfl m1 rfl m2 rfl m3 o.hd ?_)),(gZ (F:=H) h).2]
 exact#[f,_,_,c,hm,X _ _ lk,rfl,rfl,p,rfl];show QY "going_order"++QY ".<locals>.<lambda>"=(QY "going_order"++QY ".<locals>.")++QY "<lambda>";decide;exact WX (QS (QA7 _ (3 * k)) (QA7 _ 5)) o.dp
end
end L2.L3
namespace L2.L3.K40
open PySem PySem.Spec PyProof.Rows L2 L2.L3
def KO(a b:Nat):Bool:=decide (a<=b)
def srt(l:LN):LN:=l.mergeSort KO
theorem Br(a b c:Nat)(x:KO a b=kb)(y:KO b c=kb):KO a c=true:=dT (QS (QB x) (QB y))
theorem Cr(a b:Nat):(KO a b||KO b a)=true:=by rcases Nat.le_total a b with z|z;rw[show KO a b=kb from dT z];rfl;rw[show KO b a=kb from dT z,QCQ]
theorem G5(l:LN):(srt l).Pairwise λa b=>a<=b:=(List.pairwise_mergeSort Br Cr l).imp λz=>QB z
theorem kj{z l:LN}(h:z.Perm l)(u:z.Pairwise (·<=·)):z=srt l:=QAp (λa b _ _ x y=>QCs x y) u (G5 l) (h.trans (QBs l KO).symm)
theorem pM(l:LN):(srt l).Perm l:=QBs l KO
noncomputable abbrev Stp:=Nat×Bool×LN×List Pt
structure Gs where
 past:LN
 taken:LN
 held:List Pt
 steps:List Stp
def vo(w:Wd)(g:Gs)(n:Nat):Bool:=Gv w (xM w g.past) g.held (XA w.es n)
def rQ(w:Wd)(g:Gs)(n:Nat):LN:=if(vo w g n&&decide (X4 (XA w.es n)="tell"))=kb then g.taken++[n] else g.taken
def Ur(w:Wd)(g:Gs)(n:Nat):LN:=srt (PF w.es (rQ w g n) (xM w (g.past++[n])))
def Fu(w:Wd)(g:Gs)(n:Nat):List Pt:=YN w (g.past++[n]) (Ur w g n)
def UD(w:Wd)(g:Gs)(n:Nat):Gs:=#[g.past++[n],rQ w g n,Fu w g n,g.steps++[(n,vo w g n,Ur w g n,Fu w g n)]]
def cC(w:Wd)(ns:LN):Gs:=ns.foldl (UD w) #[[],[],[],[]]
noncomputable def IS(s:Stp):D:=.tuple [nD s.1,.bool s.2.1,.list (s.2.2.1.map nD),.list (s.2.2.2.map pr)]
def Ma(l:LN):T:=.lst ((l.map nD).map T.d)
def Ve(w:Wd)(past taken:LN)(wr held:List Pt)(x:Kn)(st:List Stp)(o8 h o10:Option Sl):kA:=[bD (wD w),bD (.list (w.es.map XC)),oW (Ma past),oW (Ma taken),oW (YL wr),bD (.list (held.map pr)),oW (V4 x),oW (.lst ((st.map IS).map T.d)),o8,h,o10]
theorem N7(l:LN)(n:Nat):Ma (l++[n])=.lst ((l.map nD).map T.d++[T.d (nD n)]):=by unfold Ma;rw[QN,QN];rfl
theorem yj(l:List Stp)(n:Stp):((l++[n]).map IS).map T.d=(l.map IS).map T.d++[T.d (IS n)]:=by rw[QN,QN];rfl
theorem y6{evs:List Evt}{h:LN}{ks:List Pt}{K:T->LT->Prop}{E:XE}(l:h.9<64)(a:∀n∈h,n<evs.9/\FC (XA evs n))(q:K (.lst (((srt (PF evs h ks)).map nD).map T.d)) []):rL OG [.d (.list (evs.map XC)),.lst ((h.map nD).map T.d),YL ks] K E:=#[evs,h,ks,rfl,l,a,λz y x=>by rw[kj y x];exact q]
section
variable{Ψ:PEv}{E:XE}{K:TK}{y x:D}{u:List D}{k:T}{g f e c b w v:Option Sl}
theorem Ke(h:Ψ.sp "held_among"=AD)(q:rL AD [.d y,.lst (u.map T.d),.d x,k] (λr j=>∃n,j=[n]/\K r kb [bD y,g,oW (.lst (u.map T.d)),f,e,c,oW n,b,w,v,bD x]) E):jB Ψ (.call "held_among" %[.var 0,.var 2,.var 10,.var 6|1]) E [bD y,g,oW (.lst (u.map T.d)),f,e,c,oW k,b,w,v,bD x] K:=by show ∃j,BA (bA (Ψ.sp "held_among").md %[.var 0,.var 2,.var 10,.var 6|1]) [bD y,g,oW (.lst (u.map T.d)),f,e,c,oW k,b,w,v,bD x]=jr j/\(bA (Ψ.sp "held_among").md %[.var 0,.var 2,.var 10,.var 6|1]).Nodup/\(pe Ψ %[.var 0,.var 2,.var 10,.var 6|1] E).a (Ψ.sp "held_among").md (clear (bA (Ψ.sp "held_among").md %[.var 0,.var 2,.var 10,.var 6|1]) [bD y,g,oW (.lst (u.map T.d)),f,e,c,oW k,b,w,v,bD x]) λp l=>∃o,ZA (Ψ.sp "held_among").md p j=jr o/\(Ψ.sp "held_among").run o (λr m=>∃i,kC (bA (Ψ.sp "held_among").md %[.var 0,.var 2,.var 10,.var 6|1]) m l=jr i/\K r kb i) E;rw[h];refine#[[k],rfl,Qh.mpr #[WS,Q4],?_];refine#[rfl,?_];refine#[[.d y,.lst (u.map T.d),.d x,k],?_,?_];show(match BF (T.lst (u.map T.d)) with|some t=>(jr [T.d x,k]).map (t::·)|none=>kd).map (T.d y::·)=_;rw[R5];rfl;refine AD.mono (λr j z=>?_) (λ_ z=>z) q;let#[n,rfl,z]:=z;exact#[_,rfl,z]
end
section
variable{Ψ:PEv}{Z:PEnds}{w:Wd}{y:Kn}{n:Nat}{o10:Option Sl}{g:Gs}{ns:LN}
theorem Zs(m:Ψ.sp "wrong_among"=IF)(k:Ψ.sp "live_among"=OG)(l:Ψ.sp "held_among"=AD){past taken:LN}{wr held:List Pt}{st:List Stp}{b:Bool}(z:WOk w)(r:past.9<=60)(v:∀n∈past,n<w.es.9)(o:taken.9<=60)(u:∀n∈taken,n<w.es.9/\FC (XA w.es n))(hk:mO w y)(e:y.9<=10000)(p:st.9<=60)
  (q:∀h,mO w h->h.9<=y.9+10->Z.nx (Ve w past taken (xM w past) (YN w past (srt (PF w.es taken (xM w past)))) h (st++[(n,b,srt (PF w.es taken (xM w past)),YN w past (srt (PF w.es taken (xM w past))))]) (bD (nD n)) (bD (.bool b)) (bD (.list ((srt (PF w.es taken (xM w past))).map nD))))) :
  pF Ψ YK Z (Ve w past taken wr held y st (bD (nD n)) (bD (.bool b)) o10):=by
 have x:=pM (PF w.es taken (xM w past));have fl:=Qx (λn=>!decide (((YJ (XA w.es n)).1,(YJ (XA w.es n)).2)∈xM w past)) taken;have a:kY w (srt (PF w.es taken (xM w past))):=#[by rw[x.length_eq];unfold PF;omega,λn j=>u n (Qb.mp (x.mem_iff.mp j)).1]
 delta Ve Ma;delta YK;simp![↓zA (md:=[.fro,.shal]) m rfl rfl,↓zA (md:=[.fro,.shal,.bor]) k rfl rfl,↓sC,↓sf,↓ju];refine#[_,_,rfl,z,(),v,?_];simp![↓zA (md:=[.fro,.shal,.bor]) k rfl rfl,↓sC,↓sf,↓ju];refine y6 () u ?_;simp![↓vA];refine Ke l (#[_,_,_,_,rfl,#[z,(),v],a,#[hk,e],λh i f=>#[_,rfl,?_]]);simp![↓vA];rw[QD,QD];refine#[(),(),?_];have q:=q h i f;unfold Ve Ma at q;rw[yj]at q;exact q
structure GsOk(w:Wd)(g:Gs):Prop where
 p:∀n∈g.past,n<w.es.9
 tl:g.taken.9<=g.past.9
 t:∀n∈g.taken,n<w.es.9/\FC (XA w.es n)
 h:Jf g.held
 s:g.steps.9=g.past.9
theorem cZ(z:WOk w)(l u:LN):Jf (YN w l u):=by intro p h;let#[x,v,h]:=WT.mp h;let#[m,hm,rfl]:=QX.mp h;exact#[z.po x v,z.mo m (Qb.mp hm).1]
theorem Vb{e:Evt}(h:X4 e="tell"):FC e:=by
 cases e with|see t p m x=>exact o2 (show QY "see"=QY "tell" from h) (by decide)|tell t a b m x q=>exact#[t,a,b,m,x,q,rfl]
theorem Df(h:GsOk w g)(x:n<w.es.9):(rQ w g n).9<=g.past.9+1/\∀k∈rQ w g n,k<w.es.9/\FC (XA w.es k):=by have:=h.tl;unfold rQ;split;rename_i c;rw[QW,Qe]at c;refine#[by rw[QI];exact W6 this,λk hk=>?_];rcases Qd.mp hk with hk|hk;exact h.t k hk;rw[QJ.mp hk];exact#[x,Vb c.2];exact#[(),h.t]
theorem SR(v:WOk w)(h:GsOk w g)(x:n<w.es.9):GsOk w (UD w g n):=by
 let#[u,z]:=Df h x;refine#[λk hk=>?_,?_,z,cZ v _ _,?_];rcases Qd.mp hk with hk|hk
 ·exact h.p k hk
 rw[QJ.mp hk];exact x;show(rQ w g n).9<=(g.past++[n]).9;rw[QI];exact u;show(g.steps++_).9=(g.past++[n]).9;rw[QI,QI,h.s];rfl
theorem Vx(C:Ψ.sp "is_taken"=pY)(B:Ψ.sp "wrong_among"=IF)(A:Ψ.sp "live_among"=OG)(K:Ψ.sp "held_among"=AD){j:Option Sl}(i:WOk w)(a:GsOk w g)(E:g.past.9<60)(v:n<w.es.9)(hk:mO w y)(X:y.9<=10000)
  (q:∀x j o10,mO w x->x.9<=y.9+10->Z.nx (Ve w (g.past++[n]) (rQ w g n) (xM w (g.past++[n])) (Fu w g n) x (UD w g n).steps (bD (nD n)) j o10)) :
  pF Ψ EN Z (Ve w g.past g.taken (xM w g.past) g.held y g.steps (bD (nD n)) j o10):=by
 have F:=a.tl;have I:=a.s;let#[G,m]:=Df a v;have o:∀k∈g.past++[n],k<w.es.length:=(SR i a v).p;have r:=λ{o10}=>Zs (Z:=Z) (wr:=xM w g.past) (held:=g.held) (st:=g.steps) (n:=n) (b:=vo w g n) (o10:=o10) B A K i (past:=g.past++[n]) (by rw[QI];exact E) o (taken:=rQ w g n) () m hk X () λx W Y=>q x _ _ W Y;delta Ve Ma;delta EN;simp![↓pQ v,↓zA (md:=[.fro,.fro,.bor,.fro]) C rfl rfl,↓sC,↓sf,↓ju];refine#[_,_,_,_,rfl,i,(i.ev v),a.h,?_];simp![↓pQ v,↓nQ];rw[QD,QD,<- N7];refine#[(),?_];have e:Gv w (xM w g.past) g.held (XA w.es n)=vo w g n:=rfl;rw[e];cases u:vo w g n with
 |false=>have f:rQ w g n=g.taken:=ot (by rw[u];exact λz=>by cases z);rw[f,u]at r;exact r|true =>
  cases l:decide (X4 (XA w.es n)="tell") with|false=>have f:rQ w g n=g.taken:=ot (by rw[u,l];exact λz=>by cases z);rw[f,u]at r;exact r|true=>have f:rQ w g n=g.taken++[n]:=oa (by rw[u,l];rfl);rw[f,u]at r;simp![↓vA];rw[QD,QD,<- N7];exact#[(),r]
theorem Ce(e:Evt):∃t,BN (XC e)=jr t:=by
 cases e with|see t p m h=>exact#[t,rfl]|tell t a b m h q=>exact#[t,rfl]
def CL(w:Wd)(ns:LN):Prop:=yu (w.es.map XC) ns
theorem eg(h:CL w ns):∀n∈ns,n<w.es.length:=λn x=>by
 have:=qK.mp (h.1.mem_iff.mp x)
 rwa [QD]at this
theorem U7(h:CL w ns):ns.9=w.es.length:=by rw[h.1.length_eq,Qv,QD]
theorem Xj{K:T->LT->Prop}{E:XE}(x:WOk w)(q:∀ns,CL w ns->K (Ma ns) []):rL Yq [.d (.list (w.es.map XC))] K E:=#[_,rfl,by rw[QD];exact WX x.el (by decide),λe z=>by
 let#[v,_,rfl]:=QX.mp z;exact Ce v,λns h=>by
 have:=q ns h;unfold Ma at this;rw[Qc]at this;exact this]
def LL:PSp where
 run:=λh Q _=>∃w:Wd,h=[.d (wD w)]/\WOk w/\∀ns,CL w ns->Q (.lst (((cC w ns).steps.map IS).map T.d)) []
theorem Hy{E:XE}{r:PT}{i:Nat}{ρ:kA}:sO Ψ E r Z i (.lst []) kb ρ=vB Ψ E r Z (ρ.set i (bD (.list []))):=Su (ds:=[])
theorem vd(h0:Ψ.sp "going_order"=Yq)(B:Ψ.sp "is_taken"=pY)(A:Ψ.sp "wrong_among"=IF)(K:Ψ.sp "live_among"=OG)(W:Ψ.sp "held_among"=AD):JE Ψ RX LL aa UY:=by rintro _ Q _ ⟨w,rfl,k,q⟩;have G:=k.el;refine uA [bD (wD w),kd,kd,kd,kd,kd,kd,kd,kd,kd,kd] ?_;delta RX;simp![↓US,↓zA (md:=[]) h0 rfl rfl];refine#[(),(),(),?_];simp![↓Hy,↓zA (md:=[]) h0 rfl rfl];refine#[(),Xj k λns u=>?_];delta Ma;simp![↓vA];rw[<- rA nD];have C:=U7 u;refine FA (λn=>T.d (nD n)) (λr a=>∃g y i f o10,r.foldl (UD w) g=cC w ns/\(GsOk w g/\g.past.9+r.9<=60/\∀n∈r,n<w.es.9)/\(mO w y/\y.9<=10 * g.past.9)/\a=Ve w g.past g.taken (xM w g.past) g.held y g.steps i f o10) ?_ ?_ ns _ #[#[[],[],[],[]],[],kd,kd,kd,rfl,#[#[λ_ z=>(by cases z),QZ _,λ_ z=>(by cases z),λ_ z=>(by cases z),rfl],by show 0+ns.9<=60;omega,eg u],#[λ_ z=>(by cases z),QZ _],rfl];rintro a ⟨g,y,i,f,o10,e,_,_,rfl⟩;have e:g=cC w ns:=e;subst e;delta Ve;simp![↓vA];exact q ns u;rintro n r a N Y ⟨g,y,i,f,o10,e,⟨o,m,l⟩,⟨p,E⟩,rfl⟩;have m:g.past.9+(r.9+1)<=60:=m;have j:=l n QE;refine Vx B A K W k o () j p () λh b v s F=>Y _ #[UD w g n,h,_,b,v,e,#[SR k o j,?_,λx X=>l x (QF _ X)],#[s,?_],rfl];show(g.past++[n]).9+r.9<=60;rw[QI];show g.past.9+1+r.9<=60;omega;show h.9<=10 * (g.past++[n]).9;rw[QI];show h.9<=10 * (g.past.9+1);omega
def zj(w:Wd):Gs->LN->List Stp
 |_,[]=>[]|g,n::r=>(n,vo w g n,Ur w g n,Fu w g n)::zj w (UD w g n) r
theorem ES(w:Wd):∀(ns:LN) (g:Gs),(ns.foldl (UD w) g).steps=g.steps++zj w g ns
 |[],g=>(Q5 _).symm|n::r,g=>by show(r.foldl (UD w) (UD w g n)).steps=_;rw[ES w r];show(g.steps++[_])++_=g.steps++(_::_);rw[Qz];rfl
def g0:Gs:=#[[],[],[],[]]
theorem fZ(w:Wd)(ns:LN):(cC w ns).steps=zj w g0 ns:=ES w ns g0
theorem jAg(w:Wd):GsOk w g0:=#[λ_ z=>(by cases z),QZ _,λ_ z=>(by cases z),λ_ z=>(by cases z),rfl]
end
section
variable{w:Wd}{es:List Evt}{f:Nat->Nat}(h:∀n,XA es n=XA w.es (f n))
include h
end
section
variable{n:Nat}{l:List D}{x:D}
def ZR(n:Nat)(x:D):Prop:=x.canLay0=kb/\x.depth<=n
theorem rN{n:Nat}:∀{l:List D},(∀x∈l,ZR n x)->q0 l=kb/\wk l<=n
 |[],_=>#[rfl,Qs _]|x::l,h=>by let#[k,w]:=h x QE;let#[u,z]:=rN (l:=l) λy v=>h y (QF _ v);exact#[by show(x.canLay0&&q0 l)=kb;rw[k,u];rfl,Nat.max_le.mpr #[w,z]]
theorem Sd(h:∀x∈l,ZR n x):ZR (n+1) (.list l):=#[(rN h).1,W6 (rN h).2]
theorem C2(h:∀x∈l,ZR n x):ZR (n+1) (.tuple l):=#[(rN h).1,W6 (rN h).2]
theorem zJ{s:Str}(h:OkS s):ZR n (.str s):=#[h,Qs _]
theorem x8{i:Int}:ZR n (.int i):=#[rfl,Qs _]
theorem Vr(h:ZR n x)(y:n<=64):AE x:=#[h.1,QS h.2 y]
theorem z8{m:Nat}(h:ZR n x)(y:n<=m):ZR m x:=#[h.1,QS h.2 y]
theorem PD(h:ZR n x)(u:∀y∈l,ZR n y):∀y∈x::l,ZR n y:=λy z=>by rcases QL.mp z with rfl|z;exact h;exact u y z
theorem k8:∀y∈([]:List D),ZR n y:=λy h=>by cases h
theorem v8{α:Type}{f:α->D}{l:List α}(h:∀a∈l,ZR n (f a)):∀y∈l.map f,ZR n y:=λy z=>by let#[a,u,rfl]:=QX.mp z;exact h a u
theorem Kr{p:Pt}(h:OkS p.1/\OkS p.2):ZR 1 (pr p):=C2 (PD (zJ h.1) (PD (zJ h.2) k8))
theorem Yr{p:Str×Int×Int×Int}(h:OkS p.1):ZR 1 (dG p):=C2 (PD (zJ h) (PD x8 (PD x8 (PD x8 k8))))
theorem cj:OkS "see":=(by decide +kernel:qi "see"=kb)
theorem Lb:OkS "tell":=(by decide +kernel:qi "tell"=kb)
theorem Xr{w:Wd}(y:WOk w){e:Evt}(h:Xa w e):ZR 2 (XC e):=by
 cases e with|see t p m z=>exact C2 (PD (zJ cj) (PD x8 (PD (zJ (y.nm h.1)) (PD (zJ (y.mo _ h.2.1)) (PD (zJ h.2.2) k8)))))|tell t a b m z q=>exact C2 (PD (zJ Lb) (PD x8 (PD (zJ (y.nm h.1)) (PD (zJ (y.nm h.2.1)) (PD (zJ (y.mo _ h.2.2.1)) (PD (zJ h.2.2.2.2.1) (PD (C2 (v8 λx u=>zJ (y.nm (h.2.2.2.2.2 x u)))) k8)))))))
theorem Dq{w:Wd}(h:WOk w):AE (wD w):=Vr (n:=4) (C2 (PD (z8 (Sd (v8 λp y=>Yr (h.po p y))) (by decide)) (PD (z8 (Sd (n:=0) (v8 λm hm=>zJ (h.mo m hm))) (by decide)) (PD (z8 (Sd (v8 λp y=>Kr (h.ag p y))) (by decide)) (PD (Sd (v8 λe z=>Xr h (h.eo e z))) k8))))) (by decide)
end
section
variable{ds es:List D}{L:Bool->Prop}{x:D}{y:bb}
theorem g9(h:AE (.tuple ds))(q:L kb):HU .Eq (.tuple ds) (.tuple ds) L:=#[h,h,by rw[PySem.SeqAt.eqv_refl _ h.1];exact q]
theorem Cm(i j:Int):Qp (.int i) (.int j)=decide (i=j):=by simp only[Qp];rw[Q8,beq_iff_eq,Qe]
end
theorem KW{w:Wd}{ns x:LN}(h:CL w ns)(h':CL w x):ns=x:=h.2.trans h'.2.symm
structure StK(w:Wd)(s:Stp):Prop where
 n:s.1<w.es.9
 l:kY w s.2.2.1
 h:Jf s.2.2.2
theorem Of{w:Wd}(y:WOk w):∀(ns:LN) (g:Gs),GsOk w g->g.past.9+ns.9<=60->(∀n∈ns,n<w.es.9)->∀s∈zj w g ns,StK w s
 |[],_,_,_,_,s,hs=>by cases hs|n::r,g,hg,hl,hn,s,hs=>by have u:=hn n QE;have z:=SR y hg u;have hl:g.past.9+(r.9+1)<=60:=hl;have a:(UD w g n).past.9=g.past.9+1:=QI;rcases QL.mp hs with rfl|hs;have v:=pM (PF w.es (rQ w g n) (xM w (g.past++[n])));have fl:(PF w.es (rQ w g n) (xM w (g.past++[n]))).9<=(rQ w g n).length:=Qx _ _;have k:(rQ w g n).9<=(UD w g n).past.length:=z.tl;refine#[u,#[?_,λx h=>z.t x (Qb.mp (v.mem_iff.mp h)).1],cZ y _ _];show(Ur w g n).9<=100;unfold Ur;rw[v.length_eq];omega;exact Of y r _ z () (λx h=>hn x (QF _ h)) s hs
theorem F5{w:Wd}:∀(ns:LN) (g:Gs),(zj w g ns).map (λs=>s.1)=ns
 |[],_=>rfl|n::r,g=>QP (n::·) (F5 r _)
theorem bX{w:Wd}{ns:LN}(h:WOk w)(x:CL w ns):(cC w ns).steps.map (λs=>s.1)=ns/\(cC w ns).steps.9<=60/\∀s∈(cC w ns).steps,StK w s:=by have z:=h.el;have y:=U7 x;have e:=F5 (w:=w) ns g0;have l:=QP qR e;rw[QD]at l;rw[fZ];exact#[e,(),Of h ns g0 (jAg _) (by show 0+_<=_;omega) (eg x)]
noncomputable def AT(st:List Stp):LN:=match st.getLast? with
 |some s=>s.2.2.1|none=>[]
theorem OL(l:List Stp)(s:Stp):AT (l++[s])=s.2.2.1:=by unfold AT;rw[List.getLast?_concat]
theorem iQ(st:List Stp):st=[]∨∃l s,st=l++[s]:=by
 rcases List.eq_nil_or_concat st with h|⟨l,s,h⟩
 exact .inl h;exact .inr #[l,s,by rw[h,List.concat_eq_append]]
theorem TW{w:Wd}{st:List Stp}(h:∀s∈st,StK w s):kY w (AT st):=by
 rcases iQ st with rfl|⟨l,s,rfl⟩
 exact#[Qs _,λ_ z=>by cases z];rw[OL];exact(h s (QU _ QE)).l
theorem BZ{α:Type}(l:List α)(x:α):NC (l++[x]) (-1)=jr x:=by unfold NC FR;rw[ot (by decide),QI,oa (by show -(((l.9+1:Nat)):Int)<=-1;omega)];show(l++[x])[((-1:Int)+((l.9+1:Nat):Int)).toNat]?=_;rw[show((-1:Int)+((l.9+1:Nat):Int)).toNat=l.9 by omega,Qy (QZ _),QBQ];rfl
def Xg(w:Wd)(st:List Stp):D:=.tuple [wD w,.list (st.map IS)]
def kr(w:Wd)(st:List Stp):T:=.tup [.d (wD w),.lst ((st.map IS).map T.d)]
theorem Hs(w:Wd)(st:List Stp):(kr w st).er=Xg w st:=by show PyData.tuple [wD w,.list (ersT ((st.map IS).map T.d))]=_;rw[gB];rfl
def zW:PSp where
 run:=λx Q _=>∃w:Wd,x=[.d (wD w)]/\WOk w/\∀h,CL w h->Q (kr w (cC w h).steps) []
theorem br{a:D}{l:LT}:vD [.d a,.lst l]=.tup [.d a,.lst l]:=rfl
theorem Hk{Ψ:PEv}(z:Ψ.sp "gone"=LL):JE Ψ tE zW DH bG:=by rintro _ Q _ ⟨w,rfl,x,q⟩;refine uA [bD (wD w)] ?_;delta tE;simp![↓zA (md:=[]) z rfl rfl];refine#[_,rfl,x,λh y=>?_];simp![↓br];exact#[(),q h y]
section
variable{w:Wd}{st:List Stp}{n m:Bool}{R:T->Prop}{xs:List (T×Bool)}{C:LT->Prop}{s:Stp}
theorem Ho:KA (.d (Xg w st)) n (.d (.int 0)) m R=R (.d (wD w)):=RA (i:=0) rfl
theorem Go:KA (.d (Xg w st)) n (.d (.int 1)) m R=R (.d (.list (st.map IS))):=RA (i:=1) rfl
theorem Vy:rB [] ((kr w st,kb)::xs) C=rB [] xs λts=>C (.d (Xg w st)::ts):=by have e:ZA [] ((kr w st,kb)::xs) []=(ZA [] xs []).map (.d (kr w st).er::·):=rfl;unfold rB;rw[e,Hs,kF]
theorem Do:KA (.d (IS s)) n (.d (.int 2)) m R=R (.d (.list (s.2.2.1.map nD))):=RA (i:=2) rfl
theorem vv:KA (.d (IS s)) n (.d (.int 3)) m R=R (.d (.list (s.2.2.2.map pr))):=RA (i:=3) rfl
end
theorem Mf{w:Wd}:∀(ns:LN) (g:Gs),g.taken.Sublist g.past->(g.past++ns).Nodup->∀s∈zj w g ns,s.2.2.1.Pairwise (· < ·)
 |[],_,_,_,s,hs=>by cases hs|n::r,g,hg,nd,s,hs=>by
  have z:(rQ w g n).Sublist (g.past++[n]):=by unfold rQ;split;exact hg.append (QCP _);exact hg.trans (List.sublist_append_left _ _)
  have nd:(g.past++[n]++r).Nodup:=by rw[Qz];exact nd
  rcases QL.mp hs with rfl|hs;have a:=G5 (PF w.es (rQ w g n) (xM w (g.past++[n])));have b:(srt (PF w.es (rQ w g n) (xM w (g.past++[n])))).Nodup:=(pM _).nodup_iff.mpr ((qA.trans z).nodup (qh.mp nd).1);exact a.imp_of_mem (S:=λx y=>x≠y->x<y) (λ_ _ h n=>Nat.lt_of_le_of_ne h n) |>.and (WH.mp b) |>.imp λh=>h.1 h.2;exact Mf r _ z nd s hs
theorem Fl{w:Wd}{ns:LN}(x:CL w ns):(AT (cC w ns).steps).Pairwise (· < ·):=by
 have nd:ns.Nodup:=x.1.nodup_iff.mpr QCf;rw[fZ];have h:=Mf (w:=w) ns g0 (QCP _) nd;rcases iQ (zj w g0 ns) with e|⟨l,s,e⟩
 rw[e];exact .nil;rw[e]at h ⊢;rw[OL];exact h s (QU _ QE)
def gI{α:Type}(l:List α)(i:Int)(d:α):α:=(NC l i).getD d
theorem xH{α:Type}{l:List α}{i:Int}{d:α}(h0:0<=i)(y:i<l.9):NC l i=jr (gI l i d)/\gI l i d∈l:=by let#[v,x,h]:=EL h0 y;unfold gI;rw[x];exact#[rfl,qa h]
theorem gE{α:Type}{f:α->D}{l:List α}{i:Int}(d:α){K:D->Prop}(h0:0<=i)(h:i<l.9)(q:K (f (gI l i d))):vF (NC (l.map f) i) K:=by rw[XF,(xH (d:=d) h0 h).1];exact#[_,rfl,q]
theorem GA(a:Int){m:Int}(h:0<m):0<=a % m/\a % m<m:=#[Int.emod_nonneg _ (),Int.emod_lt_of_pos _ h]
noncomputable def Fm{α:Type}(f:α->D)(p:α×Nat):T:=.d (.tuple [.int (p.2:Int),f p.1])
theorem rX{α:Type}(f:α->D)(l:List α):((l.map f).zipIdx.map λp=>T.d (.tuple [.int (p.2:Int),p.1]))=l.zipIdx.map (Fm f):=by rw[List.zipIdx_map,Qc];rfl
theorem xa{Ψ:PEv}{E:XE}{c:PX}{s y r:PT}{Z:PEnds}{o:Option Sl}{σ:kA}:vB Ψ E (.seq (.ife c s y) r) Z (o::σ)=yN Ψ c E (o::σ) λk x=>if k=kb then vB Ψ E s { Z with nx:=λh=>vB Ψ E r Z h } x else vB Ψ E y { Z with nx:=λh=>vB Ψ E r Z h } x:=rfl
section
variable{Ψ:PEv}{E:XE}{ρ:kA}{K:TK}{a h y g b c d:PX}{x:D}{n:Bool}{f:Str}{w:hE}{i:Int}{j:Nat}
def z0(x:T)(n:Bool)(Ψ:PEv)(h y:PX)(E:XE)(p:kA)(K:TK):Prop:=sq (α:=Option Int) (gA x n) p (if isNop h=kb then λρ (R:Option Int->kA->Prop)=>R kd ρ else λρ R=>(pe Ψ h E).e ρ λl _ m=>fG l.er λo=>R o m) λl m =>
   sq (α:=Option Int) (gA x n) m (if isNop y=kb then λρ (R:Option Int->kA->Prop)=>R kd ρ else λρ R=>(pe Ψ y E).e ρ λu _ v=>fG u.er λo=>R o v) λu v=>BI (gA x n).vw l u λz k=>K z k v
theorem nO:jB Ψ (.slc a h y) E ρ K=jB Ψ a E ρ λx n z=>z0 x n Ψ h y E z K:=rfl
theorem Ks:z0 (.d x) n Ψ .nop (.bin w a b) E ρ K=jB Ψ (.bin w a b) E ρ λu _ v=>tP u λo=>lH (.d x) n kd o λz k=>K z k v:=by cases n<;>rfl
theorem Gx:z0 (.d x) n Ψ .nop (.var j) E ρ K=jB Ψ (.var j) E ρ λu _ v=>tP u λo=>lH (.d x) n kd o λz k=>K z k v:=by cases n<;>rfl
theorem Hx:z0 (.d x) n Ψ .nop (.ng i) E ρ K=lH (.d x) n kd (jr (-i)) λz k=>K z k ρ:=by cases n<;>rfl
theorem Mx:z0 (.d x) n Ψ (.bin w a b) (.var j) E ρ K=jB Ψ (.bin w a b) E ρ λu _ l=>tP u λo=>jB Ψ (.var j) E l λv _ e=>tP v λp=>lH (.d x) n o p λz k=>K z k e:=by cases n<;>rfl
end
section
variable{k c m j:Int}{K:T->LT->Prop}{E:XE}{Ψ:PEv}{a b l:LN}{n:Bool}{Z:PEnds}{ws:LS}{o10:Option Sl}
def bB(h:LJ)(k:Int):Int:=if k<h.9 then gI h k 0 else 0
def KI:PSp where
 md:=[.shal]
 run:=λx Q _=>∃(h:LJ) (k:Int),x=[.lst ((h.map j1).map T.d),.d (.int k)]/\0<=k/\Q (.d (.int (bB h k))) []
theorem L8{a b:LJ}(h:(a.map j1).map T.d=(b.map j1).map T.d):a=b:=(Wh λx y e=>by injection e).mp ((Wh λx y e=>by injection e).mp h)
theorem FI{h:LJ}:rL KI [.lst ((h.map j1).map T.d),.d (.int k)] K E=(0<=k/\K (.d (.int (bB h k))) []):=o9 #[λ#[x,_,e,a,q]=>by injection e with e1 e2;injection e1 with e1;cases L8 e1;cases e2;exact#[a,q],λq=>#[h,k,rfl,q]]
theorem sd:JE Ψ XG KI lL OI:=by rintro _ Q _ ⟨h,k,rfl,h0,q⟩;refine uA [jr (.bor (.lst ((h.map j1).map T.d))),bD (.int k)] ?_;delta XG;simp![QD];unfold bB at q;by_cases c:k<h.9;rw[oa c]at q;rw[oa (dT c)];exact gE 0 h0 c q;rw[ot c]at q;rw[ot (λz=>c (QB z))];exact q
noncomputable def nI(c k:Int):Int:=c % 2147483647 * (69621+1511 * k * k) % 2147483629
def fA(c k:Int):Int:=(nI c k+k) * (nI c k+5 * k+1) % 2147483587
theorem Dl(c k:Int):0<=fA c k/\fA c k<2147483587:=GA _ (by decide)
def zG:PSp where
 run:=λh Q _=>∃c k:Int,h=[.d (.int c),.d (.int k)]/\(0<=k/\k<=1000)/\Q (.d (.int (fA c k))) []
theorem EG:rL zG [.d (.int c),.d (.int k)] K E=((0<=k/\k<=1000)/\K (.d (.int (fA c k))) []):=o9 #[λ#[_,_,e,a,q]=>by cases e;exact#[a,q],λq=>#[c,k,rfl,q]]
theorem Lk:JE Ψ iK zG gQ TM:=by rintro _ Q _ ⟨c,k,rfl,⟨h0,h⟩,q⟩;refine uA [bD (.int c),bD (.int k),kd] ?_;delta iK;simp![↓vA];have a:=GA c (show(0:Int)<2147483647 by decide);have b:0<=nI c k/\nI c k<2147483629:=GA _ (by decide);unfold nI at b;exact#[zP.ok (.inl #[by decide,by decide]),zP.ok (.inr #[(),()]),zP.ok (.inl #[(),()]),zP.ok (.inl #[by decide,by decide]),zP.ok (.inl #[(),()]),q]
def sS(l:LN):Str:=#[l.toArray]
theorem ZM(a b:LN):sS a++sS b=sS (a++b):=by show(#[a.toArray++b.toArray]:Str)=#[(a++b).toArray];rw[List.append_toArray]
theorem dE(l:LN):(sS l).9=l.length:=QO
theorem xW(l:LN):(sS l).cps.toList=l:=rfl
theorem Zj(h:sS a=sS b):a=b:=QP (λs:Str=>s.cps.toList) h
def BV(l:LN):Prop:=∀c∈l,c<128
theorem rg(h:BV l):OkS (sS l):=by show(l.toArray).all _=kb;rw[<- Array.all_toList,Qw];intro c hc;exact dT (QAU (h c hc) (by decide))
noncomputable abbrev mH:Str:="abcdefghijklmnopqrstuvwxyz"
def OB(n:Int):Nat:=97+(n % 26).toNat
theorem sN:mH.cps.toList=(Qm 26).map (·+97):=by decide +kernel
theorem EW(n:Int):OB n<128:=by have:=GA n (show(0:Int)<26 by decide);unfold OB;omega
theorem je(n:Int):NC mH.cps.toList (n % 26)=jr (OB n):=by
 have m:=GA n (show(0:Int)<26 by decide);have hl:mH.cps.toList.9=26:=by rw[sN];rfl
 let#[v,x,h]:=EL (xs:=mH.cps.toList) m.1 (by rw[hl];exact m.2);rw[x];rw[sN,Qa,ww ()]at h;have h:(n % 26).toNat+97=v:=Ql h;unfold OB;rw[<- h,Nat.add_comm]
theorem c8{P:Nat->Prop}(q:P (OB m)):mH.length<=ku/\vF (NC mH.cps.toList (m % 26)) P:=by rw[je,OA];exact#[by rw[show mH.length=26 from rfl];omega,q]
theorem yV{P:Str->Prop}(h:a.9+b.9<=1000)(q:P (sS (a++b))):(sS a).9+(sS b).9<=ku/\P (sS a++sS b):=by rw[dE,dE,ZM];exact#[(),q]
def nH:Int->Nat->LN
 |_,0=>[]|n,k+1=>OB n::nH (n / 26) k
theorem oC:∀(n:Int) (k:Nat),(nH n k).9=k
 |_,0=>rfl|n,k+1=>QP (·+1) (oC _ k)
theorem vH:∀(n:Int) (k:Nat),BV (nH n k)
 |_,0,c,h=>by cases h|n,k+1,c,h=>by rcases QL.mp h with rfl|h;exact EW n;exact vH _ k c h
noncomputable def NJ:PSp where
 run:=λh Q _=>∃n k:Int,h=[.d (.int n),.d (.int k)]/\(0<=k/\k<=100)/\Q (.d (.str (sS (nH n k.toNat)))) []
theorem HQ{n:Int}:rL NJ [.d (.int n),.d (.int k)] K E=((0<=k/\k<=100)/\K (.d (.str (sS (nH n k.toNat)))) []):=o9 #[λ#[_,_,e,a,q]=>by cases e;exact#[a,q],λq=>#[n,k,rfl,q]]
theorem Pk:JE Ψ VG NJ gL NI:=by
 rintro _ Q _ ⟨n,k,rfl,⟨h0,z⟩,q⟩;refine uA [bD (.int n),bD (.int k),kd,kd,kd] ?_;delta VG;simp![↓vA];refine#[(),(),?_];refine FA (λ(i:Nat)=>T.d (.int (i:Int))) (λr h=>∃m l x,l++nH m r.9=nH n k.toNat/\h=[bD (.int m),bD (.int k),bD (.str mH),bD (.str (sS l)),x]) ?_ ?_ _ _ #[n,[],kd,by rw[Qv];rfl,rfl];rintro h ⟨m,l,x,e,rfl⟩;have e:l=nH n k.toNat:=by rw[<- e];exact(Q5 _).symm
 subst e;simp![↓vA];exact q;rintro i r h N y ⟨m,l,x,e,rfl⟩;have hl:=QP qR e;rw[QI,oC,oC]at hl;delta UH;simp![↓vA];refine c8 (yV (a:=l) (b:=[OB m]) (P:=λs=>N [bD (.int (m / 26)),bD (.int k),bD (.str mH),bD (.str s),bD (.int (i:Int))]) (by show _+1<=_;omega) (y _ #[m / 26,l++[OB m],_,?_,rfl]));rw[Qz];exact e
noncomputable def Hr:LS:=["person","matter","against","see","tell","by","at","who","what","since","tellers"]
noncomputable def Gr:LS:=["wordings","apart","leans","hidden","strike","quote","ground","cut"]
def lst(z:Str):Nat:=z.cps.toList.getLast?.getD 0
def Ew(z:Str):Bool:=decide (1<=z.9)&&decide (z.9<=10)&&decide (97<=lst z)&&decide (lst z<=122)&&(qE mH (sS [lst z]) 0 mH.length 1).head?==jr (lst z - 97)
theorem Y8:((Hr++Gr).all Ew)=true:=by decide +kernel
def pO(l:LN):LN:=if sS l∈Hr++Gr then l.dropLast++[OB ((lst (sS l) - 97:Nat)+13)] else l
theorem Ii(h:BV l):BV (pO l):=by unfold pO;split;intro c hc;rcases Qd.mp hc with hc|hc;exact h c (List.dropLast_subset l hc);rw[QJ.mp hc];exact EW _;exact h
theorem oY(l:LN):(pO l).9=l.length:=by unfold pO;split;rename_i c;have k:=Qw.mp Y8 _ c;unfold Ew at k;rw[QW,QW,QW,QW,Qe,dE]at k;have:=k.1.1.1.1;rw[QI,wb];show l.9 - 1+1=_;omega;rfl
theorem B5{p:Nat}(h:l[p]?=jr (OB m)):∃u:Int,(pO l)[p]?=jr (OB (m+13 * u)):=by
 unfold pO;split;have y:p<l.length:=(Qg.mp h).1;by_cases c:p<l.9 - 1;refine#[0,?_];rw[show m+13 * 0=m from Int.add_zero m,qP (by rw[wb];exact c),List.getElem?_dropLast,oa c];exact h;refine#[1,?_];have e:p=l.9 - 1:=()
 rw[Qy (by rw[wb];omega),wb,e,QBQ];have x:lst (sS l)=OB m:=by unfold lst;rw[xW,QAh,<- e,h];rfl
 rw[x];show jr (OB (((97+(m % 26).toNat - 97:Nat):Int)+13))=jr (OB (m+13));rw[Nat.add_sub_cancel_left,Int.toNat_of_nonneg (GA m (by decide)).1];unfold OB;rw[Int.emod_add_emod];exact#[0,(show m+13 * 0=m from Int.add_zero m).symm▸h]
def jG:PSp where
 run:=λh Q _=>∃l:LN,h=[.d (.str (sS l))]/\l.9<=100/\Q (.d (.str (sS (pO l)))) []
theorem zZ(ks:LS):(ks.map j0).all YB=true:=by rw[Qw];intro y h;let#[x,_,rfl]:=QX.mp h;rfl
theorem J8(ks:LS)(z:Str):((ks.map j0).any λy=>Qp y (.str z))=decide (z∈ks):=by rw[Q8,w4,Qe];constructor;rintro⟨y,u,h⟩;let#[x,v,rfl]:=QX.mp u;rw[gK,Qe]at h;exact h▸v;exact λh=>#[_,QX.mpr #[z,h,rfl],by rw[gK];exact dT rfl]
theorem O5(h:1<=l.9):WB (sS l) kd (jr (-1))=sS l.dropLast:=by show QAq (sS l) kd (jr (-1))=_;rw[StrLaws.sliceText_to_neg (by decide) (by rw[dE];omega),List.drop_zero,dE,xW,List.dropLast_eq_take];unfold sS;congr 3;omega
theorem Jv{m:Bool}{R:T->Prop}(h:1<=l.9)(y:l.9<=10):KA (.d (.str (sS l))) n (.d (.int (-1))) m R=R (.d (.str (sS [lst (sS l)]))):=by
 have x:NC (sS l).cps.toList (-1)=jr (lst (sS l)):=by unfold lst NC FR;rw[xW,ot (by decide),oa ()];show l[_]?=_;rw[show((-1:Int)+l.9).toNat=l.9 - 1 by omega,QAh,Qi ()];rfl
 rw[uv,x,OA,dE];exact o9 #[λh=>h.2,λh=>#[(),h]]
theorem L5{Q:T->LT->Prop}{z:Str}{w:Option Sl}(hk:z∈Hr++Gr)(q:Q (.d (.str (sS (pO z.cps.toList)))) []):OD Ψ (λ_=>False) (eZ Q).rt (.bin .Add (.slc (.var 0) .nop (.ng 1)) (.idx (.var 1) (.bin .Mod (.bin .Add (.mt .index (.var 1) %[.idx (.var 0) (.ng 1)|1]) (.int 13)) (.int 26)))) [bD (.str z),bD (.str mH),w]:=by
 have k:=Qw.mp Y8 z hk;unfold Ew at k;rw[QW,QW,QW,QW,Qe,Qe,Qe,Qe,beq_iff_eq]at k;let#[#[#[#[x,v],g],f],h]:=k;have e:z=sS z.cps.toList:=rfl;generalize hl:z.cps.toList=l at *;subst e;rw[dE]at x v;cases y:qE mH (sS [lst (sS l)]) 0 mH.length 1 with|nil=>rw[y]at h;cases h|cons i u=>rw[y]at h;have h:i=lst (sS l) - 97:=Ql h;unfold pO at q;rw[oa hk,<- h]at q;rw[ga,Ca,nO];simp![↓Hx];refine#[by rw[dE];omega,?_];rw[O5 x];refine Oy y (λK=>rfl) (λK=>?_) ?_;exact Jv x v;simp![↓vA];exact c8 (yV (a:=l.dropLast) (b:=[OB ((i:Int)+13)]) (P:=λs=>Q (.d (.str s)) []) (by rw[wb];show _+1<=_;omega) q)
theorem l7:JE Ψ tK jG cQ PM:=by rintro _ Q _ ⟨l,rfl,hl,q⟩;refine uA [bD (.str (sS l)),kd,kd] ?_;delta tK;simp_arith![↓vA];refine#[(),?_];show sO Ψ (λ_=>False) _ (eZ Q) 2 (.lst ((Hr.map j0).map T.d)) kb [bD (.str (sS l)),bD (.str mH),kd];rw[Su];simp![↓Bt];rw[J8];refine#[.inl #[rfl,zZ _],?_];by_cases x:sS l∈Hr;rw[dT x];exact L5 (Qn _ x) q;rw[dF x];refine#[(),?_];show PB .In (.d (.str (sS l))) (.d (.list (Gr.map j0))) _;rw[F9,J8];refine#[.inl #[rfl,zZ _],?_];by_cases h:sS l∈Gr;rw[dT h];exact L5 (QU _ h) q;rw[dF h];unfold pO at q;rw[ot λz=>(Qd.mp z).elim x h]at q;exact q
def UF(n:Int):LN:=nH (n * n+n) 8
def rH(n:Int):Int:=1+n / 3 % 8
def x5(n:Int):Int:=n / 24 % rH n
def CB(c:Int)(k:Nat):LN :=
 if fA c 1 % 3=0 then(UF (fA c 1)).take (x5 (fA c 1)).toNat++[OB (fA c 1 / 192+k)]++((UF (fA c 1)).drop (x5 (fA c 1)+1).toNat).take (rH (fA c 1) - (x5 (fA c 1)+1)).toNat
 else if fA c 1 % 3=1 then(UF (fA c 1)).take (1+(fA c 1 / 24+k) % 8).toNat
 else([OB (fA c 1 / 192+k)]++nH (fA c (k+2)) 7).take (1+fA c (k+40) % 8).toNat
theorem R4(n:Int):(1<=rH n/\rH n<=8)/\0<=x5 n/\x5 n<rH n:=by
 have a:=GA (n / 3) (show(0:Int)<8 by decide);have b:1<=rH n/\rH n<=8:=by unfold rH;omega
 exact#[b,GA _ ()]
theorem BV.take(h:BV l)(n:Nat):BV (l.take n):=λc hc=>h c (List.mem_of_mem_take hc)
theorem BV.drop(h:BV l)(n:Nat):BV (l.drop n):=λc hc=>h c (List.mem_of_mem_drop hc)
theorem BV.app(h:BV a)(g:BV b):BV (a++b):=λc hc=>(Qd.mp hc).elim (h c) (g c)
theorem u8(n:Int):BV [OB n]:=λc hc=>by rw[QJ.mp hc];exact EW n
theorem jb(c:Int)(k:Nat):BV (CB c k):=by
 unfold CB;split;exact(((vH _ _).take _).app (u8 _)).app (((vH _ _).drop _).take _);split
 ·exact(vH _ _).take _
 exact((u8 _).app (vH _ _)).take _
theorem bz(a b c:Nat):min a 8+1+min b (8 - c)<=17:=Nat.add_le_add (Nat.add_le_add_right (WO _ _) 1) (QS (WO _ _) (Nat.sub_le _ _))
theorem E4(c:Int)(k:Nat):(CB c k).9<=20:=by
 have b:(UF (fA c 1)).9=8:=oC _ _;unfold CB;split;rw[QI,QI,qI,qI,W5,b];exact QS (bz _ _ _) (by decide);split
 ·rw[qI,b];exact QS (WO _ _) (by decide)
 rw[qI,QI,oC];exact QS (WO _ (1+7)) (by decide)
theorem Ea{i j:Nat}(r:i<6)(q:j<6)(h:pO (CB c i)=pO (CB c j)):i=j:=by
 have key:∀(p:Nat) (a:Int),(∀k,(CB c k)[p]?=jr (OB (a+k)))->i=j:=λp a e=>by
  let#[u,f]:=B5 (e i);let#[v,o]:=B5 (e j);rw[h]at f;have l:∀{x y:Int},OB x=OB y->x % 26=y % 26:=λ{x y} e=>by have:=GA x (show(0:Int)<26 by decide);have:=GA y (show(0:Int)<26 by decide);unfold OB at e;omega
  have:=l (Ql (f.symm.trans o));omega
 have b:(UF (fA c 1)).9=8:=oC _ _;have ws:=R4 (fA c 1);by_cases z:fA c 1 % 3=0;refine key (x5 (fA c 1)).toNat (fA c 1 / 192) λk=>?_;unfold CB;have g:((UF (fA c 1)).take (x5 (fA c 1)).toNat).9=(x5 (fA c 1)).toNat:=by rw[qI,b];omega
 rw[oa z,Qz,Qy (),g,QBQ];rfl;by_cases w:fA c 1 % 3=1
 ·have e:=QP qR h
  rw[oY,oY]at e;have a:∀k,(CB c k).9=(1+(fA c 1 / 24+k) % 8).toNat:=λk=>by have:=GA (fA c 1 / 24+k) (show(0:Int)<8 by decide);unfold CB;rw[ot z,oa w,qI,b];omega
  rw[a,a]at e;have:=GA (fA c 1 / 24+i) (show(0:Int)<8 by decide);have:=GA (fA c 1 / 24+j) (show(0:Int)<8 by decide);omega
 refine key 0 (fA c 1 / 192) λk=>?_;have m:=GA (fA c (k+40)) (show(0:Int)<8 by decide);unfold CB;rw[ot z,ot w];obtain⟨t,e⟩:∃t,(1+fA c (k+40) % 8).toNat=t+1:=#[(fA c (k+40) % 8).toNat,()]
 rw[e];rfl
def jF(c:Int)(m:Nat):LS:=if fA c 1 / 5000 % 2=1 then((Qm m).map λk=>sS (pO (CB c k))).reverse else(Qm m).map λk=>sS (pO (CB c k))
theorem FS(c:Int){m:Nat}(h:m<=6):(jF c m).Nodup/\(jF c m).9=m/\∀x∈jF c m,OkS x:=by
 have nd:((Qm m).map λk=>sS (pO (CB c k))).Nodup:=by refine QCN.mpr (wo (λ{i j} v u z e=>z ?_) QCf);have:=qK.mp v;have:=qK.mp u;exact Ea () () (Zj e)
 have ok:∀x∈(Qm m).map λk=>sS (pO (CB c k)),OkS x:=λx y=>by let#[k,_,rfl]:=QX.mp y;exact rg (Ii (jb c k))
 unfold jF;split;exact#[(List.reverse_perm _).nodup_iff.mpr nd,by rw[wx,QD,Qv],λx y=>ok x (QCg.mp y)];exact#[nd,by rw[QD,Qv],ok]
def iI:PSp where
 run:=λh Q _=>∃(c:Int) (m:Nat),h=[.d (.int c),.d (.int (m:Int)),.d (.int 8)]/\m<=10/\Q (.lst (((jF c m).map j0).map T.d)) []
theorem iM(h0:0<=j)(h:j<=l.9):WB (sS l) kd (jr j)=sS (l.take j.toNat):=by show QAq (sS l) kd (jr j)=_;rw[StrLaws.sliceText_to #[h0,h],List.drop_zero,Int.sub_zero];rfl
theorem y0{i:Int}(h0:0<=i)(x:i<=j)(h:j<=l.9):WB (sS l) (jr i) (jr j)=sS ((l.drop i.toNat).take (j - i).toNat):=by show QAq (sS l) (jr i) (jr j)=_;rw[StrLaws.sliceText_plain #[h0,x,h]];rfl
def z5(c:Int)(m:Int)(ws:LS)(x o10 h:Option Sl):kA:=[bD (.int c),bD (.int m),bD (.int 8),bD (.str mH),bD (.int (fA c 1)),bD (.str (sS (UF (fA c 1)))),bD (.int (rH (fA c 1))),bD (.int (x5 (fA c 1))),oW (.lst ((ws.map j0).map T.d)),x,o10,h]
theorem Ro(x:Ψ.sp "_law_spelt"=jG){h:Option Sl}(hl:l.9<=20)(y:ws.length<=100)(q:Z.nx (z5 c m (ws++[sS (pO l)]) h o10 (bD (.str (sS l))))):pF Ψ lD Z (z5 c m ws h o10 (bD (.str (sS l)))):=by unfold z5 at q;rw[QN,QN]at q;delta z5;delta lD;simp![↓zA (md:=[]) x rfl rfl];refine#[_,rfl,(),?_];simp![QD];exact#[(),q]
theorem Bv(X:Ψ.sp "_law_spelt"=jG)(s:Ψ.sp "_law_mixed"=zG)(p:Ψ.sp "_law_letters"=NJ){k:Nat}{h:Option Sl}(hk:k<=100)(f:ws.length<=100)(q:∀o10 h,Z.nx (z5 c m (ws++[sS (pO (CB c k))]) (bD (.int (k:Int))) o10 h)):pF Ψ KG Z (z5 c m ws (bD (.int (k:Int))) o10 h):=by
 have v:(UF (fA c 1)).9=8:=oC _ _;have g:=R4 (fA c 1);have r:∀(l:LN) (o10:Option Sl),l=CB c k->pF Ψ lD Z (z5 c m ws (bD (.int (k:Int))) o10 (bD (.str (sS l)))):=by rintro l o10 rfl;exact Ro X (E4 c k) f (q _ _)
 delta z5;delta KG;simp![↓xa];refine c8 ?_;have w:(sS (UF (fA c 1))).9<=sizeLine:=by rw[dE,v];omega
 by_cases y:fA c 1 % 3=0;have x:WB (sS (UF (fA c 1))) kd (jr (x5 (fA c 1)))=_:=iM g.2.1 ();have i:WB (sS (UF (fA c 1))) (jr (x5 (fA c 1)+1)) (jr (rH (fA c 1)))=_:=y0 () () ();have r:=r _ (bD (.str (sS [OB (fA c 1 / 192+k)]))) (show _=CB c k from(oa y).symm);rw[<- ZM,<- ZM]at r;rw[oa (dT y)];simp![↓nO,↓Gx,↓Mx,↓zc,x,i];refine#[w,(yV (P:=λ_=>True) (b:=[OB (fA c 1 / 192+k)]) (by rw[qI,v];show _+1<=_;omega) trivial).1,w,?_,r];rw[show(#[(qG [OB (fA c 1 / 192+k)])]:Str)=sS [OB (fA c 1 / 192+k)] from rfl,ZM];refine(yV (P:=λ_=>True) ?_ trivial).1;rw[QI,qI,qI,W5,v];exact QS (bz _ _ _) (by decide);rw[ot λz=>y (QB z)];by_cases u:fA c 1 % 3=1;have m:=GA (fA c 1 / 24+k) (show(0:Int)<8 by decide);have x:WB (sS (UF (fA c 1))) kd (jr (1+(fA c 1 / 24+k) % 8))=_:=iM () ();have r:=r _ (bD (.str (sS [OB (fA c 1 / 192+k)]))) (show _=CB c k from((ot y).trans (oa u)).symm);rw[oa (dT u)];simp![↓nO,↓Ks,↓zc,x];exact#[w,r];have m:=GA (fA c (k+40)) (show(0:Int)<8 by decide);have o:([OB (fA c 1 / 192+k)]++nH (fA c (k+2)) 7).9=8:=by rw[QI,oC];rfl
 have x:WB (sS ([OB (fA c 1 / 192+k)]++nH (fA c (k+2)) 7)) kd (jr (1+fA c (k+40) % 8))=_:=iM () ();have r:=r _ (bD (.str (sS [OB (fA c 1 / 192+k)]))) (show _=CB c k from((ot y).trans (ot u)).symm);rw[ot λz=>u (QB z)];simp_arith![↓nO,↓Ks,↓zc,↓zA (md:=[]) s rfl rfl,↓zA (md:=[]) p rfl rfl,↓EG,↓HQ];have e:(#[(qG [OB (fA c 1 / 192+k)])]:Str)++sS (nH (fA c (k+2)) (QCr 7))=sS ([OB (fA c 1 / 192+k)]++nH (fA c (k+2)) 7):=ZM _ _;rw[e,x];refine#[(),(),(yV (a:=[OB (fA c 1 / 192+k)]) (b:=nH (fA c (k+2)) 7) (P:=λ_=>True) (by rw[oC];show 1+7<=_;omega) trivial).1,(),(),by rw[dE,o];omega,r]
theorem gw{ds:List D}{Q:T->Bool->Prop}(q:Q (.lst (ds.reverse.map T.d)) kb):Sb (gA (.lst (ds.map T.d)) n).vw Q:=by rw[YD];exact#[_,ds,rfl,VA ds,q]
theorem f7(s:Ψ.sp "_law_spelt"=jG)(f:Ψ.sp "_law_mixed"=zG)(w:Ψ.sp "_law_letters"=NJ):JE Ψ sK iI bQ OM:=by rintro _ Q _ ⟨c,m,rfl,hm,q⟩;have X:=R4 (fA c 1);have Y:=Dl c 1;refine uA [bD (.int c),bD (.int (m:Int)),bD (.int 8),kd,kd,kd,kd,kd,kd,kd,kd,kd] ?_;delta sK;simp![↓zA (md:=[]) f rfl rfl,↓zA (md:=[]) w rfl rfl,↓EG,↓HQ];refine#[zP.ok (.inl #[(),()]),(),(),(),(),?_];rw[qX];refine FA (λ(i:Nat)=>T.d (.int (i:Int))) (λr u=>∃ws v o10 h,ws++r.map (λk=>sS (pO (CB c k)))=(Qm m).map (λk=>sS (pO (CB c k)))/\(∀k∈r,k<=100)/\u=z5 c m ws v o10 h) ?_ ?_ _ _ #[[],kd,kd,kd,rfl,λk hk=>by have:=qK.mp hk;omega,rfl];rintro u ⟨ws,v,o10,h,e,_,rfl⟩;rw[wT,Q5]at e;subst e;delta z5;unfold jF at q;simp![↓vA];by_cases y:fA c 1 / 5000 % 2=1;rw[oa y]at q;rw[oa (dT y)];show Sb (gA (T.lst ((((Qm m).map λk=>sS (pO (CB c k))).map j0).map T.d)) kn).vw λz k=>RF z k=kb/\Q z [];refine gw ?_;rw[<- W9];exact#[rfl,q];rw[ot y]at q;rw[ot λz=>y (QB z)];exact q;rintro k r u N p ⟨ws,v,o10,h,e,g,rfl⟩;have hl:=QP qR e;rw[QI,QD,QD,Qv]at hl;delta z5;refine Bv s f w (g k QE) () λo10 h=>p _ #[_,_,o10,h,?_,λx o=>g x (QF _ o),rfl];rw[Qz];exact e
def B6(x:Str)(m:Int):Str×Int×Int×Int:=(x,gI [99,50,20,99,0,50,99,21] (m / 6 % 8) 0,gI [0,0,0,20,50,99] (m % 6) 0,gI [1,1,1,2,2,3] (m / 48 % 6) 0)
def jW:PSp where
 run:=λh Q _=>∃(x:Str) (m:Int),h=[.d (.str x),.d (.int m)]/\Q (.d (dG (B6 x m))) []
end
section
variable{a b c d e f g h:D}{n m:Bool}{t:T}{R:T->Prop}
theorem Zv:KA (.lst [.d a,.d b,.d c,.d d,.d e,.d f]) n t m R=KA (.lst ([a,b,c,d,e,f].map T.d)) n t m R:=rfl
theorem Yv:KA (.lst [.d a,.d b,.d c,.d d,.d e,.d f,.d g,.d h]) n t m R=KA (.lst ([a,b,c,d,e,f,g,h].map T.d)) n t m R:=rfl
end
section
variable{Ψ:PEv}{k j:Nat}{ms ns:LS}{m X i x:Int}{Z:PEnds}{s:Int×List Pt}{Y:Str}{n:Bool}{evs:List Evt}{a b:D}
theorem Fk:JE Ψ bI jW uO PK:=by rintro _ Q _ ⟨x,m,rfl,q⟩;have z:=GA m (show(0:Int)<6 by decide);have y:=GA (m / 6) (show(0:Int)<8 by decide);have h:=GA (m / 48) (show(0:Int)<6 by decide);refine uA [bD (.str x),bD (.int m),kd,kd] ?_;delta bI;simp_arith![↓Zv,↓Yv];refine#[(),gE (f:=j1) (l:=[0,0,0,20,50,99]) 0 z.1 z.2 ?_];refine#[(),gE (f:=j1) (l:=[99,50,20,99,0,50,99,21]) 0 y.1 y.2 ?_];refine#[(),gE (f:=j1) (l:=[1,1,1,2,2,3]) 0 h.1 h.2 ?_];exact#[(),q]
def Mn(ms:LS)(m:Int)(j k:Nat):List Pt:=if m % 3=0 then[(gI ms (j:Int) "",gI ms (k:Int) "")] else if m % 3=1 then[(gI ms (k:Int) "",gI ms (j:Int) "")] else[]
def df(ms:LS)(j:Nat)(s:Int×List Pt)(k:Nat):Int×List Pt:=(s.1 / 3,s.2++Mn ms (s.1 / 3) j k)
def gf(ms:LS)(s:Int×List Pt)(j:Nat):Int×List Pt:=(Qm j).foldl (df ms j) s
def Jt(ms:LS)(m:Int):List Pt:=((Qm ms.9).foldl (gf ms) (m,[])).2
theorem ER{α:Type}{l:List α}{d:α}(h:k<l.9):NC l (k:Int)=jr (gI l (k:Int) d)/\gI l (k:Int) d∈l:=xH (QB8 k) ()
def ZV(ms:LS)(l:List Pt):Prop:=∀p∈l,p.1∈ms/\p.2∈ms
theorem S9(y:j<ms.9)(hk:k<ms.9):ZV ms (Mn ms m j k)/\(Mn ms m j k).9<=1:=by
 have a:=(ER (d:=("":Str)) y).2;have b:=(ER (d:=("":Str)) hk).2;unfold Mn;split;exact#[λp h=>by rw[QJ.mp h];exact#[a,b],QZ _];split
 ·exact#[λp h=>by rw[QJ.mp h];exact#[b,a],QZ _]
 exact#[λp h=>(by cases h),Qs _]
theorem IX{ms:LS}{j:Nat}(y:j<ms.9):∀(l:LN) (s:Int×List Pt),(∀k∈l,k<ms.9)->ZV ms s.2->ZV ms (l.foldl (df ms j) s).2/\(l.foldl (df ms j) s).2.length<=s.2.9+l.9
 |[],s,_,h=>#[h,QZ _]|k::l,s,hl,h=>by let#[a,b]:=S9 (m:=s.1 / 3) y (hl k QE);let#[c,d]:=IX y l (df ms j s k) (λx z=>hl x (QF _ z)) λp u=>(Qd.mp u).elim (h p) (a p);refine#[c,QS d ?_];show(s.2++Mn ms (s.1 / 3) j k).9+l.9<=s.2.9+(l.9+1);rw[QI];omega
theorem T9{ms:LS}(hm:ms.9<=10):∀(l:LN) (s:Int×List Pt),(∀k∈l,k<ms.9)->ZV ms s.2->ZV ms (l.foldl (gf ms) s).2/\(l.foldl (gf ms) s).2.length<=s.2.9+10 * l.9
 |[],s,_,h=>#[h,QZ _]|j::l,s,hl,h=>by have y:=hl j QE;let#[a,b]:=IX y (Qm j) s (λk hk=>QAU (qK.mp hk) y) h;let#[c,d]:=T9 hm l (gf ms s j) (λx z=>hl x (QF _ z)) a;rw[Qv]at b;refine#[c,QS d ?_];show((Qm j).foldl (df ms j) s).2.length+_<=s.2.9+10 * (l.9+1);omega
theorem Nn(hm:ms.9<=10)(m:Int):ZV ms (Jt ms m)/\(Jt ms m).9<=100:=by
 let#[a,b]:=T9 hm (Qm ms.9) (m,[]) (λk hk=>qK.mp hk) λp h=>by cases h
 rw[Qv]at b;exact#[a,QS b (by show 0+_<=_;omega)]
def UQ:PSp where
 run:=λh Q _=>∃(ms:LS) (m:Int),h=[.d (.list (ms.map j0)),.d (.int m)]/\ms.9<=10/\Q (.lst (((Jt ms m).map pr).map T.d)) []
noncomputable def R9(ms:LS)(s:Int×List Pt)(o3 o4:Option Sl):kA:=[bD (.list (ms.map j0)),bD (.int s.1),oW (.lst ((s.2.map pr).map T.d)),o3,o4]
theorem ny(w:j<ms.9)(hk:k<ms.9)(e:s.2.9<=1000)(q:Z.nx (R9 ms (df ms j s k) (bD (.int (j:Int))) (bD (.int (k:Int))))):pF Ψ eE Z (R9 ms s (bD (.int (j:Int))) (bD (.int (k:Int)))):=by
 have u:NC (ms.map j0) (k:Int)=jr (.str (gI ms (k:Int) "")):=by rw[XF,(ER (d:=("":Str)) hk).1];rfl
 have v:NC (ms.map j0) (j:Int)=jr (.str (gI ms (j:Int) "")):=by rw[XF,(ER (d:=("":Str)) w).1];rfl
 unfold R9 df Mn at q;delta R9;delta eE;simp![↓xa];by_cases y:s.1 / 3 % 3=0;rw[oa y,QN,QN]at q;rw[oa (dT y)];simp![u,v,QD];exact#[(),(),q];rw[ot y]at q;rw[ot λz=>y (QB z)];by_cases h:s.1 / 3 % 3=1;rw[oa h,QN,QN]at q;rw[oa (dT h)];simp![u,v,QD];exact#[(),(),q];rw[ot h,Q5]at q;rw[ot λz=>h (QB z)];exact q
theorem my{o4:Option Sl}(z:j<ms.9)(hm:ms.9<=10)(hs:ZV ms s.2)(g:s.2.9<=100)(q:∀o4,Z.nx (R9 ms (gf ms s j) (bD (.int (j:Int))) o4)):pF Ψ aE Z (R9 ms s (bD (.int (j:Int))) o4):=by delta R9;delta aE;simp![qX];refine#[(),(),?_];refine FA (λ(i:Nat)=>T.d (.int (i:Int))) (λr y=>∃h o4,r.foldl (df ms j) h=gf ms s j/\(h.2.9+r.9<=200/\∀k∈r,k<ms.9)/\y=R9 ms h (bD (.int (j:Int))) o4) ?_ ?_ _ _ #[s,o4,rfl,#[by rw[Qv];omega,λk hk=>QAU (qK.mp hk) z],rfl];rintro y ⟨h,o4,e,_,rfl⟩;have e:h=gf ms s j:=e;subst e;delta R9;simp![↓vA];exact q _;rintro k r y N f ⟨h,o4,e,⟨v,u⟩,rfl⟩;have v:h.2.9+(r.9+1)<=200:=v;have hk:=u k QE;refine ny z hk () (f _ #[_,_,e,#[?_,λx w=>u x (QF _ w)],rfl]);have:=(S9 (ms:=ms) (m:=h.1 / 3) z hk).2;show(h.2++Mn ms (h.1 / 3) j k).9+r.9<=200;rw[QI];omega
theorem td:JE Ψ UG UQ mL RI:=by rintro _ Q _ ⟨ms,m,rfl,hm,q⟩;refine uA [bD (.list (ms.map j0)),bD (.int m),kd,kd,kd] ?_;delta UG;simp![QD,qX];refine#[(),(),(),?_];refine FA (λ(i:Nat)=>T.d (.int (i:Int))) (λr z=>∃h u y,r.foldl (gf ms) h=(Qm ms.9).foldl (gf ms) (m,[])/\(h.2.9+10 * r.9<=100/\ZV ms h.2/\∀k∈r,k<ms.9)/\z=R9 ms h u y) ?_ ?_ _ _ #[(m,[]),kd,kd,rfl,#[by rw[Qv];show 0+_<=_;omega,(λp o=>by cases o),λk hk=>qK.mp hk],rfl];rintro z ⟨h,u,y,e,_,rfl⟩;have e:h.2=Jt ms m:=QP QBV e;delta R9;simp![↓vA];rw[e];exact q;rintro j r z N W ⟨h,u,y,e,⟨g,f,w⟩,rfl⟩;have g:h.2.9+10 * (r.9+1)<=100:=g;have v:=w j QE;let#[a,b]:=IX v (Qm j) h (λk hk=>QAU (qK.mp hk) v) f;rw[Qv]at b;refine my v hm f () λy=>W _ #[_,_,y,e,#[?_,a,λx l=>w x (QF _ l)],rfl];show((Qm j).foldl (df ms j) h).2.length+10 * r.9<=100;omega
noncomputable def jg(Y:Str)(X:Int)(s:Str×LS):Evt->Str×LS
 | .see _ _ _ _=>s|.tell _ a b m _ _=>if b=s.1/\m=Y/\(s.2.9:Int)<X then(a,s.2++[a]) else s
theorem r6{s:Str×LS}{t:Int}{a b m w:Str}{q:LS}:jg Y X s (.tell t a b m w q)=if b=s.1/\m=Y/\(s.2.9:Int)<X then(a,s.2++[a]) else s:=rfl
def Jw(evs:List Evt)(x Y:Str)(X:Int):LS:=(evs.reverse.foldl (jg Y X) (x,[])).2
def lJ(evs:List Evt):T:=.lst ((evs.map XC).map T.d)
def sM:PSp where
 md:=[.shal]
 run:=λh Q _=>∃(evs:List Evt) (x Y:Str) (X:Int),h=[lJ evs,.d (.str x),.d (.str Y),.d (.int X)]/\evs.9<=1000/\Q (.d (.tuple ((Jw evs x Y X).map j0))) []
def xo(evs:List Evt)(x Y:Str)(X:Int)(s:Str×LS)(o6:Option Sl):kA:=[jr (.bor (lJ evs)),bD (.str x),bD (.str Y),bD (.int X),oW (.lst ((s.2.map j0).map T.d)),bD (.str s.1),o6]
theorem Zg{ds:List D}{Q:T->Bool->Prop}:jQ .tuple [(.lst (ds.map T.d),n)] Q=Q (.d (.tuple ds)) false:=by unfold jQ AB;rw[YD];show x4 .tuple [.ls (ds.map T.d)] Q=_;rw[gh];exact o9 #[λ#[_,e,q]=>by rw[VA]at e;cases e;exact q,λq=>#[_,VA _,q]]
theorem Yw{x:Str}{s:Str×LS}{e:Evt}(hl:s.2.9<=10000)(q:Z.nx (xo evs x Y X (jg Y X s e) (bD (XC e)))):pF Ψ bE Z (xo evs x Y X s (bD (XC e))):=by
 delta xo;cases e with|see t p m v=>delta bE;simp![↓nQ,X4];exact pG (show decide ((QY "see")=(QY "tell"))≠kb by decide) q|tell t a b m v w=>rw[r6]at q;delta bE;simp![↓nQ,X4,↓O4,↓CS,↓BS,QD];by_cases u:b=s.1;rw[oa (dT u)];by_cases y:m=Y;rw[oa (dT y)];by_cases h:(s.2.9:Int)<X;rw[oa #[u,y,h]]at q;unfold xo at q;rw[QN,QN]at q;rw[oa (dT h)];exact#[(),q];rw[ot λz=>h z.2.2]at q;rw[ot λz=>h (QB z)];exact q;rw[ot λz=>y z.2.1]at q;rw[ot λz=>y (QB z)];exact q;rw[ot λz=>u z.1]at q;rw[ot λz=>u (QB z)];exact q
theorem jc(Y:Str)(X:Int)(s:Str×LS)(e:Evt):(jg Y X s e).2.length<=s.2.9+1:=by
 cases e with|see t p m h=>exact qz _|tell t a b m h q=>rw[r6];split;show(s.2++[a]).9<=_;rw[QI];exact QZ _;exact qz _
theorem t7:JE Ψ aK sM dQ RM:=by rintro _ Q _ ⟨evs,x,Y,X,rfl,hl,q⟩;refine uA [jr (.bor (lJ evs)),bD (.str x),bD (.str Y),bD (.int X),kd,kd,kd] ?_;delta lJ;delta aK;simp![↓vA];refine#[(),?_];rw[<- W9,<- rA XC];refine FA (λe=>T.d (XC e)) (λr h=>∃s y,r.foldl (jg Y X) s=evs.reverse.foldl (jg Y X) (x,[])/\s.2.9+r.9<=1000/\h=xo evs x Y X s y) ?_ ?_ _ _ #[(x,[]),kd,rfl,by rw[wx];show 0+_<=_;omega,rfl];rintro h ⟨s,y,e,_,rfl⟩;have e:s.2=Jw evs x Y X:=QP QBV e;delta xo;simp![↓Zg];rw[e];exact q;rintro ev r h N z ⟨s,y,e,g,rfl⟩;have g:s.2.9+(r.9+1)<=1000:=g;have:=jc Y X s ev;exact Yw () (z _ #[_,_,e,(),rfl])
def du(ns ms:LS):Evt->Prop
 | .see _ p m h=>p∈ns/\m∈ms/\OkS h|.tell _ a b m h q=>a∈ns/\b∈ns/\m∈ms/\a≠b/\OkS h/\∀x∈q,x∈ns
theorem t6{ns ms:LS}{Y:Str}{X:Int}:∀(l:List Evt) (s:Str×LS),(∀e∈l,du ns ms e)->(∀x∈s.2,x∈ns)->∀x∈(l.foldl (jg Y X) s).2,x∈ns
 |[],s,_,h=>h|e::l,s,hl,h=>by
  refine t6 l (jg Y X s e) (λx y=>hl x (QF _ y)) λx y=>?_;have u:=hl e QE;cases e with
  |see t p m z=>exact h x y|tell t a b m z q =>
   rw[r6]at y;split at y;rcases Qd.mp y with y|y
   ·exact h x y
   rw[QJ.mp y];exact u.1;exact h x y
def eL(ns:LS)(r:Int):Int:=r % (ns.9:Int)
noncomputable def Fc(ns:LS)(r:Int):Int:=(eL ns r+1+r / 360 % ((ns.9:Int) - 1)) % (ns.9:Int)
def SY(ns:LS)(i:Int):Str:=gI ns i ""
def fo(ms:LS)(r:Int):Str:=gI ms (r / 7 % (ms.9:Int)) ""
def Yu(m:Int):Int:=gI [m / 3 % 5,m / 3 % 30,999999999 - m / 3 % 4] (m % 3) 0
def So(r:Int):Str:=sS (nH r (1+r / 11 % 8).toNat)
def Zw(evs:List Evt)(ns ms:LS)(r:Int):LS:=if r / 10000 % 5=0 then(Qm (1+r / 2500 % 3).toNat).map λ(k:Nat)=>SY ns ((r / 50000+2 * (k:Int)) % (ns.9:Int)) else Jw evs (SY ns (eL ns r)) (fo ms r) (r / 2500 % 4)
def Cs(evs:List Evt)(ns ms:LS)(m:Int):Evt:=if m / 40 / 90 % 4=0 then .see (Yu m) (SY ns (eL ns (m / 40))) (fo ms (m / 40)) (So (m / 40)) else .tell (Yu m) (SY ns (eL ns (m / 40))) (SY ns (Fc ns (m / 40))) (fo ms (m / 40)) (So (m / 40)) (Zw evs ns ms (m / 40))
structure NsB(ns ms:LS):Prop where
 n2:2<=ns.9
 nl:ns.9<=11
 nd:ns.Nodup
 m1:1<=ms.9
 ml:ms.9<=10
theorem RY(h0:0<=i)(h:i<ns.9):SY ns i∈ns:=(xH h0 h).2
theorem Hq(nd:ns.Nodup){j:Int}(w:0<=i)(z:i<ns.9)(y:0<=j)(h:j<ns.9)(p:i≠j):SY ns i≠SY ns j:=λe=>by let#[v,o,l]:=EL w z;let#[u,g,f]:=EL y h;unfold SY gI at e;rw[o,g]at e;have e:v=u:=e;subst e;have:=(List.getElem?_inj (i:=i.toNat) () nd).mp (l.trans f.symm);omega
theorem T6(h:2<=ns.9)(r:Int):(0<=eL ns r/\eL ns r<ns.9)/\(0<=Fc ns r/\Fc ns r<ns.9)/\eL ns r≠Fc ns r:=by
 have a:0<=eL ns r/\eL ns r<ns.length:=GA r ();have b:=GA (r / 360) (show(0:Int)<(ns.9:Int) - 1 by omega);have c:0<=Fc ns r/\Fc ns r<ns.length:=GA _ ();refine#[a,c,λe=>?_];unfold Fc at e;generalize r / 360 % ((ns.9:Int) - 1)=y at *;generalize eL ns r=o at *;have d:(o+1+y) % (ns.9:Int)=o+1+y∨(o+1+y) % (ns.9:Int)=o+1+y - ns.length:=by by_cases z:o+1+y<ns.9;left;exact QAr () z;right;rw[<- Int.sub_emod_right];exact QAr () ()
 omega
theorem Xs(hb:NsB ns ms)(w:∀e∈evs,du ns ms e)(m:Int):du ns ms (Cs evs ns ms m):=by
 have v:=hb.n2;have f:=hb.m1;let#[a,b,c]:=T6 v (m / 40);have u:fo ms (m / 40)∈ms:=by have:=GA (m / 40 / 7) (show(0:Int)<(ms.9:Int) by omega);exact(xH this.1 this.2).2
 have z:OkS (So (m / 40)):=rg (vH _ _);unfold Cs;split;exact#[RY a.1 a.2,u,z];refine#[RY a.1 a.2,RY b.1 b.2,u,Hq hb.nd a.1 a.2 b.1 b.2 c,z,?_];unfold Zw;split;intro x y;let#[k,_,rfl]:=QX.mp y;have:=GA (m / 40 / 50000+2 * (k:Int)) (show(0:Int)<(ns.9:Int) by omega);exact RY this.1 this.2;exact t6 evs.reverse _ (λe h=>w e (QCg.mp h)) λx y=>by cases y
def VQ:PSp where
 md:=[.shal]
 run:=λh Q _=>∃(evs:List Evt) (ns ms:LS) (m:Int),h=[lJ evs,.d (.list (ns.map j0)),.d (.list (ms.map j0)),.d (.int m)]/\(evs.9<=1000/\NsB ns ms)/\Q (.d (XC (Cs evs ns ms m))) []
theorem Hw{c d e:D}:vD [.d a,.d b,.d c,.d d,.d e]=.d (.tuple [a,b,c,d,e]):=rfl
theorem gr{c d e f g:D}:vD [.d a,.d b,.d c,.d d,.d e,.d f,.d g]=.d (.tuple [a,b,c,d,e,f,g]):=rfl
def gz(evs:List Evt)(ns ms:LS)(m:Int)(h o10:Option Sl):kA:=[jr (.bor (lJ evs)),bD (.list (ns.map j0)),bD (.list (ms.map j0)),bD (.int m),bD (.int (Yu m)),bD (.int (m / 40)),bD (.int (eL ns (m / 40))),bD (.str (fo ms (m / 40))),bD (.str (So (m / 40))),h,o10]
theorem Mi{m:Bool}{R:T->Prop}(h0:0<=i)(h:i<ns.9):KA (.d (.list (ns.map j0))) n (.d (.int i)) m R=R (.d (.str (SY ns i))):=by rw[Aa,XF,(xH (d:=("":Str)) h0 h).1];exact OA
theorem Ds{Q:T->LT->Prop}{l:LS}(h:2<=ns.9)(q:Q (.d (XC (.tell (Yu m) (SY ns (eL ns (m / 40))) (SY ns (Fc ns (m / 40))) (fo ms (m / 40)) (So (m / 40)) l))) []):pF Ψ iF (eZ Q) (gz evs ns ms m (bD (.int (Fc ns (m / 40)))) (bD (.tuple (l.map j0)))):=by let#[a,b,c]:=T6 h (m / 40);delta gz;delta iF;simp![↓Mi a.1 a.2,↓Mi b.1 b.2,↓gr];exact#[(),q]
theorem Tk(r:Ψ.sp "_law_letters"=NJ)(p:Ψ.sp "_law_quote"=sM):JE Ψ JK VQ lQ AM:=by rintro _ Q _ ⟨evs,ns,ms,m,rfl,⟨hl,hb⟩,q⟩;have u:=hb.n2;have W:=hb.m1;let#[a,b,c]:=T6 u (m / 40);have e:=GA m (show(0:Int)<3 by decide);have B:=GA (m / 40 / 11) (show(0:Int)<8 by decide);have w:=GA (m / 40 / 7) (show(0:Int)<(ms.9:Int) by omega);refine uA [jr (.bor (lJ evs)),bD (.list (ns.map j0)),bD (.list (ms.map j0)),bD (.int m),kd,kd,kd,kd,kd,kd,kd] ?_;delta JK;simp_arith![QD,↓zA (md:=[]) r rfl rfl,↓HQ];refine#[(),gE (f:=j1) (l:=[m / 3 % 5,m / 3 % 30,999999999 - m / 3 % 4]) 0 e.1 e.2 ?_];refine#[(),(),gE (f:=j0) (l:=ms) "" w.1 w.2 #[(),(),?_]];unfold Cs at q;by_cases y:m / 40 / 90 % 4=0;rw[oa y]at q;rw[oa (dT y)];exact gE (f:=j0) (l:=ns) "" a.1 a.2 #[(),q];rw[ot y]at q;rw[ot λz=>y (QB z)];refine#[(),(),?_];have g:0<=m / 40 % (ns.9:Int)/\m / 40 % (ns.9:Int)<ns.length:=a;delta lJ;simp_arith![↓zA (md:=[.shal]) p rfl rfl,↓Mi g.1 g.2];refine#[_,_,_,_,rfl,hl,?_];unfold Zw at q;simp_arith![↓vA];by_cases h:m / 40 / 10000 % 5=0;rw[oa h]at q;rw[oa (dT h)];have A:=GA (m / 40 / 2500) (show(0:Int)<3 by decide);refine#[(),(),?_];refine tB (λ(i:Nat)=>T.d (.int (i:Int))) (λi=>T.d (.str (SY ns ((m / 40 / 50000+2 * (i:Int)) % (ns.9:Int))))) _ [] _ (λi K R o=>?_) (by rw[Qv];show 0+_<=_;omega) ?_;have v:=GA (m / 40 / 50000+2 * (i:Int)) (show(0:Int)<(ns.9:Int) by omega);simp![QD];exact#[zP.ok (.inl #[by decide,by decide]),(),gE (f:=j0) (l:=ns) "" v.1 v.2 o];rw[Qj,rA λ(i:Nat)=>j0 (SY ns ((m / 40 / 50000+2 * (i:Int)) % (ns.9:Int)))];simp![↓Zg];have q:=Ds (Ψ:=Ψ) (evs:=evs) u q;rw[Qc]at q;exact q;rw[ot h]at q;rw[ot λz=>h (QB z)];exact Ds u q
def Zo(m:Int)(s:LJ)(p:Int×Nat):LJ:=s.set ((p.2:Int) % m).toNat (gI s ((p.2:Int) % m) 0+p.1)
noncomputable def Yo(m:Int)(cs:LJ):LJ:=(Qm (if(cs.9:Int)<m then(cs.9:Int) else m).toNat).map λ_=>0
def Ng(m:Int)(cs:LJ):LJ:=cs.zipIdx.foldl (Zo m) (Yo m cs)
theorem rZ(m:Int)(cs:LJ):(Yo m cs).9=(if(cs.9:Int)<m then(cs.9:Int) else m).toNat:=by unfold Yo;rw[QD,Qv]
theorem z9(m:Int):∀(l:List (Int×Nat)) (s:LJ),(l.foldl (Zo m) s).9=s.9
 |[],s=>rfl|p::l,s=>(z9 m l (Zo m s p)).trans qF
theorem jS(cs:LJ)(h:0<m):(Ng m cs).9<=m.toNat:=by unfold Ng;rw[z9,rZ];split<;>omega
def OJ:PSp where
 md:=[.shal]
 run:=λy Q _=>∃(h:LJ) (m:Int),y=[.lst ((h.map j1).map T.d),.d (.int m)]/\(0<m/\m<=100)/\Q (.lst (((Ng m h).map j1).map T.d)) []
noncomputable def Vm(cs:LJ)(m:Int)(s:LJ)(o3 o4:Option Sl):kA:=[jr (.bor (.lst ((cs.map j1).map T.d))),bD (.int m),oW (.lst ((s.map j1).map T.d)),o3,o4]
theorem Sx{cs s:LJ}(hm:0<m)(hk:(k:Int) % m<s.9)(q:Z.nx (Vm cs m (Zo m s (x,k)) (bD (.int (k:Int))) (bD (.int x)))):pF Ψ eF Z (Vm cs m s (bD (.int (k:Int))) (bD (.int x))):=by have h0:=(GA (k:Int) hm).1;unfold Vm Zo at q;rw[List.map_set]at q;delta Vm;delta eF;simp![↓vA];refine#[hm,gE (f:=j1) (l:=s) 0 h0 hk ?_];simp![↓vA];exact#[hm,jw h0 (by rw[QD];exact hk) q]
theorem K1:JE Ψ cI OJ cO RK:=by
 rintro _ Q _ ⟨h,m,rfl,⟨h0,E⟩,q⟩;refine uA [jr (.bor (.lst ((h.map j1).map T.d))),bD (.int m),kd,kd,kd] ?_;have l:=rZ m h;have w:0<=(if(h.9:Int)<m then(h.9:Int) else m)/\(if(h.9:Int)<m then(h.9:Int) else m)<=100:=by split<;>omega
 delta cI;simp![QD];refine#[W0 (by decide) w.1,QB9 w.2 (by decide),?_];refine tB (λ(i:Nat)=>T.d (.int (i:Int))) (λ_=>T.d (.int 0)) _ [] _ (λi B R o=>?_) (by rw[Qv];show 0+_<=_;omega) ?_;simp![↓vA];exact o;rw[Qj,rA λ(_:Nat)=>j1 0];have e:((Qm (if(h.9:Int)<m then(h.9:Int) else m).toNat).map λ_=>j1 0)=(Yo m h).map j1:=by unfold Yo;rw[Qc];rfl
 rw[e,rX];refine FA (Fm j1) (λr y=>∃s u z,r.foldl (Zo m) s=Ng m h/\(s.9=(Yo m h).9/\∀p∈r,p.2<h.9)/\y=Vm h m s u z) ?_ ?_ _ _ #[_,kd,kd,rfl,#[rfl,λp v=>by let#[_,C,_]:=QBR v;omega],rfl];rintro y ⟨s,u,z,e,_,rfl⟩;have e:s=Ng m h:=e;subst e;delta Vm;simp![↓vA];exact q;rintro⟨x,k⟩ r y N W ⟨s,u,z,e,⟨g,f⟩,rfl⟩;have A:k<h.length:=f (x,k) QE;have K:=GA (k:Int) h0;delta Vm Fm;rw[z4,oO];refine Sx h0 ?_ (W _ #[_,_,_,e,#[qF.trans g,λp v=>f p (QF _ v)],rfl]);show(k:Int) % m<(s.9:Int);rw[g,l];by_cases c:(h.9:Int)<m;rw[oa c,QAr () ()];omega;rw[ot c];omega
def aO(h:LJ):LS:=jF (bB h 0) (2+fA (bB h 0) 1 % 5).toNat
def EY(h:LJ):LS:=jF (bB h 1) (1+fA (bB h 1) 2 % 3).toNat
def Ha(c:Int)(ns:LS):List (Str×Int×Int×Int):=ns.zipIdx.map λp=>B6 p.1 (fA c (10+(p.2:Int)))
def Um(ns ms:LS)(evs:List Evt)(p:Int×Nat):List Evt:=evs++[Cs evs ns ms (fA p.1 ((p.2:Int)+3))]
def Mu(h:LJ)(ns ms:LS):List Evt:=(Ng 18 (SF h (jr 2) kd)).zipIdx.foldl (Um ns ms) []
def wF(h:LJ):Wd:=#[Ha (bB h 0) (aO h),EY h,Jt (EY h) (fA (bB h 1) 2 / 3),Mu h (aO h) (EY h)]
theorem b9{ns ms:LS}(hb:NsB ns ms):∀(l:List (Int×Nat)) (evs:List Evt),(∀e∈evs,du ns ms e)->(∀e∈l.foldl (Um ns ms) evs,du ns ms e)/\(l.foldl (Um ns ms) evs).9=evs.9+l.9
 |[],evs,h=>#[h,rfl]|p::l,evs,h=>by
  let#[a,b]:=b9 hb l (Um ns ms evs p) λe y=>by rcases Qd.mp y with y|y;exact h e y;rw[QJ.mp y];exact Xs hb h _
  refine#[a,b.trans ?_];show(evs++[_]).9+l.9=evs.9+(l.9+1);rw[QI];show evs.9+1+l.9=_;omega
theorem LM(c:Int)(ns:LS):((Ha c ns).map λp=>p.1)=ns:=by unfold Ha;rw[Qc];exact List.zipIdx_map_fst 0 ns
theorem Cw(h:LJ):NsB (aO h) (EY h)/\(∀x∈aO h,OkS x)/\(∀x∈EY h,OkS x)/\(EY h).Nodup:=by have a:=GA (fA (bB h 0) 1) (show(0:Int)<5 by decide);have b:=GA (fA (bB h 1) 2) (show(0:Int)<3 by decide);let#[v,y,u]:=FS (bB h 0) (m:=(2+fA (bB h 0) 1 % 5).toNat) ();let#[e,z,w]:=FS (bB h 1) (m:=(1+fA (bB h 1) 2 % 3).toNat) ();have y:(aO h).9=_:=y;have z:(EY h).9=_:=z;exact#[#[(),(),v,(),()],u,w,e]
theorem A4(h:LJ):WOk (wF h):=by
 let#[hb,W,f,K]:=Cw h;let#[l,C]:=Nn hb.ml (fA (bB h 1) 2 / 3);let#[B,g]:=b9 hb (Ng 18 (SF h (jr 2) kd)).zipIdx [] λ_ z=>by cases z
 have v:=LM (bB h 0) (aO h);have r:=QP qR v;have y:∀x∈aO h,G4 (wF h) x:=λx w=>by rw[<- v]at w;let#[p,u,e]:=QX.mp w;exact#[p,u,e]
 rw[QD]at r;rw[Wi]at g;have fl:=jS (SF h (jr 2) kd) (show(0:Int)<18 by decide);refine#[λp u=>#[f _ (l p u).1,f _ (l p u).2],C,by show(Ha _ _).9<=11;have:=hb.nl;omega,by show((Ha _ _).map _).Nodup;rw[v];exact hb.nd,λp u=>W _ ?_,hb.ml,f,K,?_,λe A=>?_];rw[<- v];exact QX.mpr #[p,u,rfl];show(Mu h (aO h) (EY h)).9<=60;exact QS (wq g) (by show 0+_<=60;omega);have:=B e A;cases e with|see t p m o=>exact#[y _ this.1,this.2]|tell t a b m o q=>exact#[y _ this.1,y _ this.2.1,this.2.2.1,this.2.2.2.1,this.2.2.2.2.1,λx w=>y x (this.2.2.2.2.2 x w)]
theorem VM{c:Int}{K:T->LT->Prop}{E:XE}(h0:0<=m)(h:m<=10)(q:K (.lst (((jF c m.toNat).map j0).map T.d)) []):rL iI [.d (.int c),.d (.int m),.d (.int 8)] K E:=by let#[k,rfl]:=Int.eq_ofNat_of_zero_le h0;exact#[_,_,rfl,(),q]
def MG(w:Wd):T:=.tup [.d (.list (w.ps.map dG)),.d (.list (w.ms.map j0)),.lst ((w.ag.map pr).map T.d),.lst ((w.es.map XC).map T.d)]
theorem Sg(ds:List D):(T.lst (ds.map T.d)).er=.list ds:=by show PyData.list (ersT (ds.map T.d))=_;rw[gB]
theorem d9(w:Wd):(MG w).er=wD w:=by show PyData.tuple [.list (w.ps.map dG),.list (w.ms.map j0),(T.lst _).er,(T.lst _).er]=_;rw[Sg,Sg];rfl
def eI:PSp where
 md:=[.shal]
 run:=λy Q _=>∃h:LJ,y=[.lst ((h.map j1).map T.d)]/\Q (MG (wF h)) []
def Ni(y:LJ)(f s:Int)(ns ms:LS)(h:List (Str×Int×Int×Int))(o6 o7 o8:Option Sl):kA:=[jr (.bor (.lst ((y.map j1).map T.d))),bD (.int f),bD (.int s),bD (.list (ns.map j0)),bD (.list (ms.map j0)),bD (.list (h.map dG)),o6,o7,o8]
theorem Uv(u:Ψ.sp "_law_mixed"=zG)(z:Ψ.sp "_law_event"=VQ){y:LJ}{f s:Int}{h:List (Str×Int×Int×Int)}(hb:NsB ns ms)(hk:k<=100)(v:evs.9<=900)(q:Z.nx (Ni y f s ns ms h (oW (lJ (Um ns ms evs (x,k)))) (bD (.int (k:Int))) (bD (.int x)))):pF Ψ ZG Z (Ni y f s ns ms h (oW (lJ evs)) (bD (.int (k:Int))) (bD (.int x))):=by unfold Ni lJ Um at q;rw[QN,QN]at q;delta Ni lJ;delta ZG;simp![↓zA (md:=[]) u rfl rfl,↓zA (md:=[.shal]) z rfl rfl,↓EG];refine#[(),(),#[_,_,_,_,rfl,#[(),hb],?_]];simp![QD];exact#[(),q]
theorem vr{l h:LT}:vD [.d a,.d b,.lst l,.lst h]=.tup [.d a,.d b,.lst l,.lst h]:=rfl
theorem Ny{E:XE}{ρ:kA}{K:TK}{i:Nat}:jB Ψ (.mv i) E ρ K=iC ρ[i]? λt=>K t kb (ρ.set i kd):=rfl
theorem d7(g:Ψ.sp "_law_mixed"=zG)(f:Ψ.sp "_law_cell_at"=KI)(l:Ψ.sp "_law_words"=iI)(I:Ψ.sp "_law_person"=jW)(G:Ψ.sp "_law_folded"=OJ)(F:Ψ.sp "_law_event"=VQ)(E:Ψ.sp "_law_against"=UQ):JE Ψ rK eI uQ NM:=by
 rintro _ Q _ ⟨h,rfl,q⟩;have a:=GA (fA (bB h 0) 1) (show(0:Int)<5 by decide);have b:=GA (fA (bB h 1) 2) (show(0:Int)<3 by decide);let#[hb,_]:=Cw h;have J:=hb.nl;have A:=hb.ml;refine uA [jr (.bor (.lst ((h.map j1).map T.d))),kd,kd,kd,kd,kd,kd,kd,kd] ?_;delta rK;simp![↓zA (md:=[]) g rfl rfl,↓zA (md:=[.shal]) f rfl rfl,↓zA (md:=[]) l rfl rfl,↓EG,↓FI];refine VM () () ?_;simp![↓zA (md:=[.shal]) f rfl rfl,↓zA (md:=[]) l rfl rfl,↓FI];refine VM () () ?_;simp![↓vA];show uD _ ((((aO h).map j0).zipIdx.map λp=>T.d (.tuple [.int (p.2:Int),p.1]))) [] _;rw[rX];have K:=QP qR (LM (bB h 0) (aO h));rw[QD]at K;refine tB (Fm j0) (λp=>T.d (dG (B6 p.1 (fA (bB h 0) (10+(p.2:Int)))))) (aO h).zipIdx [] _ (λp y R B=>?_) (by rw[Wi];show 0+_<=_;omega) ?_;let#[x,k]:=p;let#[_,w,_]:=QBR y;delta Fm;simp![↓zA (md:=[]) g rfl rfl,↓zA (md:=[.shal]) f rfl rfl,↓zA (md:=[]) I rfl rfl,↓EG,↓FI];refine#[(),(),#[_,_,rfl,?_]];simp![↓vA];exact B;rw[Qj,rA λp:Str×Nat=>dG (B6 p.1 (fA (bB h 0) (10+(p.2:Int))))];have e:((aO h).zipIdx.map λp=>dG (B6 p.1 (fA (bB h 0) (10+(p.2:Int)))))=(Ha (bB h 0) (aO h)).map dG:=by unfold Ha;rw[Qc];rfl
 rw[e];simp![↓zA (md:=[.shal]) G rfl rfl,ZZ];refine#[(),#[_,_,rfl,by decide,?_]];have fl:=jS (SF h (jr 2) kd) (show(0:Int)<18 by decide);simp![↓vA];rw[rX];refine FA (Fm j1) (λr z=>∃evs v u,r.foldl (Um (aO h) (EY h)) evs=Mu h (aO h) (EY h)/\(evs.9+r.9<=100/\∀p∈r,p.2<=100)/\z=Ni h (fA (bB h 0) 1) (fA (bB h 1) 2) (aO h) (EY h) (Ha (bB h 0) (aO h)) (jr (.own (lJ evs))) v u) ?_ ?_ _ _ #[[],kd,kd,rfl,#[by rw[Wi];show 0+_<=_;omega,λp y=>by let#[_,w,_]:=QBR y;omega],rfl];rintro z ⟨evs,v,u,e,_,rfl⟩;have e:evs=Mu h (aO h) (EY h):=e;subst e;delta Ni lJ;simp![↓zA (md:=[]) E rfl rfl];refine#[_,_,rfl,A,?_];simp![↓Ny,↓vr];exact#[(),q];rintro⟨x,k⟩ r z N C ⟨evs,v,u,e,⟨W,o⟩,rfl⟩;have W:evs.9+(r.9+1)<=100:=W;delta Ni Fm;rw[z4,oO];refine Uv g F hb (o (x,k) QE) () (C _ #[_,_,_,e,#[?_,λp y=>o p (QF _ y)],rfl]);show(evs++[_]).9+r.9<=100;rw[QI];show evs.9+1+r.9<=100;omega
def Dy(st:List Stp)(t:T):Prop:=(st=[]/\t=.lst [])∨t=.d (.list ((AT st).map nD))
def kW:PSp where
 run:=λh Q _=>∃(w:Wd) (st:List Stp),h=[.d (Xg w st)]/\∀t,Dy st t->Q t []
theorem Nk:JE Ψ pK kW xQ MM:=by
 rintro _ Q _ ⟨w,st,rfl,h0⟩;refine uA [bD (Xg w st)] ?_;delta pK;simp![↓Ct,↓Go,QD];rcases iQ st with rfl|⟨l,s,rfl⟩
 refine pG (show decide (((qR ([]:List Stp):Nat):Int) > 0)≠kb by decide) ?_;exact#[(),h0 _ (.inl #[rfl,rfl])];have h:=h0 _ (.inr rfl);rw[OL]at h;refine GR (dT (by rw[QI];show(0:Int)<((l.9+1:Nat):Int);omega)) ?_;rw[QN,show NC (l.map IS++[s].map IS) (-1)=jr (IS s) from BZ _ _,OA];simp![↓Do];exact h
noncomputable def uV:Evt->Pt
 | .see _ p m _=>(p,m)|.tell _ _ b m _ _=>(b,m)
end
section
variable{n:Bool}{L:Bool->Prop}{Ψ:PEv}{E:XE}{ρ:kA}
section
variable{i j:Int}{Q:T->Bool->Prop}
theorem Lx{x:D}{K:TK}:z0 (.d x) n Ψ (.int i) (.int j) E ρ K=lH (.d x) n (jr i) (jr j) λz k=>K z k ρ:=by cases n<;>rfl
theorem uw{ds:List D}(h:¬ (HT.sIx ds.9 0 (jr i)=0/\HT.sIx ds.9 ds.9 (jr j)=ds.9)):lH (.d (.tuple ds)) n (jr i) (jr j) Q=Q (.d (.tuple (SF ds (jr i) (jr j)))) false:=by
 unfold lH;rw[sA];show BI (.tp (ds.map T.d)) (jr i) (jr j) Q=_;refine o9 #[λh=>?_,λq=>.inr (.inr #[_,_,rfl,VA _,h,q])];rcases h with⟨_,e,_⟩| ⟨_,_,e,_⟩| ⟨_,ds,e,x,_,h⟩
 cases e;cases e;cases e;rw[VA]at x;cases x;exact h
theorem fw{t:Int}{a b h x:Str}{q:LS}:lH (.d (XC (.tell t a b h x q))) n (jr 3) (jr 5) Q=Q (.d (pr (b,h))) false:=uw (by show ¬ (HT.sIx 7 0 (jr 3)=0/\HT.sIx 7 7 (jr 5)=7);decide)
theorem L9{p q:Pt}(y:OkS p.1/\OkS p.2)(x:OkS q.1/\OkS q.2):PB .Eq (.d (pr p)) (.d (.tuple [.str q.1,.str q.2])) L=L (decide (p=q)):=by show(AE (pr p)/\AE (pr q)/\L (Qp (pr p) (pr q)))=_;rw[zS];exact o9 #[λh=>h.2.2,λh=>#[zD y.1 y.2,zD x.1 x.2,h]]
end
end
theorem ut{w:Wd}(x:WOk w){e:Evt}(h:Xa w e):OkS (uV e).1/\OkS (uV e).2:=by
 cases e with|see t p m y=>exact#[x.nm h.1,x.mo _ h.2.1]|tell t a b m y q=>exact#[x.nm h.2.1,x.mo _ h.2.2.1]
def Z5(w:Wd)(h:LN)(p:Pt):LN:=h.filter λn=>decide (uV (XA w.es n)=p)
def IV:PSp where
 run:=λh Q _=>∃(w:Wd) (st:List Stp) (p:Pt),h=[.d (Xg w st),.d (.str p.1),.d (.str p.2)]/\(WOk w/\(∀s∈st,StK w s)/\OkS p.1/\OkS p.2)/\Q (.lst (((Z5 w (AT st) p).map nD).map T.d)) []
theorem Bk{Ψ:PEv}(f:Ψ.sp "live_in"=kW):JE Ψ mF IV KJ aH:=by rintro _ Q _ ⟨w,st,p,rfl,⟨y,hs,u⟩,q⟩;let#[j,v]:=TW hs;refine uA [bD (Xg w st),bD (.str p.1),bD (.str p.2),kd] ?_;delta mF;simp![↓Ho,↓US,↓zA (md:=[]) f rfl rfl];refine#[_,_,rfl,λt z=>?_];rcases z with⟨e,rfl⟩| rfl;subst e;refine#[rfl,?_];show xK .val [(.lst (([]:List D).map T.d),kb)] _;simp![↓vA];exact#[by show 0<=_;omega,q];refine#[rfl,?_];simp![↓vA];rw[<- rA nD];refine lA (λn=>T.d (nD n)) (λn=>T.d (nD n)) (λn=>decide (uV (XA w.es n)=p)) (AT st) [] _ (λn k R h=>?_) (by show 0+_<=_;omega) ?_;let#[x,t,a,b,m,g,i,e]:=v n k;have ok:=ut y (y.ev x);rw[e]at ok h;simp![↓pQ x,e,↓nO,↓Lx,↓fw,↓L9 (p:=(b,m)) ok u];simp![QT,wT,↓L9 (p:=(b,m)) ok u];refine#[(),?_];have h:R (if decide ((b,m)=p)=kb then jr (T.d (nD n)) else kd):=h;split at h;rename_i c;rw[oa c];exact h;rename_i c;rw[ot c];exact h;rw[Qj,rA nD];exact q
def rM:PSp where
 run:=λx Q _=>∃(w:Wd) (p:Pt),x=[.d (wD w),.d (.str p.1),.d (.str p.2)]/\(WOk w/\OkS p.1/\OkS p.2)/\∀h,CL w h->Q (.lst (((Z5 w (AT (cC w h).steps) p).map nD).map T.d)) []
theorem Uk{Ψ:PEv}(v:Ψ.sp "tellers_in"=IV)(u:Ψ.sp "last_moment"=zW):JE Ψ lF rM ZJ tH:=by rintro _ Q _ ⟨w,p,rfl,⟨h,z⟩,q⟩;refine uA [bD (wD w),bD (.str p.1),bD (.str p.2)] ?_;delta lF;simp![↓zA (md:=[]) v rfl rfl,↓zA (md:=[]) u rfl rfl];refine#[_,rfl,h,λy x=>#[rfl,?_]];let#[_,_,g]:=bX h x;simp![↓Vy];exact#[_,_,_,rfl,#[h,g,z],#[rfl,q y x]]
def GL:PSp where
 run:=λy Q _=>∃w:Wd,y=[.d (wD w)]/\WOk w/\∀h,CL w h->∀t x,t.er=.tuple [.list ((AT (cC w h).steps).map nD),.list x]->RF t kb=kb->Q t []
theorem jd{Ψ:PEv}(u:Ψ.sp "gone"=LL):JE Ψ AN GL sV rP:=by
 rintro _ Q _ ⟨w,rfl,x,q⟩;refine uA [bD (wD w),kd] ?_;delta AN;simp![↓zA (md:=[]) u rfl rfl];refine#[_,rfl,x,λh y=>?_];have q:=q h y;generalize (cC w h).steps=st at *;simp![QD];rcases iQ st with rfl|⟨l,s,rfl⟩
 refine GR (by decide) ?_;refine#[(),(),(),?_];show ZL [(T.lst (([]:List D).map T.d),kb),(T.lst (([]:List D).map T.d),kb)] _;simp![↓vA];exact q (.tup [.lst [],.lst []]) [] rfl rfl;rw[OL]at q;refine pG (λz=>?_) ?_;have:=QB z;rw[QI]at this;have:((l.9+1:Nat):Int)=0:=this;omega;rw[QN];have v:NC (l.map IS++[s].map IS) (-1)=jr (IS s):=BZ _ _;simp![v,OA,↓Do,↓vv,↓Bl];exact#[(),q (.d (.tuple [.list (s.2.2.1.map nD),.list (s.2.2.2.map pr)])) _ rfl rfl]
theorem Ls(es:List Evt):((es.map XC).zipIdx.map λp=>T.d (.tuple [.int (p.2:Int),p.1]))=(Qm es.9).map λn=>T.d (.tuple [nD n,XC (XA es n)]):=by apply qw;intro i;rw[Qa,Qa,QBb,Qa,w8];by_cases c:i<es.9;rw[ww c,Qi c];show jr (T.d (.tuple [.int (i:Int),XC es[i]]))=jr (T.d (.tuple [nD i,XC (XA es i)]));unfold XA;rw[Qi c];rfl;rw[Q2 (QCb c),Q2 (by rw[Qv];omega)];rfl
noncomputable def vW:PSp where
 md:=[.shal,.shal]
 run:=λh Q _=>∃i,h=[.d (.int i),.d (.int i)]/\Q (.d (.bool kb)) []
noncomputable def eM:PSp where
 md:=[.shal,.shal]
 run:=λh Q _=>∃l:LN,h=[.lst ((l.map nD).map T.d),.lst ((l.map nD).map T.d)]/\l.9<=1000/\Q (.d (.bool kb)) []
section
variable{L:Bool->Prop}{ts:LT}{x:Str}
theorem ox:VO (.bty x "bool") (.lst ts) L=L false:=aU (d:=.list (ersT ts)) rfl rfl
theorem ux:VO (.bty x "str") (.lst ts) L=L false:=aU (d:=.list (ersT ts)) rfl rfl
theorem gx:VO (.bty x "int") (.lst ts) L=L false:=aU (d:=.list (ersT ts)) rfl rfl
theorem xx:VO (.bty x "tuple") (.lst ts) L=L false:=aU (d:=.list (ersT ts)) rfl rfl
end
theorem yl{Ψ:PEv}:JE Ψ OE vW CK RH:=by rintro _ Q _ ⟨i,rfl,q⟩;refine uA [bD (.int i),bD (.int i),kd] ?_;delta OE;simp![↓Bh,↓Zi,↓sx,↓bx,↓lx];exact q
theorem Ky{md:List Md}{i:Nat}{n:Bool}{xs:List (T×Bool)}{C:LT->Prop}:rB (.shal::md) ((.d (nD i),n)::xs) C=rB md xs λts=>C (.d (nD i)::ts):=Yz (by cases n<;>rfl)
theorem Ek{Ψ:PEv}(h0:Ψ.sp "_law_alike"=vW):JE Ψ OE eM CK RH:=by rintro _ Q _ ⟨l,rfl,hl,q⟩;refine uA [jr (.bor (.lst ((l.map nD).map T.d))),jr (.bor (.lst ((l.map nD).map T.d))),kd] ?_;delta OE;simp![↓Bh,↓Zi,↓ox,↓ux,↓gx,↓xx,↓cx];rw[QD,qX];refine#[(),(),FA (λ(i:Nat)=>T.d (.int (i:Int))) (λr h=>∃o,(∀k∈r,k<l.9)/\h=[jr (.bor (.lst ((l.map nD).map T.d))),jr (.bor (.lst ((l.map nD).map T.d))),o]) ?_ ?_ _ _ #[kd,λk hk=>qK.mp hk,rfl]];rintro h ⟨o,_,rfl⟩;simp![↓vA];exact q;rintro k r h N x ⟨o,hk,rfl⟩;have z:=hk k QE;have x:N [jr (.bor (.lst ((l.map nD).map T.d))),jr (.bor (.lst ((l.map nD).map T.d))),bD (.int (k:Int))]:=x _ #[_,λy u=>hk y (QF _ u),rfl];have v:NC (l.map nD) (k:Int)=jr (nD l[k]):=xC (by rw[Qa,Qi z];rfl);delta dL;simp![↓zA (md:=[.shal,.shal]) h0 rfl rfl,v,OA,↓Ky];exact#[_,rfl,rfl,x]
def Pb(a m:Str):Evt:=.see 999999999 a m "more"
def Xb(a b m:Str):Evt:=.tell 999999999 a b m "more" []
noncomputable def wL(w:Wd)(a b m:Str):Wd:=#[w.ps,w.ms,w.ag,w.es++[Pb a m]++[Xb a b m]]
theorem rY:OkS "more":=(by decide +kernel:qi "more"=kb)
theorem xp{w:Wd}(y:WOk w)(k:w.es.9<=50){a b m:Str}(z:G4 w a)(hb:G4 w b)(hm:m∈w.ms)(n:a≠b):WOk (wL w a b m):=by
 refine#[y.ag,y.al,y.pl,y.pn,y.po,y.ml,y.mo,y.mn,?_,λe h=>?_];show(w.es++[Pb a m]++[Xb a b m]).9<=60;rw[QI,QI];show w.es.9+1+1<=60;omega;have h:e∈w.es++[Pb a m]++[Xb a b m]:=h;rcases Qd.mp h with h|h;rcases Qd.mp h with h|h
 ·have:=y.eo e h
  cases e with|see t p m u=>exact this|tell t a b m u q=>exact this
 rw[QJ.mp h];exact#[z,hm,rY];rw[QJ.mp h];exact#[z,hb,hm,n,rY,λx v=>by cases v]
def ZE:PSp where
 md:=[.chg,.chg]
 run:=λv Q _=>∃(w:Wd) (y x:Str×Int×Int×Int) (h:List (Str×Int×Int×Int)) (u:Str) (z:LS),v=[MG w,MG w]/\(WOk w/\w.es.9<=50/\w.ps=y::x::h/\w.ms=u::z)/\∀a b,Q (.d (.bool kb)) [a,b]
section
variable{Ψ:PEv}{E:XE}{ρ:kA}{K:TK}{b:PX}{w:Wd}{n m:Bool}{R:T->Prop}{a s r:PT}{Z:PEnds}
theorem O9{us:LT}{i:Nat}{t:T}(h:us[i]?=jr t):KA (.tup us) kn (.d (.int (i:Int))) m R=R t:=by unfold KA;rw[sA,show(gA (T.tup us) kn).vw=.tp us from rfl,r9,or_false];refine(O8 _ _).trans ?_;rw[xC h];exact o9 #[λ#[_,e,q]=>by cases e;exact q,λq=>#[_,rfl,q]]
theorem sv:KA (MG w) kn (.d (.int 0)) m R=R (.d (.list (w.ps.map dG))):=O9 (i:=0) rfl
theorem nv:KA (MG w) kn (.d (.int 1)) m R=R (.d (.list (w.ms.map j0))):=O9 (i:=1) rfl
theorem jAh:Z4 (MG w) kn Ψ b E ρ K=jB Ψ b E (lockA ρ) λy m _=>K y m ρ:=rfl
theorem jAl{i:Int}:Z4 (MG w) kn Ψ (.int i) E ρ K=K (.d (.int i)) kn ρ:=rfl
theorem Ug{x bs:LN}{b:PT}(u:∀j∈bs,∃t,ρ[j]?=jr (jr (.bor t)))(z:dD (x++bs) a=kb)(y:dD (x++bs) b=kb)(h:vB Ψ E %[a,b|2] (kU x bs { Z with nx:=λρ=>vB Ψ E r Z ρ } ρ) (frzAt x ρ)):vB Ψ E (.lnt x bs a b r) Z ρ:=#[u,z,y,h]
end
section
variable{w:Wd}{Ψ:PEv}{o0 o1 o6 o7:Option Sl}{a b m:Str}{N:kA->Prop}{Z:PEnds}
theorem su{i j k:Nat}{x y z:D}{ρ:kA}{P:kA->Prop}:OP (.tp [i,j,k]) (.d (.tuple [x,y,z])) ρ P=P (((ρ.set i (bD x)).set j (bD y)).set k (bD z)):=OA
theorem Lw{a b c:D}:vD [.d a,.d b,.d c]=.d (.tuple [a,b,c]):=rfl
theorem Mw:vD []=.d (.tuple []):=rfl
noncomputable def Uu(x y:T)(a b m:Str)(o5 o6 o7:Option Sl):kA:=[oW x,oW y,bD (.str a),bD (.str b),bD (.str m),o5,o6,o7]
noncomputable def Pu:PX:=.tup %[.str "see",.int 999999999,.var 2,.var 4,.str "more"|1]
noncomputable def Ou:PX:=.tup %[.str "tell",.int 999999999,.var 2,.var 3,.var 4,.str "more",.tup .anil|1]
theorem j5(e:Evt):T.tup ([T.d (.list (w.ps.map dG)),.d (.list (w.ms.map j0)),.lst ((w.ag.map pr).map T.d),.lst ((w.es.map XC).map T.d)].set 3 (.lst ((w.es.map XC).map T.d++[.d (XC e)])))=MG #[w.ps,w.ms,w.ag,w.es++[e]]:=by unfold MG;rw[QN,QN];rfl
theorem cg(h:w.es.9<=100)(q:N [o0,o1,bD (.str a),bD (.str b),bD (.str m),oW (MG #[w.ps,w.ms,w.ag,w.es++[Pb a m]]),o6,o7]):S6 Ψ (λ_=>False) 5 3 Pu [o0,o1,bD (.str a),bD (.str b),bD (.str m),oW (MG w),o6,o7] N:=by rw[<- j5]at q;refine#[_,3,_,rfl,rfl,rfl,by rw[QD,QD];omega,?_];show jB Ψ Pu _ _ _;delta Pu;simp![↓Hw];exact#[(),q]
theorem ug(h:w.es.9<=100)(q:N [o0,o1,bD (.str a),bD (.str b),bD (.str m),oW (MG #[w.ps,w.ms,w.ag,w.es++[Xb a b m]]),o6,o7]):S6 Ψ (λ_=>False) 5 3 Ou [o0,o1,bD (.str a),bD (.str b),bD (.str m),oW (MG w),o6,o7] N:=by rw[<- j5]at q;refine#[_,3,_,rfl,rfl,rfl,by rw[QD,QD];omega,?_];show jB Ψ Ou _ _ _;delta Ou;simp![↓Mw,↓gr];exact#[(),(),q]
theorem Cg{e:Evt}(h:w.es.9<=50):(w.es++[e]).9<=100:=by rw[QI];show w.es.9+1<=100;omega
theorem Aw(h:w.es.9<=50)(q:Z.nx (Uu (MG (wL w a b m)) (MG (wL w a b m)) a b m kd kd kd)):pF Ψ (.hs (.for_ (.nm 5) .val %[.tup %[.var 0,.var 1|1]|1] aJ)) Z (Uu (MG w) (MG w) a b m kd kd kd):=by refine .inl #[5,0,1,3,Pu,Ou,rfl,#[by decide,by decide,by show 5<8;decide],#[_,rfl],?_];refine#[MG w,rfl,cg (o0:=kd) (QS h (by decide)) (ug (Cg h) #[_,rfl,?_])];refine#[MG w,rfl,cg (o1:=kd) (QS h (by decide)) (ug (Cg h) #[_,rfl,?_])];exact q
theorem Tw{y:T}{l:LN}{n:Nat}{o5:Option Sl}(i:n<w.es.9/\FC (XA w.es n))(hl:l.9<=1000)(q:Z.nx [bD (wD w),o1,bD (.str a),bD (.str b),bD (.str m),o5,oW (.lst (((l++[n].filter λn=>decide (uV (XA w.es n)=(b,m))).map nD).map T.d)),bD (nD n)]):pF Ψ tF Z [bD (wD w),o1,bD (.str a),bD (.str b),bD (.str m),o5,oW (.lst ((l.map nD).map T.d)),bD (nD n)]:=by
 let#[g,t,x,v,k,o,p,e]:=i;have j:uV (XA w.es n)=(v,k):=by rw[e];rfl
 rw[wI,QBS,j]at q;have f:¬ ((v,k)=(b,m))->Z.nx [bD (wD w),o1,bD (.str a),bD (.str b),bD (.str m),o5,oW (.lst ((l.map nD).map T.d)),bD (nD n)]:=λc=>by rw[ot λz=>c (QB z),Q5]at q;exact q
 delta tF;simp![↓US,↓pQ g,e,↓CS,↓BS,QD];by_cases u:v=b;rw[oa (dT u)];by_cases h:k=m;rw[oa (dT h)];rw[oa (dT (by rw[u,h])),QN,QN]at q;exact#[(),q];rw[ot λz=>h (QB z)];exact f λz=>h (QP QBV z);rw[ot λz=>u (QB z)];exact f λz=>u (QP qp z)
theorem Y1(h1:Ψ.sp "_law_last"=GL)(h2:Ψ.sp "_law_alike"=eM)(h3:Ψ.sp "tellers_of"=rM):JE Ψ aF ZE bO ID:=by
 rintro _ Q _ ⟨w,v,h,I,u,mr,rfl,⟨s,G,o,F⟩,q⟩;have O:G4 w v.1:=#[v,by rw[o];exact QE,rfl]
 have B:G4 w h.1:=#[h,by rw[o];exact QF _ QE,rfl]
 have A:u∈w.ms:=by rw[F];exact QE
 have L:v.1≠h.1:=by have:=s.pn;rw[o]at this;exact λz=>(Qh.mp this).1 (by show v.1∈_;rw[z];exact QE)
 have hv:=xp s G O B A L;refine#[rfl,?_];show vB Ψ _ aF _ [oW (MG w),oW (MG w),kd,kd,kd,kd,kd,kd];have a0:NC (w.ps.map dG) 0=jr (dG v):=by rw[o];exact xC (j:=0) rfl
 have a1:NC (w.ps.map dG) 1=jr (dG h):=by rw[o];exact xC (j:=1) rfl
 have a2:NC (w.ms.map j0) 0=jr (.str u):=by rw[F];exact xC (j:=0) rfl
 delta aF;simp![↓jAl,↓sv,↓nv,a0,a1,a2,OA,↓DV,↓Lw];refine#[(),?_];rw[show(T.d (.tuple [.str v.1,.str h.1,.str u])).er=.tuple [.str v.1,.str h.1,.str u] from rfl,su];show vB Ψ _ (.hs _) _ (Uu (MG w) (MG w) v.1 h.1 u kd kd kd);refine Aw G ?_;have K:OkS h.1/\OkS u:=#[s.nm B,s.mo _ A]
 generalize wL w v.1 h.1 u=w' at hv ⊢;delta Uu;simp![↓vA];refine#[Qs _,Ug (λj S=>by cases S) rfl rfl ?_];have Y:∀k:kA,k.9=8->(kU [0,1] [] { YC ZE ID.length Q with nx:=λf=>pF Ψ .nil (YC ZE ID.length Q) f } [oW (MG w'),oW (MG w'),bD (.str v.1),bD (.str h.1),bD (.str u),kd,oW (.lst []),kd]).rt (.d (.bool kb)) k:=λk hl=>#[hl,kb,rfl,q _ _]
 revert Y;generalize kU [0,1] [] _ _=Z0;intro Y;show vB Ψ _ _ Z0 [bD (MG w').er,bD (MG w').er,bD (.str v.1),bD (.str h.1),bD (.str u),kd,oW (.lst (([]:List D).map T.d)),kd];rw[d9];simp![↓zA (md:=[]) h1 rfl rfl];refine#[_,rfl,hv,λp E t H e1 e2=>#[rfl,?_]];show KA (.d t.er) kb (.d (.int 0)) kn _;rw[e1,show KA (.d (.tuple [.list ((AT (cC w' p).steps).map nD),.list H])) kb (.d (.int 0)) kn=λR=>R (.d (.list ((AT (cC w' p).steps).map nD))) from funext λR=>RA (i:=0) rfl];simp![↓vA];let#[_,_,g]:=bX hv E;let#[ll,M]:=TW g;rw[<- rA nD];refine FA (λn=>T.d (nD n)) (λr f=>∃l o7,(l++r.filter (λn=>decide (uV (XA w'.es n)=(h.1,u)))=Z5 w' (AT (cC w' p).steps) (h.1,u)/\l.9+r.9<=100/\∀n∈r,n<w'.es.9/\FC (XA w'.es n))/\f=[bD (wD w'),bD (wD w'),bD (.str v.1),bD (.str h.1),bD (.str u),kd,oW (.lst ((l.map nD).map T.d)),o7]) ?_ ?_ _ _ #[[],kd,#[rfl,by show 0+_<=_;omega,M],rfl];rintro f ⟨l,o7,⟨e,X,_⟩,rfl⟩;have e:l=Z5 w' (AT (cC w' p).steps) (h.1,u):=by rw[<- e];exact(Q5 _).symm
 subst e;simp![↓zA (md:=[]) h3 rfl rfl,↓zA (md:=[.shal,.shal]) h2 rfl rfl];refine#[_,(h.1,u),rfl,#[hv,K],λJ W=>#[rfl,?_]];cases KW E W;simp![↓vA];exact#[_,rfl,QS (Nat.le_of_add_right_le X) (by decide),rfl,Y _ rfl];rintro n r f N hN ⟨l,o7,⟨e,X,C⟩,rfl⟩;have X:l.9+(r.9+1)<=100:=X;refine Tw (y:=.d .none) (C n QE) () (hN _ #[_,_,#[?_,?_,λx P=>C x (QF _ P)],rfl]);rw[Qz,<- QCA];exact e;rw[QI];have:([n].filter λn=>decide (uV (XA w'.es n)=(h.1,u))).9<=1:=Qx _ [n];omega
noncomputable def Oj(w:Wd)(p:Str×Int×Int×Int):List Pt:=w.ms.map λm=>(p.1,m)
def pT(w:Wd):List Pt:=w.ps.flatMap (Oj w)
def nq(w:Wd)(m:Int)(k:Nat):Pt:=gI (pT w) ((m+7 * (k:Int)) % ((pT w).9:Int)) ("","")
def Vu(w:Wd)(m:Int):List Pt:=(Qm (if((pT w).9:Int)<3 then((pT w).9:Int) else 3).toNat).map (nq w m)
theorem Pj(z:WOk w)(m:Int):∀p∈Vu w m,OkS p.1/\OkS p.2:=λp f=>by
 let#[k,hk,rfl]:=QX.mp f;have hk:=qK.mp hk;have h0:0<((pT w).9:Int):=by split at hk<;>omega
 have d:=GA (m+7 * (k:Int)) h0;have:nq w m k∈pT w:=(xH d.1 d.2).2;let#[x,v,h]:=WT.mp this;let#[y,u,e]:=QX.mp h;rw[<- e];exact#[z.po x v,z.mo y u]
def tM:PSp where
 run:=λh Q _=>∃(w:Wd) (m:Int),h=[.d (wD w),.d (.int m)]/\WOk w/\Q (.lst (((Vu w m).map pr).map T.d)) []
def Bw(w:Wd)(m:Int)(l:List Pt)(o3:Option Sl):kA:=[bD (wD w),bD (.int m),oW (.lst ((l.map pr).map T.d)),o3]
theorem e7:JE Ψ eK tM fQ SM:=by
 rintro _ Q _ ⟨w,m,rfl,k,q⟩;have j:=k.pl;have n:=k.ml;refine uA [bD (wD w),bD (.int m),kd,kd] ?_;delta eK;simp![↓MZ];refine#[(),?_];rw[<- rA dG];refine FA (λp=>T.d (dG p)) (λr h=>∃l x,l++r.flatMap (Oj w)=pT w/\l.9+10 * r.9<=110/\h=Bw w m l x) ?_ ?_ _ _ #[[],kd,rfl,by show 0+_<=_;omega,rfl];rintro h ⟨l,x,e,g,rfl⟩;have e:l=pT w:=by rw[<- e];exact(Q5 _).symm
 subst e;have g:(pT w).9+0<=110:=g;have v:0<=(if((pT w).9:Int)<3 then((pT w).9:Int) else 3)/\(if((pT w).9:Int)<3 then((pT w).9:Int) else 3)<=3:=by split<;>omega
 delta Bw;simp![QD];refine#[W0 (by decide) v.1,QB9 v.2 (by decide),?_];refine tB (λ(i:Nat)=>T.d (.int (i:Int))) (λi=>T.d (pr (nq w m i))) _ [] _ (λi z R u=>?_) (by rw[Qv];show 0+_<=_;omega) ?_;have z:=qK.mp z;have h0:0<((pT w).9:Int):=by split at z<;>omega
 have d:=GA (m+7 * (i:Int)) h0;simp![QD];exact#[zP.ok (.inl #[by decide,by decide]),h0,gE (f:=pr) (l:=pT w) ("","") d.1 d.2 u];rw[Qj,rA λi=>pr (nq w m i)];have e:((Qm (if((pT w).9:Int)<3 then((pT w).9:Int) else 3).toNat).map λi=>pr (nq w m i))=(Vu w m).map pr:=by unfold Vu;rw[Qc];rfl
 rw[e];exact q;rintro p r h N o ⟨l,x,e,g,rfl⟩;have g:l.9+10 * (r.9+1)<=110:=g;delta Bw;delta cL;simp![↓Ta];rw[<- rA j0];refine tB (λy=>T.d (.str y)) (λy=>T.d (pr (p.1,y))) w.ms [] _ (λy X R u=>?_) (by show 0+w.ms.9<=_;omega) ?_;simp![↓DV];exact#[(),u];rw[Qj,rA λy=>pr (p.1,y)];have s:(w.ms.map λy=>pr (p.1,y))=(Oj w p).map pr:=by unfold Oj;rw[Qc];rfl
 have j:(Oj w p).9<=10:=by unfold Oj;rw[QD];exact n
 rw[s,<- QN,<- QN];refine#[by rw[QD,QD,QD,QD];omega,o _ #[l++Oj w p,_,?_,by rw[QI];omega,rfl]];rw[Qz];exact e
end
section
variable{n:Nat}{L:Bool->Prop}{l:LN}
theorem f9(x y:Nat):Qp (nD x) (nD y)=decide (x=y):=(Cm _ _).trans (decide_eq_decide.mpr Int.ofNat_inj)
theorem As:PB .In (.d (nD n)) (.d (.list (l.map nD))) L=L (decide (n∈l)):=by
 show(((YB (nD n)=kb/\(l.map nD).all YB=kb)∨(AE (nD n)/\AE (.list (l.map nD))))/\L ((l.map nD).any λy=>Qp y (nD n)))=_;have e:((l.map nD).any λy=>Qp y (nD n))=decide (n∈l):=by rw[QBP,Q8,w4,Qe];refine#[λ#[x,u,h]=>?_,λh=>#[n,h,?_]];have h:Qp (nD x) (nD n)=true:=h;rw[f9]at h;exact QB h▸u;show Qp (nD n) (nD n)=kb;rw[f9];exact dT rfl
 rw[e];exact o9 #[λh=>h.2,λh=>#[.inl #[rfl,Qw.mpr λy z=>by let#[x,_,rfl]:=QX.mp z;rfl],h]]
end
section
variable{w:Wd}{v:LN}{p:Pt}{Ψ:PEv}{Z:PEnds}{is:LJ}{o:List D}{i:Option Sl}
def p9(w:Wd)(v:LN)(p:Pt)(n:Nat):Bool:=match XA w.es n with
 | .see _ _ _ _=>kn|.tell _ _ b m _ _=>decide ((b,m)=p)&&decide (n∈v)
theorem Hm(hv:kY w v)(f:v.Pairwise (· < ·)):(Qm w.es.9).filter (p9 w v p)=Z5 w v p:=by
 have a:((Qm w.es.9).filter (p9 w v p)).Pairwise (· < ·):=List.pairwise_lt_range.filter _;have b:(Z5 w v p).Pairwise (· < ·):=f.filter _;refine QAp (λx y _ _ u z=>QCs u z) (a.imp Ws) (b.imp Ws) ((List.perm_ext_iff_of_nodup (WH.mpr (a.imp Qk)) (WH.mpr (b.imp Qk))).mpr λn=>?_);rw[Qb,qK];unfold Z5;rw[Qb];constructor;rintro⟨_,h⟩;unfold p9 at h;cases e:XA w.es n with|see t x m k=>rw[e]at h;cases h|tell t x y m k q=>rw[e]at h;have h:=jA h;exact#[QB h.2,h.1]
 rintro⟨u,z⟩;let#[g,t,x,y,m,k,q,e]:=hv.2 n u;refine#[g,?_];unfold p9;rw[e]at z ⊢;exact qH.mpr #[z,dT u]
def lS(is:LJ)(w:Wd)(v:LN)(o:List D)(o4 o5 o6 o7 o8 i:Option Sl):kA:=[jr (.bor (.lst ((is.map j1).map T.d))),bD (wD w),bD (.list (v.map nD)),bD (.list o),o4,o5,o6,o7,o8,i]
noncomputable def dS(l:LN):Option Sl:=jr (.own (.lst ((l.map nD).map T.d)))
def tS(x:Str):Option Sl:=bD (.str x)
theorem Sw{l:LN}{n:Nat}(hl:l.9<=1000)(q:Z.nx (lS is w v o (tS p.1) (tS p.2) (dS (l++[n].filter (p9 w v p))) (bD (nD n)) (bD (XC (XA w.es n))) i)):pF Ψ AL Z (lS is w v o (tS p.1) (tS p.2) (dS l) (bD (nD n)) (bD (XC (XA w.es n))) i):=by
 let#[k,u]:=p;have h:p9 w v (k,u) n=kn->Z.nx (lS is w v o (tS k) (tS u) (dS l) (bD (nD n)) (bD (XC (XA w.es n))) i):=λc=>by rw[wI,c,ot (by decide),QBS,Q5]at q;exact q
 have y:p9 w v (k,u) n=kb->Z.nx (lS is w v o (tS k) (tS u) (oW (.lst ((l.map nD).map T.d++[T.d (nD n)]))) (bD (nD n)) (bD (XC (XA w.es n))) i):=λc=>by rw[wI,c,oa rfl,QBS]at q;unfold dS at q;rw[QN,QN]at q;exact q
 unfold p9 at h y;cases e:XA w.es n with|see t x m j=>rw[e]at h;delta lS dS tS;delta AL;simp![↓nQ,X4];exact pG (show decide ((QY "see")=(QY "tell"))≠kb by decide) (h rfl)|tell t x b m j r=>rw[e]at h y;have h:¬ ((b,m)=(k,u)/\n∈v)->_:=λc=>h (Bool.eq_false_iff.mpr λz=>c #[QB (jA z).1,QB (jA z).2]);delta lS dS tS;delta AL;simp![↓nQ,X4,↓CS,↓BS,↓As,QD];by_cases g:b=k;rw[oa (dT g)];by_cases f:m=u;rw[oa (dT f)];by_cases a:n∈v;rw[oa (dT a)];exact#[(),y (qH.mpr #[dT (by rw[g,f]),dT a])];rw[ot λz=>a (QB z)];exact h λz=>a z.2;rw[ot λz=>f (QB z)];exact h λz=>f (QP QBV z.1);rw[ot λz=>g (QB z)];exact h λz=>g (QP qp z.1)
theorem Pw(f:Ψ.sp "tellers_of"=rM)(b:Ψ.sp "_law_alike"=eM){ns:LN}{o6 o7 o8:Option Sl}(x:WOk w)(y:CL w ns)(a:OkS p.1/\OkS p.2)(q:∀o6 o7 o8 i,Z.nx (lS is w (AT (cC w ns).steps) o (tS p.1) (tS p.2) o6 o7 o8 i)):pF Ψ nS Z (lS is w (AT (cC w ns).steps) o (tS p.1) (tS p.2) o6 o7 o8 i):=by
 let#[_,_,g]:=bX x y;have k:=TW g;have m:=Fl y;have Y:=x.el;generalize hlv:AT (cC w ns).steps=v at *;have X:(Z5 w v p).9<=100:=QS (Qx _ _) k.1;delta lS;delta nS;simp![↓US];refine#[(),?_];rw[Ls];refine FA (λn=>T.d (.tuple [nD n,XC (XA w.es n)])) (λr z=>∃l o7 o8,(l++r.filter (p9 w v p)=(Qm w.es.9).filter (p9 w v p)/\l.9+r.9<=60)/\z=lS is w v o (tS p.1) (tS p.2) (dS l) o7 o8 i) ?_ ?_ _ _ #[[],o7,o8,#[rfl,by rw[Qv];show 0+_<=_;omega],rfl];rintro z ⟨l,o7,o8,⟨e,_⟩,rfl⟩;have e:l=Z5 w v p:=by rw[<- Hm k m,<- e];exact(Q5 _).symm
 subst e;show vB Ψ _ _ Z (lS is w v o (tS p.1) (tS p.2) (dS (Z5 w v p)) (xJ o7) (xJ o8) i);delta lS dS tS;simp![↓zA (md:=[]) f rfl rfl,↓zA (md:=[.shal,.shal]) b rfl rfl];refine#[_,_,rfl,#[x,a],λu h=>?_];cases KW y h;rw[hlv];simp![↓zA (md:=[]) f rfl rfl,↓zA (md:=[.shal,.shal]) b rfl rfl];refine#[_,rfl,(),rfl,?_];refine#[by rw[QD,QD];omega,#[_,_,rfl,#[x,a],λu h=>#[rfl,?_]]];cases KW y h;rw[hlv];rw[rf,rf,ma];exact#[Z5 w v p,rfl,(),rfl,q _ _ _ _];rintro n r z N s ⟨l,o7,o8,⟨e,j⟩,rfl⟩;have j:l.9+(r.9+1)<=60:=j;delta lS;rw[z4,oO];refine Sw () (s _ #[_,_,_,#[?_,?_],rfl]);rw[Qz,<- QCA];exact e;rw[QI];have:([n].filter (p9 w v p)).9<=1:=Qx _ [n];omega
theorem Tx{L:Bool->Prop}:PB .Eq (MG w) (gA (MG w) kb) L=HU .Eq (wD w) (wD w) L:=by rw[<- d9];rfl
theorem Kf{E:XE}{f:Str}{x:PSp}{j z:Nat}{ρ:kA}{t u:T}{K:TK}(h:Ψ.sp f=x)(hm:x.md=[.chg,.chg])(n:j≠z)(g:ρ[j]?=jr (jr (.own t)))(b:ρ[z]?=jr (jr (.own u)))(q:x.run [t,u] (λr y=>∃t' a,y=[t',a]/\K r kb ((((ρ.set j kd).set z kd).set j (jr (.own t'))).set z (jr (.own a)))) E):(pe Ψ (.call f %[.var j,.var z|1]) E).e ρ K:=by show ∃y,BA (bA (Ψ.sp f).md _) ρ=jr y/\_;rw[h,hm];refine#[[t,u],?_,?_,rfl,rfl,[t,u],rfl,x.mono (λr y #[t',a,e,k]=>#[_,by rw[e];rfl,k]) (λ_ z=>z) q];show(match ρ[j]? with|some (jr (.own t))=>(BA [z] ρ).map (t::·)|_=>kd)=_;rw[g];show(match ρ[z]? with|some (jr (.own t))=>(BA [] ρ).map (t::·)|_=>kd).map (t::·)=_;rw[b];rfl;exact Qh.mpr #[λm=>n (QJ.mp m),Qh.mpr #[λm=>(by cases m),Q4]]
theorem Sk(h1:Ψ.sp "_law_longer"=ZE)(h2:Ψ.sp "tellers_of"=rM)(h3:Ψ.sp "_law_alike"=eM)(I:Ψ.sp "_law_world"=eI)(h5:Ψ.sp "_law_last"=GL)(h6:Ψ.sp "_law_pairs"=tM)(h7:Ψ.sp "_law_mixed"=zG)(h8:Ψ.sp "_law_cell_at"=KI)(ds Q E)(h:EQ.run ds Q E):Bz Ψ N9 EQ yi Z6 ds Q:=by
 let#[is,hl,hb,rfl,q]:=h;refine uA [jr (.bor (.lst ((is.map j1).map T.d))),kd,kd,kd,kd,kd,kd,kd,kd,kd] ?_;have u:=A4 is;have O:(wF is).es.9<=50/\(∃n m y,(wF is).ps=n::m::y)/\∃A W,(wF is).ms=A::W:=by
  let#[hb,_]:=Cw is;have J:=(b9 hb (Ng 18 (SF is (jr 2) kd)).zipIdx [] λ_ z=>by cases z).2;rw[Wi]at J;have fl:=jS (SF is (jr 2) kd) (show(0:Int)<18 by decide);have l:=QP qR (LM (bB is 0) (aO is));rw[QD]at l;have n2:=hb.n2;have L:=hb.m1;refine#[QS (wq J) (by show 0+_<=50;omega),?_,?_];show ∃n m y,Ha (bB is 0) (aO is)=n::m::y;cases e:Ha (bB is 0) (aO is) with
  |nil=>rw[e]at l;simp at l;omega|cons a r=>cases r with|nil=>rw[e]at l;simp at l;omega|cons b r=>exact#[_,_,_,rfl]
  show ∃A W,EY is=A::W;cases e:EY is with|nil=>rw[e]at L;cases L|cons a r=>exact#[_,_,rfl]
 delta N9;simp![↓zA (md:=[.shal]) I rfl rfl];refine#[_,rfl,?_];have f:∀{K:T->LT->Prop}{E:XE},K (MG (wF is)) []->rL eI [.lst ((is.map j1).map T.d)] K E:=λq=>#[_,rfl,q];generalize wF is=w at *;refine#[rfl,Ug (λj S=>?_) rfl rfl ?_];rw[QJ.mp S];exact#[_,rfl];have C:(kU [1] [0] { eZ Q with nx:=λk=>pF Ψ %[.hs (.ret (.and (.cmp .Eq (.var 1) (.call "_law_world" %[.var 0|1])) (.call "_law_longer" %[.var 1,.call "_law_world" %[.var 0|1]|1])))|2] (eZ Q) k } [jr (.bor (.lst ((is.map j1).map T.d))),oW (MG w),kd,kd,kd,kd,kd,kd,kd,kd]).nx=λB=>B.9=10/\pF Ψ %[.hs (.ret (.and (.cmp .Eq (.var 1) (.call "_law_world" %[.var 0|1])) (.call "_law_longer" %[.var 1,.call "_law_world" %[.var 0|1]|1])))|2] (eZ Q) [jr (.bor (.lst ((is.map j1).map T.d))),oW (MG w),kd,kd,kd,kd,kd,kd,kd,kd]:=rfl;revert C;generalize kU [1] [0] _ _=Z0;intro C;show vB Ψ _ %[_,_|2] Z0 [jr (.bor (.lst ((is.map j1).map T.d))),bD (MG w).er,kd,kd,kd,kd,kd,kd,kd,kd];rw[d9];simp![↓zA (md:=[]) h5 rfl rfl];refine#[_,rfl,u,λM R t o e1 J=>#[rfl,?_]];rw[e1,oO];simp![↓zA (md:=[]) h6 rfl rfl,↓zA (md:=[]) h7 rfl rfl,↓zA (md:=[.shal]) h8 rfl rfl,↓EG,↓FI];refine#[_,_,rfl,u,?_];simp![↓vA];rw[<- rA pr];refine FA (λp=>T.d (pr p)) (λr k=>∃G F Y X s i,(∀p∈r,OkS p.1/\OkS p.2)/\k=lS is w (AT (cC w M).steps) o G F Y X s i) ?_ ?_ _ _ #[kd,kd,kd,kd,kd,kd,Pj u _,rfl];rintro k ⟨G,F,Y,X,s,i,_,rfl⟩;show Z0.nx _;rw[C];refine#[rfl,.inr #[_,_,1,_,9,rfl,#[by decide,by show 9<10;decide],?_]];show jB Ψ _ _ _ _;simp![↓jAh,↓zA (md:=[.shal]) I rfl rfl];refine f #[rfl,?_];rw[Tx];refine g9 (Dq u) ?_;refine#[rfl,#[_,rfl],?_];show jB Ψ _ _ _ _;simp![↓zA (md:=[.shal]) I rfl rfl];refine f #[rfl,?_];let#[el,#[n,m,y,ep],A,W,em]:=O;exact Kf h1 rfl (by decide) rfl rfl #[w,n,m,y,A,W,rfl,#[u,el,ep,em],λa b=>#[a,b,rfl,kb,rfl,q]];rintro p r k N H ⟨G,F,Y,X,s,i,g,rfl⟩;delta lS;rw[z4];show OP (.tp [4,5]) (.d (.tuple [.str p.1,.str p.2])) _ _;rw[oO];exact Pw h2 h3 u R (g p QE) λY X s i=>H _ #[_,_,Y,X,s,i,λx P=>g x (QF _ P),rfl]
end
end L2.L3.K40
namespace L2.L3
open PySem PySem.Spec PyProof.Rows L2.L3.Q
section
variable{K:QC}{x:Str}{st:g7}
theorem hX{h:xk}:∀(y:List k4),(Hu y h).In h
 |[],a,o,e=>nomatch e
 |b::y,a,o,e=>by
  unfold Hu at e;rw[wu]at e;cases c:h.get? b with
  |none=>rw[c]at e;exact hX y a o e|some z =>
   rw[c]at e;have e:WA a ((b,z)::Hu y h)=jr o:=e;rw[qe]at e;cases d:a==b with|true=>rw[d]at e;cases e;rw[beq_iff_eq.mp d];exact c|false=>rw[d]at e;exact hX y a o e
theorem Zm{q:Str}{f:k4}{y:g6}{w:kt}{v:Option k4}{z:Array (Option kt)}(hl:K.lookup f=jr #[w,v,.func y,z])(h:Ko y (Wr K y.code q&&wW K (.ref f))=Ko (ql x q (MC st) (vC st) (LA st) .none .none .none .none kd .none .none) kb):∃y,Fun K x q st f y:=by let#[Y,X,s,r,p,o,n,m,l,j,i,g,e,b,a]:=y;unfold Ko at h;injection h with h1 h2;injection h2 with h2 h3;injection h1 with b1 h1;injection h1 with b2 h1;injection h1 with b3 h1;injection h1 with b4 b5;injection h2 with c1 h2;injection h2 with c2 h2;injection h2 with c3 c4;let#[u,k]:=qH.mp h3;simp only at b1 b2 b3 b4 b5 c1 c2 c3 c4 u;subst b1 b2 b3 b4 b5 c1 c2 c3 c4;exact#[_,Km hl u k]
theorem E5(h:lX K x=ZU x st)(y:(ZU x st).isSome=kb):JV K x st:=by
 have z:ZU x st=jr (Ko (ql x x (MC st) (vC st) (LA st) .none .none .none .none kd .none .none) kb):=by cases st<;>first|rfl|cases y
 rw[z]at h;unfold lX at h;split at h;rename_i f hf;split at h;rename_i hl;let#[u,F]:=Zm hl (Ql h);exact#[f,u,hf,F];cases h;cases h
theorem Ob(h:XW K x=kb):wA K vx x=jr none:=by unfold XW at h;split at h;assumption;cases h
theorem A5{i:Int}(h:Si K x=jr i):yO K x (.int i):=by
 unfold Si at h;split at h;rename_i u hu;cases u with|int j t=>cases h;exact#[_,_,hu,rfl,λ_=>.int i]|_=>cases h
 cases h
theorem AS:∀{us:LW}{xs:LS},us.map Lp=xs.map jr->us.map jO=xs.map λy=>jr (.str y)
 |[],[],_=>rfl|[],_::_,h=>by cases h|_::_,[],h=>by cases h|u::us,x::xs,h=>by
  injection h with h1 h2;rw[QT,QT,AS h2];cases u with|str z t=>cases h1;rfl|_=>cases h1
theorem Y0{xs:LS}(h:Ei K x=jr (xs.map jr))(y:xs.9<=ku):yO K x (.tuple (xs.map j0)):=by unfold Ei at h;split at h;rename_i f hf;split at h;rename_i t od its n osl hl;split at h;rename_i et;subst et;injection h with h;exact m5 (its:=its.toList) hf (by simpa using hl) (AS h) y;cases h;cases h;cases h
theorem go_of(e:seen K=due):rG K tA=true:=(QAM (QAM (QAM (QAM e).2).2).2).2
end
section
variable{K:QC}{h:xk}{mg:Str->Option kt}{T:k4}
theorem JU(e:rG K T=kb)(X:K.In h)(G:h.Ns vx mg):(∃f k w v z c,mg "going_order"=jr (.ref f)/\K.lookup f=jr #[k,w,.func v,z]/\v.code=.ref c/\QA4 K c T=kb)/\(∀y:xk,K.In y->y.BuiltinsAt mg T)/\K.lookup T=kd/\vx≠T:=by
 let#[u,e]:=jA e;let#[x,e]:=jA e;let#[g,a]:=jA e;refine#[?_,?_,QAg.mp g,bne_iff_ne.mp a];split at u
 ·rename_i f hf
  split at u;rename_i k w v z hl;split at u;rename_i c hc;exact#[f,k,w,v,z,c,WG X G hf,hl,hc,u];cases u;cases u
 cases u;intro y Y;split at x;rename_i b hb;split at x;rename_i t d z hl;let#[n,x]:=jA x;let#[m,x]:=jA x;let#[l,x]:=jA x;let#[j,i]:=jA x;exact#[b,_,WG X G hb,bne_iff_ne.mp l,bne_iff_ne.mp j,bne_iff_ne.mp i,Y _ _ hl,by rw[beq_iff_eq.mp n],by rw[beq_iff_eq.mp m],rfl];cases x;cases x
theorem Ym(e:rG K T=kb)(X:K.In h)(G:h.Ns vx mg):∃v c,(∀x:xk,K.In x->∀P q,kQ mg x P q->P=T/\q=v)/\QA4 K c T=kb/\K.lookup T=none:=by let#[#[f,I,F,C,w,c,p,n,m,y],_,l,_]:=JU e X G;refine#[C.qualname++".<locals>.<lambda>",c,λx Y P q t=>?_,y,l];let#[M,o,B,N,A,W,Z,s,#[L,E,_,_,_,_,_,_,_,j,_,i,g,_],r]:=t;cases p.symm.trans A;have z:=W.symm.trans (Y _ _ n);cases z;cases Z;cases m.symm.trans s;let#[J,u,_,_,_,_,_,_,_,b,_,a,k,_]:=QAN Y y;cases j.symm.trans b;cases i.symm.trans a;cases g.symm.trans k;exact#[rfl,r]
end
theorem walk_seen{l:PySem.W.OpenLaw}{k:Nat}{q:vb}{loose:LS}{XP:(Str->Option kt)->xk->Prop}{YP:xb->xk->Prop}{d:DefRec}{x:Str}{Fs:QC->Prop}{T:k4}
  (hn:l.most=jr 63) (C:d.params.defaults=[]) (S:Room k nt) (hY:∀(w:xb) (h:xk),YP w h->∃K:QC,K.In h/\Fs K/\h.get? T=jr (QBk #[])) (B:∀K,Fs K->rG K T=kb)
  (F:∀(w:xb) (mg:Str->Option kt) (p:k4) (h:xk) (K:QC),K.In h->Fs K->rG K T=kb->h.Ns vx mg->mg d.name=jr (.ref p) ->
   ∃E:g6,(∀(s:ko) (u:kt),nL s E #[[u],[]] [(x,u)]) /\
    ∀y:xk,K.In y->y.Ns vx mg->FnOk l.prog w K mg y M4 k p E [x] (lift K EQ)) :
  PySem.W.WalkO q loose XP YP l.row.toRowW d [] (λf vs=>PySem.call f vs):=by
 intro w L J mg mb G Y p o pm cd doc dV kV ho hd hcd M A hg args I as j n R Z hlo;obtain rfl:dV=.none:=PySem.W.Dflts.none M C;obtain rfl:kV=.none:=PySem.W.Dflts.noKw M;let#[a,vs,P,rfl,rfl,m,i,v]:=Att.script_of hn j Z;let#[K,X,fs,Q]:=hY w _ Y;have N:=B K fs;let#[tq,c,g1,g2,g3]:=Ym N X G.T.g;let#[E,hb,hF]:=F w mg p _ K X fs N G.T.g A;refine PySem.W.enter_call (QCS (r8 g1 ((QAN X g2).tab Q) g3 X G.T.g G.T.b G.T.builtins G.T.nolimit hg m i (QS v (by decide)) S hF hb (λH hO hS=>Pl _ H a P v (zf n) hS) λH e O=>λz=>z) λr O hq=>?_);let#[rfl,h2,h3,h4]:=hq;exact#[.inl #[.bool kb,.bool kb,[],rfl,λ_=>rfl,.bool kb,Att.post_true l _,λ_=>#[List.Pairwise.nil,λ_ hm=>(nomatch hm)]],h2,h3,h4]
end L2.L3
namespace L2.L3.K40
open PySem PySem.Spec PyProof.Rows L2 L2.L3 L2.L3.Q
def ay:Nat->(LW->Prop)->Prop
 |0,p=>p []|n+1,p=>∀u,ay n λh=>p (u::h)
theorem Dv:∀{n:Nat}{p:LW->Prop},ay n p->∀us:LW,us.9=n->p us
 |0,_,h,us,e=>by rw[List.length_eq_zero_iff.mp e];exact h|_+1,_,_,[],e=>nomatch e
 |_+1,_,h,u::us,e=>Dv (h u) us (Nat.succ.inj e)
def jAR(x q:Str)(st:g7)(u:LS):Prop:=∀(kV h v:kt) (k:Option k4) (y w:kt),ay u.9 λz=>lv (ql x q (MC st) (vC st) (LA st) .none kV h v k y w) #[z,[]]=aj (u.zip z)
noncomputable def zo:List (Str×D):=tT.map (λp=>(p.1,.tuple (p.2.map j0)))++sT.map λp=>(p.1,.int p.2)
structure Cx(K:QC)(h:xk)(mg:Str->Option kt):Prop where
 X:K.In h
 G:h.Ns vx mg
 V:∀p∈zo,yO K p.1 p.2
 N:∀y∈nT,wA K vx y=jr kd
 D:∀p∈fT,JV K p.1 (top p.2)
theorem BD{α:Type}{d:α}:∀{l:List α}{i:Nat},QCt i l.9=kb->l.getD i d∈l
 |[],_,h=>nomatch h
 |_::_,0,_=>.head _|_::_,_+1,h=>.tail _ (BD (Nat.blt_eq.mpr (w6 (Nat.blt_eq.mp h))))
theorem Bg{α:Type}{l:List (Str×α)}{p:Str×α}(nd:(l.map qp).Nodup)(h:p∈l):l.lookup p.1=jr p.2:=by
 induction l with|nil=>cases h|cons a l y=>let#[x,s]:=a;rw[QT,Qh]at nd;rw[qe];rcases QL.mp h with rfl|h;rw[beq_self_eq_true];have hm:p.1∈l.map qp:=QBq h;have u:(p.1==x)=false:=beq_eq_false_iff_ne.mpr λz=>nd.1 (by rw[<- z];exact hm);rw[u];exact y nd.2 h
theorem d8{α:Type}{a:α}{g:Str}:∀(l:LS) (r:List α) (i:Nat),g≠l.getD i ""->(l.zip (r.set i a)).lookup g=(l.zip r).lookup g
 |[],_,_,_=>rfl|_::_,[],_,_=>rfl|x::l,s::r,0,h=>by have h:g≠x:=h;show WA g ((x,a)::l.zip r)=WA g ((x,s)::l.zip r);rw[qe,qe,beq_eq_false_iff_ne.mpr h]|x::l,s::r,i+1,h=>by show WA g ((x,s)::l.zip (r.set i a))=WA g ((x,s)::l.zip r);rw[qe,qe,d8 l r i h]
def Cd:LS:=fT.map qp
def fx(i:Nat):Str×Nat:=fT.getD i ("",0)
def tbl(r:List PSp):PEv:=Hf (Cd.zip r) zo
theorem RS{r:List PSp}(i:Nat)(h:QCt i zo.length=true:=by rfl):(tbl r).va (zo.getD i ("",.none)).1=jr (zo.getD i ("",.none)).2:=Bg (DE (by kernel_rfl)) (BD h)
theorem Rp{r:List PSp}(nd:jK ((Cd.zip r).map qp)=kb)(i:Nat)(h:QCt i (Cd.zip r).9=kb):(tbl r).sp ((Cd.zip r).getD i ("",La)).1=((Cd.zip r).getD i ("",La)).2:=by show(WA _ _).getD La=_;rw[Bg (DE nd) (BD h)];rfl
noncomputable def nB(n:Need)(fs:LS):Bool:=n.fn.all (λx=>fs.contains x)&&((n.va.all λx=>(zo.map qp).contains x)&&n.no.all (λx=>nT.contains x))
section
variable{P:vb}{w:xb}{K:QC}{h base:xk}{mg:Str->Option kt}{r r':List PSp}{R:PSp}{v:LS}{k:Nat}{b:PT}{n:Need}{N u:LS}
theorem hv(C:Cx K h mg)(A:∀g∈v,JC P w K mg base (tbl r) k g)(i:Nat)(KB:MA n b N u (top (fx i).2)=kb)
  (body:∀ts Q E,R.run ts Q E->ts.9=u.9/\vB (tbl r) (λ_=>False) b (YC R u.9 Q) (mB N R.md ts)) (m:(tbl r').sp (fx i).1=R) (hc:dD (XB 0 R.md u.9) b=true:=by kernel_rfl)
  (hb:jAR (fx i).1 (fx i).1 (top (fx i).2) u:=by(repeat intro _);rfl)
  (x:nB n v=true:=by kernel_rfl) (j:QCt i fT.length=true:=by rfl):JC P w K mg base (tbl r') (k+1) (fx i).1:=by
 let#[q,x]:=jA x;let#[p,o]:=jA x;exact E8 C.X C.G (C.D _ (BD j)) KB hc (λa b c d e f=>Dv (hb a b c d e f)) (λg l=>A g (sQ q g l)) (dY C.X C.G C.V p) (λy z=>C.N y (sQ o y z)) body m
theorem hc(A:∀g∈v,JC P w K mg base (tbl r) k g){x:Str}(Z:JC P w K mg base (tbl r) (k+1) x):∀g∈x::v,JC P w K mg base (tbl r) (k+1) g:=by intro g y;rcases QL.mp y with rfl|y;exact Z;exact(A g y).mono (qz _)
theorem hm(A:∀g∈v,JC P w K mg base (tbl r) k g):∀g∈v,JC P w K mg base (tbl r) (k+1) g:=λg x=>(A g x).mono (qz _)
theorem h0(C:Cx K h mg)(i:Nat)(KB:MA n b N u (top (fx i).2)=kb)(hb:jAR (fx i).1 (fx i).1 (top (fx i).2) u:=by(repeat intro _);rfl)(x:QCt i fT.length=true:=by rfl)(e:(tbl r).sp (fx i).1=La:=by kernel_rfl):JC P w K mg base (tbl r) (k+1) (fx i).1 :=
 C3 C.X C.G (C.D _ (BD x)) KB (λa b c d e f=>Dv (hb a b c d e f)) (by rw[e];exact λ_ _ _ z=>z.elim)
theorem hs(A:∀g∈v,JC P w K mg base (tbl r) k g){i:Nat}(Z:JC P w K mg base (tbl (r.set i R)) (k+1) (fx i).1)(y:v.contains (fx i).1=false:=by kernel_rfl)(e:(fx i).1=Cd.getD i "":=by rfl):∀g∈(fx i).1::v,JC P w K mg base (tbl (r.set i R)) (k+1) g:=by intro g x;rcases QL.mp x with rfl|x;exact Z;refine((A g x).mono (qz _)).to ?_;show(WA _ _).getD La=(WA _ _).getD La;rw[d8];rintro rfl;rw[e,Qo.mpr x]at y;cases y
theorem hl(C:Cx K h mg)(A:∀g∈v,JC P w K mg base (tbl r) k g){x q:Str}{st:g7}{f:k4}{a:g6}(F:Fun K x q st f a)(KB:MA n b N u st=kb)
  (body:∀ts Q E,R.run ts Q E->ts.9=u.9/\vB (tbl r) (λ_=>False) b (YC R u.9 Q) (mB N R.md ts)) (hc:dD (XB 0 R.md u.9) b=true:=by kernel_rfl) (z:nB n v=true:=by kernel_rfl):FnOk P w K mg base M4 (k+1) f a u (lift K R):=by
 let#[m,z]:=jA z;let#[l,j]:=jA z;exact k9 F KB hc (λg i=>A g (sQ m g i)) (dY C.X C.G C.V l) (λy e=>QAW C.X C.G (C.N y (sQ j y e))) body
theorem cx_of(X:K.In h)(G:h.Ns vx mg)(e:seen K=due)(m:(fT.all λp=>(ZU p.1 (top p.2)).isSome)=kb)(l:(tT.all λp=>decide (p.2.9<=1000))=kb):Cx K h mg:=by injection e with i e;injection e with g e;injection e with f e;injection e with a _;have i:=Wq.mp i;have g:=Wq.mp g;have f:=Wq.mp f;have a:=Wq.mp a;refine#[X,G,λp x=>?_,λy j=>Ob (a y j),λp x=>E5 (i p x) (Qw.mp m p x)];rcases Qd.mp x with x|x;let#[q,z,rfl]:=QX.mp x;have:=QB (Qw.mp l q z);exact Y0 (g q z) ();let#[q,z,rfl]:=QX.mp x;exact A5 (f q z)
end
section
variable{P:vb}{w:xb}{h:xk}{mg:Str->Option kt}
def Fb:List PSp:=[zG,KI,NJ,jG,iI,jW,OJ,sM,VQ,UQ,eI,Yq,BQ,YQ,aM,pY,FL,IF,OG,XQ,JQ,SG,UI,YI,yG,ZQ,RG,ZI,KQ,VI,JI,XI,yW,HL,AD,LL,GL,tM,kW,IV,zW,rM,eM,ZE,EQ]
theorem eA(i:Nat)(h:QCt i (Cd.zip Fb).9=true:=by rfl):(tbl Fb).sp ((Cd.zip Fb).getD i ("",La)).1=((Cd.zip Fb).getD i ("",La)).2:=Rp (by kernel_rfl) i h
theorem jAf{K:QC}{x:xk}{k:Nat}(C:Cx K h mg)(q:rG K tA=kb)(v:K.In x)(m:x.Ns vx mg):JC P w K mg x (tbl Fb) (k+1) "going_order":=by let#[f,M,p,#[#[J,I,kV,B,F,R,b,Q,i,rfl,lk,a],n]]:=C.D (fx 11) (BD rfl);let#[#[O,l,j,A,e,c,g,W,Z,Y],s,L,r]:=JU q C.X C.G;cases(WG C.X C.G p).symm.trans g;cases lk.symm.trans W;cases(show b=.ref c from Z);have z:=λy (o:nT.contains y=kb)=>QAW C.X C.G (C.N y (Qo.mp o));exact Je v m g lk a n (QAN v Y) (s x v) r (z _ (by kernel_rfl)) (z _ (by kernel_rfl)) (z _ (by kernel_rfl)) (λE hl=>by let#[u,rfl]:=QBD.mp hl;rfl) (eA 11)
theorem all{K:QC}{v:k4}(C:Cx K h mg)(b:rG K tA=kb)(y:mg "law"=jr (.ref v)) :
  ∃z:g6,(∀(s:ko) (u:kt),nL s z #[[u],[]] [("_law_script",u)])/\∀x:xk,K.In x->x.Ns vx mg->FnOk P w K mg x M4 47 v z ["_law_script"] (lift K EQ):=by
 refine Tl C.X C.G (C.D (fx 44) (BD rfl)) rfl y (eA 44) (λ_ _ _ _ _ _ e hl=>by let#[u,rfl]:=QBD.mp hl;rfl) λx a k f z F _=>?_;have A:∀g∈([]:LS),JC P w K mg x (tbl Fb) 0 g:=nofun;have A:=hc A (hv C A 0 FX Lk (eA 0));have A:=hc A (hv C A 1 cS sd (eA 1));have A:=hc A (hv C A 2 bS Pk (eA 2));have A:=hc A (hv C A 3 XX l7 (eA 3));have A:=hc A (hv C A 4 VX (f7 (eA 3) (eA 0) (eA 2)) (eA 4));have A:=hc A (hv C A 5 RU Fk (eA 5));have A:=hc A (hv C A 6 TU K1 (eA 6));have A:=hc A (hv C A 7 UX t7 (eA 7));have A:=hc A (hv C A 8 GX (Tk (eA 2) (eA 7)) (eA 8));have A:=hc A (hv C A 9 gS td (eA 9));have A:=hc A (hv C A 10 ZX (d7 (eA 0) (eA 1) (eA 4) (eA 5) (eA 6) (eA 8) (eA 9)) (eA 10));have A:=hc A (jAf C b a k);have A:=hc A (hv C A 12 ON xl (eA 12));have A:=hc A (hv C A 13 JX Ec (eA 13));have A:=hc A (hv C A 14 EU i7 (eA 14));have A:=hc A (hv C A 15 AU (Fq (eA 13) (eA 14) (eA 12)) (eA 15));have A:=hc A (hv C A 16 LO Ac (eA 16));have A:=hc A (hv C A 17 HN (c7 (eA 16) (eA 12)) (eA 17));have A:=hc A (hv C A 18 MO Ic (eA 18));have A:=hc A (hv C A 19 IU Ak (eA 19));have A:=hc A (hv C A 20 NU Ck (eA 20));have A:=hc A (hv C A 21 HX Jd (eA 21));have A:=hc A (hv C A 22 jV (Yd (eA 21)) (eA 22));have A:=hc A (hv C A 23 OU (J1 (eA 22) (eA 21) (RS 0) (RS 1)) (eA 23));have A:=hc A (hv C A 24 oJ (m7 (RS 0)) (eA 24));have A:=hc A (hv C A 25 uS (Rk (RS 0)) (eA 25));have A:=hc A (hv C A 26 MN V1 (eA 26));have A:=hc A (hv C A 27 SO (J7 (eA 26)) (eA 27));have A:=hc A (hv C A 28 RO ud (eA 28));have A:=hc A (hv C A 29 BL (Y7 (eA 23) (eA 24) (eA 25) (eA 27) (eA 28) (RS 0)) (eA 29));have A:=hc A (hv C A 30 VL (Tc (eA 29)) (eA 30));have A:=hc A (hv C A 31 UL (Z7 (eA 30)) (eA 31));have A:=hc A (hv C A 32 PU Gk (eA 32));have A:=hc A (hv C A 33 NO (yd (eA 31) (eA 32)) (eA 33));have A:=hc A (hv C A 34 OO (zd (eA 16) (eA 20) (eA 19) (eA 33)) (eA 34));have A:=hc A (hv C A 35 Te (vd (eA 11) (eA 15) (eA 17) (eA 18) (eA 34)) (eA 35));have A:=hc A (hv C A 36 A3 (jd (eA 35)) (eA 36));have A:=hc A (hv C A 37 BX e7 (eA 37));have A:=hc A (hv C A 38 YX Nk (eA 38));have A:=hc A (hv C A 39 GO (Bk (eA 38)) (eA 39));have A:=hc A (hv C A 40 NN (Hk (eA 35)) (eA 40));have A:=hc A (hv C A 41 FO (Uk (eA 39) (eA 40)) (eA 41));have S:=hs A (h0 (r:=Fb.set 42 La) C 42 vI);have A:=hm A;have Z:=hv (r':=Fb.set 42 vW) C S 42 vI yl (by kernel_rfl);have S:=hs A Z;have A:=hm A;have Z:=hv (r':=Fb) C S 42 vI (Ek (by kernel_rfl)) (eA 42);have A:=hc A Z;have A:=hc A (hv C A 43 SU (Y1 (eA 36) (eA 42) (eA 41)) (eA 43));exact hl C A F Em (Sk (eA 43) (eA 41) (eA 42) (eA 10) (eA 36) (eA 37) (eA 0) (eA 1))
def hk:PySem.W.Hook:=#[FZ×Option Obj,ob,λ_=>(due,jr (QBk #[])),λ_ h=>∃K:QC,K.In h/\seen K=due/\h.get? tA=jr (QBk #[]),λ_ _ e=>#[_,hX _,(QAM e).1,(QAM e).2],λ_ _ _ #[K,X,e,t] k=>#[K,X.keeps k,e,k _ _ t]]
end
end L2.L3.K40
open PySem PySem.W PyProof.Rows
set_option maxRecDepth 100000 in
set_option maxHeartbeats 0 in
theorem PySem.Challenge.cw_quoteweave_k40_tellers_holds : PySem.Challenge.rw_quoteweave_k40_tellers.Holds := by
 refine holds_law L2.L3.Q.ws λy=>?_;refine holds_open (q:=L2.L3.Q.qv) (loose:=[]) (Xt:=L2.L3.Q.xt) (XP:=XL L2.L3.Q.qv []) (Yf:=Hook.obs L2.L3.K40.hk) (Ya:=Hook.val L2.L3.K40.hk) (YP:=Hook.says L2.L3.K40.hk) (N:=2976) L2.L3.Q.lf (Hook.of L2.L3.K40.hk) (Hook.keeps L2.L3.K40.hk) (λs e=>xl_of s (qH.mp e).1) XL.keeps (by rfl) (by rfl) (by rfl) (λs e=>recFacts_of (qH.mp e).2) (by rfl) (by first|assumption|decide +kernel) (by decide +kernel) ⟨rfl,rfl,rfl,rfl,rfl,by decide +kernel⟩ ?hw ?hc
 case hw=>w_witness2
 case hc=>exact L2.L3.walk_seen (l:=qQ) (k:=47) (x:="_law_script") (Fs:=λK=>L2.L3.Q.seen K=L2.L3.Q.due) rfl rfl ⟨rfl,by decide,by decide⟩ (λw h Y=>Y) (λK e=>L2.L3.go_of e) λw u v h K X e z G m=>L2.L3.K40.all (L2.L3.K40.cx_of X G e (by kernel_rfl) (by kernel_rfl)) z m
