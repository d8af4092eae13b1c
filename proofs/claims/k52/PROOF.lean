import PyProof.Rows.All
import Wide.All
import OpenK.AllK
import Wide.FinOn
import Lean
import PyProof.EqAt
import PyProof.EqKinds
import PyProof.TupleCall
import PySem.Challenge.RW_quoteweave_k52_nobody_leans_on_oneself
noncomputable section
set_option Elab.async false
set_option linter.all false
set_option compiler.extract_closed false
set_option bootstrap.genMatcherCode false
set_option genInjectivity false
set_option genSizeOf false
set_option maxRecDepth 100000
set_option maxHeartbeats 4000000
open PySem.W renaming Frag->QA,nsIn->qm,fnOf->qp,keepIn->wM,mg_of->WU,codeIn->Wf,WData->Wu,codeHd_of_K->W7,mg_none_of->QAE,methodObj->QAO,codeHdIn->QAh,cellsFrom_some->QAo,tabObj->QBK
open List renaming length_map->QC,mem_cons_self->QF,mem_cons_of_mem->QG,length_append->QI,mem_singleton->QJ,length_cons->QK,mem_cons->QL,mem_map->QN,size_toArray->QO,map_append->QR,mem_filter->QS,map_cons->QT,map_map->QU,mem_append_right->QW,getElem?_map->QX,nil_append->Qb,mem_append->Qe,getElem?_eq_some_iff->Qf,nodup_cons->Qh,length_singleton->Qi,mem_append_left->Ql,range->Qo,getElem?_eq_getElem->Qq,length_filter_le->Qu,getElem?_append_right->Qv,mem_of_getElem?->Qw,nodup_nil->Qx,getElem?_eq_none->Qz,append_assoc->Q0,isEmpty_iff->Q3,contains_iff_mem->Q9,filter_sublist->qA,toArray->qB,length->qD,append_nil->qF,all_eq_true->qH,getElem?_append_left->qI,length_nil->qK,ext_getElem?->qO,nodup_append->qP,getElem?_set_ne->qR,getElem?_set->qW,length_range->qX,all_cons->qa,getElem?_set_self->qe,length_replicate->qq,getElem?_drop->qu,getElem?_replicate->wB,mem_range->wC,replicate->wE,find?_cons->wH,map_congr_left->wI,any_eq_true->wJ,mem_flatMap->wK,map_nil->wV,getElem?_cons_succ->wX,length_eq_zero_iff->wc,lookup_cons->we,getElem_mem->wf,length_set->wn,any_cons->wu,set->ww,length_take->w6,length_drop->w8,map_fst_zip->WB,map_snd_zip->WC,not_mem_nil->WD,filter_cons->WE,filterMap_cons->WF,getElem?_range->WH,length_range'->WV,drop_eq_nil_of_le->WY,eraseIdxIfInBounds_toArray->Wa,flatMap_cons->Wc,map_inj_left->We,mem_iff_getElem?->Wm,getElem?_modify->Wo,forIn_cons->Wv,foldl_cons->W5,zip_cons_cons->QAD,drop_eq_getElem_cons->QAM,length_erase_of_mem->QAV,foldl_append->QAW,append_cancel_right->QAX,getElem?_cons_zero->QAY,cons_append->QAg,drop_length->QAm,length_pos_of_mem->QAu,length_eq_one_iff->QAv,modify_succ_cons->QAw,modify_zero_cons->QAx,of_mem_zip->QAz,eq_nil_or_concat->QA4,concat_eq_append->QA5,mem_erase_of_ne->QBB,range_eq_range'->QBC,getLast?_concat->QBD,forIn_nil->QBH,mem_map_of_mem->QBR,mergeSort_perm->QBU,length_pos_iff->QBV,set_cons_zero->QBW,set_cons_succ->QBX,mem_filterMap->QBf,map_inj_right->QBo,mapM_toArray->QBv,any_map->QB9,map_set->QCA,nodup_range->QCJ,range'_succ->QCK,lookup->QCN,Perm->QCU,map_id->QCV,getD->QCZ
open Bool renaming false_ne_true->QD,and_eq_true->Qg,false_eq_true->Qr,not_eq_true'->Q2,eq_iff_iff->qG,not_false->wz,true_and->WK,or_eq_true->WR,and_eq_true_iff->Wq,not_true->Wr,false_and->QAF,false_or->QAZ,and_false->QBF,and_true->QBY,or_false->QBZ,or_true->QB2,true_or->QB3
open PySem.PyData renaming str->jk,int->j0
open PySem.Value renaming none->j1,ref->j2
open PySem renaming wpAny_bind->QE,wpAny_pure->QM,sizeLine_eq->Q7,wpAny_loadPart'->qE,wpAny_newObj_type->qJ,mem_of_lookup->qL,wpAny_call_entry->qN,wpAny_callSpecial?_slot->qb,Spec->qg,wpAny_typeNameOfWhole_itemiter->qr,wpAny_mono->qt,wpAny_typeNameOfWhole_keyiter->qy,wpAny_holding->wA,wpAny_dictEntries->wG,wpAny_setField_rec->wL,wpAny_truthy_bool->wO,wpAny_passesOwn->wP,wpAny_Call_Name_kw->wj,wpAny_dictEpoch->wt,wpAny_field->WG,wpAny_isOneOf_itemiter->WX,call_meets->WZ,wpAny_notOrdered_dict->Wj,wpAny_attempt->Wt,wpAny_execs_nil->Ww,codeAny_builtin->Wz,wpAny_setField->QAK,wpAny_fieldsOf->QAL,typeIs_str->QAR,wpAny_pyIter_list->QAT,seqIndex_of->QAb,wpAny_Call_method0_late->QAc,wpAny_newList->QAd,wpAny_isInstance->QAj,wpAny_eqBool_int->QAk,wpAny_isOneOf_keyiter->QA2,wpAny_Name->QA6,wpAny_loadName_local->QA7,wpAny_newFunctionEnv->QA8,wpAny_seqItems->QBG,wpAny_newTuple->QBI,wpAny_loadName_free->QBL,wpAny_Tuple_spliced->QBM,evalArgs_none->QBN,wpAny_setItem_pairs->QBO,wpAny_Constant_int->QBd,wpAny_standAt->QBe,intBits_le_64->QBg,wpAny_handled->QBj,wpAny_pyIter_tuple->QBk,plainId_quiet->QBl,wpAny_assign_Name->QBp,slot_list_getitem->QBr,wpAny_rule->QBt,wpAny_pyIter_slot->QBu,wpAny_pyIter_enum->QBx,codeAny_mono->QB4,concat_meets->QB5,seqIndex_neg->QB6,wpAny_pyHash_str->QCB,wpAny_execs_cons->QCC,noFill_tuple_add->QCD,wpAny_of_eq->QCP,wpAny_throw->QCQ,storedH_new->QCR,Str->QCY
open PySem.Heap renaming get?_push_of_some->QH,get?_push_size->QV,lt_size->Qa,SameBut->qU,get?_update_self->wm,ExtBut->Wx,size_push->QAH,get?_update_other->QAq,get?_push_cases->QBA,size_update->QCI,IsList->QCO
open PySem.Str renaming ofString->QY
open Nat renaming le_trans->QZ,le_refl->Qc,ne_of_lt->Qk,lt_of_lt_of_le->Qn,zero_le->Qs,lt_irrefl->qj,le_of_eq->wW,le_succ->wY,lt_of_succ_lt_succ->wg,ne_of_gt->wk,lt_succ_of_lt->wv,succ_le_succ->w9,lt_of_le_of_lt->WL,zero_add->Wg,lt_or_ge->QAB,add_sub_cancel_left->QAf,le_add_right->QAn,le_of_lt->QAy,le_succ_of_le->QB0,blt->QCX
open False renaming elim->Qd
open Option.some renaming injEq->Qj,inj->Qp
open PySem.Challenge renaming pw_quoteweave_k52_nobody_leans_on_oneself->Qm,rw_quoteweave_k52_nobody_leans_on_oneself->Qy
open PySem.PyData renaming eqv->Qt,canLayAll0->qi,strOk->wF,depthAll->wQ,canLay0->QAJ,depth->QA0,noConfusion->QBi
open Array renaming length_toList->Q1,perm_iff_toList_perm->qQ,getElem?_toList->wq,toList_inj->WA,getElem?_eq_some_iff->W9,getElem?_eq_none->QAs,forIn_toList->QBa
open Option renaming map_some->Q4,map_none->wT,isNone_iff_eq_none->QAN,isSome_map->QAS,getD_none->QCE,getD_some->QCG
open PySem.Heap.SameBut renaming update->Q5
open PySem.Obj renaming mapSeq->Q6,data_mapFields->WP,isFreed_of_fields->QA1,data_mapDictKeys->QA9,cls_mapFields->QBs
open Ne renaming symm->Q8
open PySem.Paired renaming length->qC
open PySem.Builtin.Int renaming intBits->qM
open PySem.Builtin.SmallTypes renaming nextOf->qS
open PySem.F renaming slot_dict_itemiterator_next->qT,slot_dict_keyiterator_next->qY,slot_tuple_iterator_next->qd,args_tuple_iterator_next_1->WJ,entry_tuple_iterator_next->WO,plainAttrs_list->WS,args_dict_itemiterator_next_1->Wb,entry_dict_itemiterator_next->Wi,args_dict_keyiterator_next_1->Wl,entry_dict_keyiterator_next->Wn,args_str_split_2->QAC,slot_dict_getitem->QAI,args_tuple_add_2->QAQ,entry_str_split->QAU,entry_tuple_add->QAa,plainAttrs_dict->QAe,slot_str_split->QAl,slot_tuple_add->QAp,slot_dict_items_iter->QAr,plainAttrs_str->QAt,plain_list_iadd->QBy,entry_list_pop->QCF,slot_dict_iter->QCH,slot_list_pop->QCM
open LawfulBEq renaming eq_of_beq->qV
open PySem.Builtin.Str renaming occurrences->qZ,strKind->QBP
open PyProof.Rows renaming subscriptTail_builtinR->qf,callWith_type1->wl,listUpdate_at->WQ,get?_update_seq->W4,slot_tuple_getitem->QAA,seqEpoch_at->QBQ,getItem_tuple->QBh,sortedAll_old->QBn,Subscript_->QBq,listItems_at->QB7,sortedAll_at->QB8
open PySem.SeqAt renaming EqAt->qh,eqv_refl->QBE
open Prod renaming fst->qk,ext->QCL
open Classical renaming byContradiction->ql
open List.Pairwise renaming imp_of_mem->qw,map->wU
open Lean.Parser.Tactic renaming tacticSeq->qz
open PySem.Builtin.Dict_items renaming addrOf->wN,ownsTuple->Ws
open Int renaming toNat_natCast->wR,lt_irrefl->wb,le_trans->QA3,le_refl->QBS,emod_eq_of_lt->QB1,emod_nonneg->QCW,toNat->QCa
open PySem.W.WData renaming weightAll->wZ,weight->Wp
open PySem.Around renaming under_plainId->wx,in1_units->QAi
open Iff renaming rfl->wy
open PySem.Txt renaming split->w4,slice->Wh,join->QBm
open PySem.Builtin.List renaming listTooLong->WI
open PySem.Builtin.Range renaming rangeSize->WM,small->QBT
open PySem.Calls renaming spliced_cons->WN,callWith_builtin->WW,Name_function_global->W8,spliced_nil->QAP
open List.cons renaming injEq->WT
open PySem.Builtin.Dict renaming showsAll->Wk
open Prod.mk renaming inj->W6
open PySem.Builtin.Tuple renaming tupleHashOf->QAG
open List.Perm renaming refl->QBJ
open PySem.SeqAt.EqAt renaming int_str->QBb,str_int->QBc
open PyProof.Rows.SortSt renaming mk'->QBw
open PySem.StrLaws renaming sliceText->QBz
open Array.Perm renaming refl->QCS
open StateT renaming run_pure->QCT
theorem dF{p:Prop}[Decidable p](h:¬p):decide p=false:=_root_.decide_eq_false h
theorem dT{p:Prop}[Decidable p](h:p):decide p=true:=_root_.decide_eq_true h
abbrev yC:=List (PySem.Addr×PySem.Obj)
abbrev ZC:=PySem.Value -> PySem.Shared -> Prop
abbrev eB:=PySem.Addr -> Prop
abbrev VC:=List (QCY×QCY)
open Option renaming some->kx,none->kv
open Bool renaming true->kf,false->kd
open PySem renaming sizeLine->kb,Value->kn,Shared->kt,wpAny->ku,Addr->ko,model->k4,mainGlobals->vx,Program->vu,compareOp->xk,Heap->x0,World->x2,starEach->yl,Paired->yn,Around->y1,PyData->Gz,sysModules->gV,FuncData->gl,Stmt->gp,binaryOp->g6,cLine->g7,Operator->Hz,bootBuiltins->H0,Scope->hZ,foldedSetIterable->hB,eval->hE,assignEach->hQ,rawInt->h7,firstArgMember->h8,entryOfKey->Fz,sliceBounds->F0,backTo->fy,NameKind->fk,CmpOp->fv,codeAmong->fb,attributeBase->fm,letOwnedTupleGo->Dz,typeNameOfWhole->DC,recursionLimit->dy,swapsWith->dv,DictEntry->dt,builtinsNs->d3,IsItemIter->d7,atKey->Bz,call->bb,assign->Cz,bindArgs->c5,ReadsAll->c9,Keyword->Ez,relabel->ej,valueAt->eH,behindInMarks->ef,pyIter->ee,closureFor->Lz,IntMulOk->lv,BindsTo->lb,callerA->ll,eqIsQuiet->ln,TriplesOk->lp,pyNext->la,spliced->li,codeAny->l0,bindL->l4,bindC->l5,PlainAttrs->Mz,wpAny_notIn_of->my,newExc->me,newTuple->mm,dictSetDefault->mu,intBits_add_le->mA,assignInOrder->mi,rangeSize_one->m5,seq_tuple_add->Nz,evalPart_none->nc,comprehension->nL,IsItemIterOut->nl,Comprehension->nP,Arguments->nt,PassesOwn->ni,cellsFrom->n7,Const->Pz,holding->P0,UnaryOp->pv,getItem->pd,storedH->pL,IsRange->pR,HeapKind->pu,field->p0,raiseNew->p6
open Pure renaming pure->p7
open PyProof.Rows renaming seqObj->p8,oneType'->Rz,StrsAre->RD,AllBare->RB,envOfC->Rt,pairsOf->rk,subscriptTail->rn,IntsAre->ro,sortedS->sh,entry_list_sort->sn,IsTup->Tz,slot_list_sort->tj,failedOf->tv
theorem th.{u}{c:Prop}{d:Decidable c}(h:¬c){α:Sort u}{t e:α}:ite c t e=e:=_root_.if_neg h
theorem tt.{u}{c:Prop}{d:Decidable c}(h:c){α:Sort u}{t e:α}:ite c t e=t:=_root_.if_pos h
theorem ti{a b:Prop}(h:a)(k:¬a):b:=_root_.absurd h k
theorem t3{a b:Prop}(h:a<->b):a=b:=_root_.propext h
theorem u0{p:Prop}[Decidable p](h:decide p=true):p:=_root_.of_decide_eq_true h
theorem Az{p:Prop}[Decidable p]:decide p=true<->p:=_root_.decide_eq_true_iff
theorem aj.{u,v}{α:Sort u}{β:Sort v}{a b:α}(f:α->β)(h:a=b):f a=f b:=_root_.congrArg f h
local macro_rules | `($x.$i:fieldIdx)=>if i.raw.isFieldIdx?==some 9 then `(($x).length) else Lean.Macro.throwUnsupported
set_option hygiene false in
local macro_rules
 | `(#[$xs,*])=>if xs.getElems.isEmpty then Lean.Macro.throwUnsupported else `(⟨$xs,*⟩)
 | `(())=>`(by omega)
open Lean Parser.Tactic in
def zzp:Nat->Syntax->MacroM (TSyntax `rcasesPat)
 | 0,_=>Macro.throwUnsupported
 | n+1,s=>match s with
  | `(#[$xs,*])=>do
   let a<-xs.getElems.mapM λx=>do let p<-zzp n x;`(rcasesPatLo| $p:rcasesPat)
   `(rcasesPat| ⟨$a,*⟩)
  | `(_)=>`(rcasesPat| _)
  | `($x:ident)=>`(rcasesPat| $x:ident)
  | _=>Macro.throwUnsupported
local macro_rules | `(tactic| let $p:term:=$e:term)=>do `(tactic| obtain $(<-zzp 9 p):rcasesPat:=$e)
set_option hygiene false in
local macro_rules | `(tactic| omega)=>do
 let f:=λ(s:String)=>(s.splitOn " ").toArray.map λx=>Lean.mkIdent x.toName
 let a<-(f "L2.szA L2.szB L2.szC L2.unA Nat.le_trans Nat.lt_of_le_of_lt").mapM λx=>`(qz| exact $x (by assumption) (by decide))
 let b<-(f "Nat.lt_of_lt_of_le Nat.lt_of_le_of_lt Nat.le_trans").mapM λx=>`(qz| exact $x (by assumption) (by assumption))
 let c<-(f "Nat.le_of_lt Nat.ne_of_lt Nat.ne_of_gt Nat.lt_succ_of_lt Nat.le_of_lt_succ L2.prA").mapM λx=>`(qz| exact $x (by assumption))
 let d<-(f "Nat.le_refl Nat.le_succ Nat.zero_le Nat.succ_pos").mapM λx=>`(qz| exact $x _)
 `(tactic| first|decide|assumption|exact L2.szL (by decide) $[| $a]* $[| $b]* $[| $c]* $[| $d]*|lia|omega (config:={})|(have:=PySem.sizeLine_eq;first|lia|omega (config:={})))
set_option hygiene false in
local macro_rules
 | `(%[ $xs,*|1 ])=>do
  let mut r<-`(PX.anil)
  for x in xs.getElems.reverse do r<-`(PX.acons $x $r)
  return r
 | `(%[ $xs,*|2 ])=>do
  let mut r<-`(PT.nil)
  for x in xs.getElems.reverse do r<-`(PT.seq $x $r)
  return r
def zza:="jA Og Ag Z9 Rg Eg jh Ng Y9 Mg Sg Pg J9 Ig Lg oh Rs Gg Kh rh Ss Yh Ch Hg Bh Dh i9 Jh e9 Ts CZ Xh Ky D9 eh nV mV F9 Uh Vh Zh ph G9 Yg r9 Mr Zg Fh O9 pV rV yh Er V9 bh uh dh Ir xh kh zh K9 Sy jz Ay Iy Ey Os Ms Oy Ry Py Ix Tx Ax Fy Cy Dy By lx uy zz yz MY Lq Mq Yy Jy iy ay sy oy ny ly gy cy Bs Us Xs Vs gh zy yy ky js mh Uy xx FZ yt Xr Dg Cg Vg Xg Bg Ug Sr Rr Ar mk_2 nq rg lg ug gr nr Px Kr Yr fg v9 dg k9 x9 JN cg Xx Sx Xf kq zq Rn Nh Z4 Pn Kx Dx Fx pq Bf gk oq zt au ua yo Fg kg sB reduceIte"
def zzb:="OF GE HF FN T.isD lockA dG lock kill EI Tg.ix oC EX FO ZS isMut MW frzAt zX Fd xC.eq_1 xC.eq_2 MM.eq_1 MM.eq_2 MM.eq_3 MM.eq_4 U7 X7 V7 RI.eq_1 List.modify_succ_cons List.modify_zero_cons Option.map_some List.length_cons List.length_nil List.getElem?_cons_zero List.getElem?_cons_succ List.cons_append List.nil_append List.set_cons_zero List.set_cons_succ Nat.reduceAdd Nat.reduceSub Nat.zero_add Bool.and_true Bool.true_and Bool.not_true Bool.not_false Bool.or_true Bool.true_or Bool.or_false Bool.false_or Bool.and_false Bool.false_and if_true if_false Bool.false_eq_true true_and and_true false_implies ne_eq reduceCtorEq not_false_eq_true not_true_eq_false implies_true forall_const Int.reduceLT Int.reduceLE Int.reducePow Int.reduceNeg Nat.reducePow and_self eq_self Option.some.injEq Sl.own.injEq Sl.bor.injEq and_assoc decide_true decide_false"
set_option hygiene false in
local macro_rules | `(tactic| simp! [$ls,*])=>do
 let a<-(zza.splitOn " ").toArray.mapM λx=>`(Lean.Parser.Tactic.simpLemma| ↓ $(Lean.mkIdent x.toName):ident)
 let b<-(zzb.splitOn " ").toArray.mapM λx=>`(Lean.Parser.Tactic.simpLemma| $(Lean.mkIdent x.toName):ident)
 `(tactic| simp only [$ls,*,$a,*,$b,*])
set_option hygiene false in
local macro_rules | `(tactic| simp_arith! [$ls,*])=>do
 let a<-(zza.splitOn " ").toArray.mapM λx=>`(Lean.Parser.Tactic.simpLemma| ↓ $(Lean.mkIdent x.toName):ident)
 let b<-(zzb.splitOn " ").toArray.mapM λx=>`(Lean.Parser.Tactic.simpLemma| $(Lean.mkIdent x.toName):ident)
 `(tactic| simp -implicitDefEqProofs only [$ls,*,$a,*,$b,*])
abbrev LS:=List QCY
abbrev LN:=List Nat
abbrev LJ:=List Int
abbrev LW:=List PySem.Value
namespace L2.L3.Q
open PySem PySem.W PySem.Spec PyProof.Rows
noncomputable def Vt(x:List ko)(h:x0):QA:=x.filterMap λa=>(h.get? a).map λo=>(a,o)
noncomputable abbrev Ht:=(Str×Str×nt×FuncBody×hZ)×(ko×List (Str×ko)×kn×ko)×Bool
noncomputable def Xn(h:gl)(b:Bool):Ht:=((h.name,h.qualname,h.params,h.body,h.scope),(h.globals,h.closure,h.defaults,h.builtins),b)
def vX(K:QA)(x:Str):Option Ht:=match qm K vx x with
 |some (kx (.ref f))=>(match K.lookup f with
  |some #[_,_,.func fd,_]=>kx (Xn fd (Wf K fd.code x&&wM K (.ref f)))|_=>kv)
 |_=>kv
def pU(x:Str)(st:gp):Option Ht:=match st with
 | .FunctionDef _ a b _ _ _ sc _ _ _=>kx (Xn (qp x x a b sc .none .none .none .none kv .none .none) kf)|_=>kv
def Fo:kn->Option Str
 | .str z _=>kx z|_=>kv
noncomputable def Ih(K:QA)(x:Str):Option (List (Option Str)):=match qm K vx x with
 |some (kx (.ref f))=>(match K.lookup f with
  |some #[.type t,_,.seq its _,_]=>if t="tuple" then kx (its.toList.map Fo) else kv|_=>kv)
 |_=>kv
def Lv:kn->Option Int
 | .int i _=>kx i|_=>kv
noncomputable def Ah(K:QA)(x:Str):Option Int:=match qm K vx x with
 |some (kx u)=>Lv u|_=>kv
noncomputable def pW(K:QA)(x:Str):Bool:=match qm K vx x with
 |some kv=>kf|_=>kd
noncomputable def lG(K:QA)(T:ko):Bool:=(match qm K vx "going_order" with
 |some (kx (.ref f))=>(match K.lookup f with
  |some #[_,_,.func fd,_]=>(match fd.code with
   | .ref c=>QAh K c T|_=>kd)
  |_=>kd)
 |_=>kd)&&((match qm K vx "__builtins__" with
 |some (kx (.ref b))=>(match K.lookup b with
  |some #[.type t,kx d,.plain,_]=>t == "module" && (d==d3&&(b != d3&&(b != vx&&b != T)))|_=>kd)
 |_=>kd)&&((K.lookup T).isNone&&vx != T))
def top(i:Nat):Stmt:=Qm.main.body.getD i (.Pass #[0,0,0,0])
noncomputable def fT:List (Str×Nat):=([("_law_draw",48),("_law_next",49),("_law_keywords",47),("_law_name",50),("_law_people",51),("_law_event",52),("_law_world",53),("going_order",17),("has_against",22),("rank_of",20),("floor_of",21),("is_taken",19),("seen_among",24),("wrong_among",23),("live_among",25),("edges_of",28),("seers_of",27),("add_way",6),("add_name",5),("rooms_of",4),("points_reached",7),("lay_chain",8),("name_behind",10),("chain_from",9),("full_names",11),("apart_chains",3),("told_through",15),("ground_alone",14),("needs_of",30),("holders_in",29),("held_among",26),("gone",18),("held_in",35),("web_without",38),("live_in",34),("past_in",33),("seen_in",36),("web_of",37),("holders_without",45),("leans_in",44),("last_moment",32),("leans_of",41),("_law_seers",56),("ground_by",13),("left_in",43),("fallen_in",42),("struck",40),("law",58)]:List (String×Nat)).map λp=>(QY p.1,p.2)
def tT:List (Str×LS):=[("BEGIN",["","begin"])]
def sT:List (Str×Int):=[("WIDE",2)]
noncomputable def nT:LS:=(["any","len","max","range","sorted","tuple"]:List String).map QY
noncomputable def qv:Program:={ Qm with main:={ Qm.main with body:=[1,2,3,4,5,6,7,8,9,10,11,13,14,15,17,18,19,20,21,22,23,24,25,26,27,28,29,30,32,33,34,35,36,37,38,40,41,42,43,44,45,47,48,49,50,51,52,53,54,55,56,57,58].map top } }
def tA:Addr:=89
noncomputable abbrev YZ:=List (Option Ht)×List (Option (List (Option Str)))×List (Option Int)×List Bool×Bool
def seen(K:Frag):YZ:=(fT.map λp=>vX K p.1,tT.map λp=>Ih K p.1,sT.map λp=>Ah K p.1,nT.map (pW K),lG K tA)
def due:YZ:=(fT.map λp=>pU p.1 (top p.2),tT.map λp=>kx (p.2.map kx),sT.map λp=>kx p.2,nT.map λ_=>kf,kf)
def fr(s:kt):Frag:=Vt ((Qo 321).filter λa=>a != tA) s.1
def xt(s:kt):Bool:=xlAt qv [] s&&recOk (RowW.records Qy.row.toRowW) s
def ob(s:kt):YZ×Option Obj:=(seen (fr s),s.1.get? tA)
theorem lf:LeftO Qm qv [] xt ob (λ_=>(due,kx (tabObj #[]))) 3234:=by intro w;kernel_rfl
theorem ws:Qy.wellSaid=true:=by kernel_rfl
end L2.L3.Q
namespace L2
open PySem PySem.Spec PyProof.Rows
section
variable{n m:Nat}
theorem szL(h:n<=16777216):n<=sizeLine:=by rw[Q7];exact h
theorem lz(h:n<16777216):n<sizeLine:=by rw[Q7];exact h
theorem mz(h:n<=m)(k:m<=16777216):n<=sizeLine:=szL (QZ h k)
theorem Uz(h:n<=m)(k:m<16777216):n<sizeLine:=lz (WL h k)
theorem Xz(h:n<=m)(k:m<=16777216):0+n<=sizeLine:=by rw[Wg];exact mz h k
theorem Vz{k c:Nat}(h:n+k<c)(l:m<=k):n+m<c:=WL (Nat.add_le_add_left l n) h
end
open PySem.SeqAt
inductive NK where
 |s (x:Str)|t (xs:List NK)
noncomputable instance:DecidableEq NK:=λ_ _=>Classical.propDecidable _
mutual
def x4(h:x0):NK->kn->Prop
 | .s x,v=>∃t,v=.str x t|.t ks,v=>∃a y,v=.ref a/\h.IsTuple a y/\NKvs h ks y.toList
def NKvs(h:x0):List NK->LW->Prop
 |[],vs=>vs=[]|k::ks,vs=>∃v r,vs=v::r/\x4 h k v/\NKvs h ks r
end
mutual
def c7:NK->Nat
 | .s _=>0|.t h=>nkds h+1
def nkds:List NK->Nat
 |[]=>0|k::ks=>max (c7 k) (nkds ks)
end
mutual
def Kv(w:x2):NK->Int
 | .s x=>hashStr w x|.t h=>reduceHash (QAG (nkhs w h))
def nkhs(w:x2):List NK->LJ
 |[]=>[]|k::ks=>Kv w k::nkhs w ks
end
mutual
def cn:NK->Nat
 | .s _=>1|.t h=>nkts h+1
def nkts:List NK->Nat
 |[]=>0|k::ks=>cn k+nkts ks
end
theorem zY{h:x0}{a:ko}{xs ys:Array kn}(p:h.IsTuple a xs)(q:h.IsTuple a ys):xs=ys:=by let#[o,e,_,n,d]:=p;let#[z,x,_,u,y]:=q;cases e.symm.trans x;cases d.symm.trans y;rfl
mutual
theorem f7{h:x0}:∀{k l:NK}{v:kn},x4 h k v->x4 h l v->k=l
 | .s x,.s y,v,#[t,e],#[u,e']=>by subst e;cases e';rfl|.s x,.t ls,v,#[t,e],#[_,_,e',_]=>by subst e;cases e'|.t ks,.s y,v,#[_,_,e,_],#[_,e']=>by subst e;cases e'|.t ks,.t ls,v,#[a,its,e,p,q],#[b,jts,e',p',q']=>by subst e;cases e';cases zY p p';rw[nks_inj q q']
theorem nks_inj{h:x0}:∀{ks ls:List NK}{vs:LW},NKvs h ks vs->NKvs h ls vs->ks=ls
 |[],[],_,_,_=>rfl|[],_::_,_,e,#[_,_,e',_]=>by cases(show _=[] from e).symm.trans e'|_::_,[],_,#[_,_,e',_],e=>by cases(show _=[] from e).symm.trans e'|k::ks,l::ls,_,#[v,r,e,p,q],#[v',r',e',p',q']=>by cases e.symm.trans e';rw[f7 p p',nks_inj q q']
end
mutual
theorem ZT{h h':x0}(k:∀a its,h.IsTuple a its->h'.IsTuple a its):∀{x:NK}{v:kn},x4 h x v->x4 h' x v
 | .s x,v,e=>e|.t ks,v,#[a,its,e,p,q]=>#[a,its,e,k a its p,nks_keeps k q]
theorem nks_keeps{h h':x0}(k:∀a its,h.IsTuple a its->h'.IsTuple a its):∀{xs:List NK}{vs:LW},NKvs h xs vs->NKvs h' xs vs
 |[],_,e=>e|x::xs,_,#[v,r,e,p,q]=>#[v,r,e,ZT k p,nks_keeps k q]
end
section
variable{prog:vu}{w:x2}{E:ZC}
mutual
theorem HY:∀(k:NK) (v:kn) (A:y1) (s:kt) (Q:Int->kt->Prop),x4 s.1 k v->A.units+c7 k<g7->Q (Kv w k) { s with toks:=s.toks+cn k }->ku (k4 prog w) A (pyHash v) Q E s
 | .s x,v,A,s,Q,#[t,e],_,q=>by subst e;exact QCB q|.t ks,v,A,s,Q,#[a,its,e,#[o,ho,hc,n,hd],hi],h,q=>by subst e;have h:A.units+(nkds ks+1)<cLine:=h;refine PySem.W.pyHash_slot (T:="tuple") #[o,ho,hc] F.slot_tuple_hash F.entry_tuple_hash (F.args_tuple_hash_1 _) (beq_builtin_none _) (.inr ()) ?_;show ku _ _ (Builtin.Tuple.tupleItemsOf (.ref a) >>= _) _ _ s;refine QE (wpAny_tupleItemsOf ho hd ?_);refine QE ?_;rw[<- QBa];refine nk_loop ks its.toList A.in1 s #[] _ hi (by rw[QAi];omega) λb hb=>?_;show ku _ _ (retInt (QAG b.toList)) _ _ _;rw[hb];exact QE (wpAny_mkInt (QM #[_,_,rfl,by rw[Nat.add_assoc];exact q]))
theorem nk_loop:∀(ks:List NK) (vs:LW) (A:y1) (s:kt) (b:Array Int) (Q:Array Int->kt->Prop),NKvs s.1 ks vs->A.units+nkds ks<g7 ->
  (∀y,y.toList=b.toList++nkhs w ks->Q y { s with toks:=s.toks+nkts ks }) ->
  ku (k4 prog w) A (forIn vs b λx r=>do let h <- pyHash x;p7 PUnit.unit;p7 (ForInStep.yield (r.push h))) Q E s
 |[],vs,A,s,b,Q,e,_,q=>by subst e;exact QM (q b (qF _).symm)|k::ks,vs,A,s,b,Q,#[v,r,e,p,p'],z,q=>by subst e;have z:A.units+max (c7 k) (nkds ks)<cLine:=z;rw[Wv];refine QE (QE (HY k v A s _ p () ?_));refine QE (QM (QM ?_));refine nk_loop ks r A _ _ Q p' () λy hb=>?_;have e:s.toks+cn k+nkts ks=s.toks+(cn k+nkts ks):=Nat.add_assoc _ _ _;have:=q y (by rw[hb,Array.toList_push,Q0];rfl);show Q y { s with toks:=s.toks+cn k+nkts ks };rw[e];exact this
end
end
theorem Jm{ks ls:List NK}{n m:Nat}(x:n=ks.9)(y:m=ls.9):((Qo (min n m)).all (λj=>decide (ks[j]?=ls[j]?))&&n==m)=decide (NK.t ks=NK.t ls):=by subst x y;rw[qG,Az,Qg,qH,beq_iff_eq];constructor;rintro⟨z,v⟩;congr 1;refine qO λj=>?_;by_cases u:j<ks.9;exact u0 (z j (wC.mpr ()));rw[Qz (),Qz ()];intro h;injection h with h;subst h;exact#[λ_ _=>dT rfl,rfl]
theorem jR{h:x0}:∀{ks:List NK}{vs:LW},NKvs h ks vs->vs.9=ks.9
 |[],_,e=>by cases(show _=[] from e);rfl|_::_,_,#[v,r,e,_,q]=>by rw[e,QK,QK,jR q]
mutual
theorem Zf:∀(k l:NK) (v u:kn) (A:y1) (s:kt),x4 s.1 k v->x4 s.1 l u->A.units+c7 k<g7->EqAt A s v u (decide (k=l))
 | .s x,.s y,v,u,A,s,#[t,e],#[t',e'],_=>by
  subst e e';have:=EqAt.str_str (A:=A) (s:=s) x t y t';have z:(x==y)=decide (NK.s x=NK.s y):=by rw[qG,Az,beq_iff_eq];exact#[λh=>h▸rfl,λh=>by injection h]
  rw[<- z];exact this
 | .s x,.t ls,v,u,A,s,#[t,e],#[b,jts,e',p,_],f=>by subst e e';rw[dF λh=>by cases h];exact EqAt.str_tuple x t p ()|.t ks,.s y,v,u,A,s,#[a,its,e,p,_],#[t,e'],f=>by subst e e';rw[dF λh=>by cases h];exact EqAt.tuple_str y t p ()|.t ks,.t ls,v,u,A,s,#[a,its,e,p,q],#[b,jts,e',p',q'],f=>by subst e e';by_cases w:a=b;subst w;cases zY p p';rw[nks_inj q q',dT rfl];exact EqAt.same _;have f:A.units+(nkds ks+1)<cLine:=f;refine EqAt.of_refs w ?_;have i:=jR q;have g:=jR q';rw[Q1]at i g;rw[<- Jm i g];refine RcAt.tuples p p' () λj n m=>?_;have:=nks_eq ks ls its.toList jts.toList A.in1 s q q' (by rw[QAi];omega) j (by rw[Q1];exact n) (by rw[Q1];exact m);simpa using this
theorem nks_eq:∀(ks ls:List NK) (vs us:LW) (A:y1) (s:kt),NKvs s.1 ks vs->NKvs s.1 ls us->A.units+nkds ks<g7->∀j (y:j<vs.9) (x:j<us.9),EqAt A s vs[j] us[j] (decide (ks[j]?=ls[j]?))
 |[],_,vs,us,A,s,e,_,_,j,y,_=>by cases(show vs=[] from e);cases y|_::_,[],vs,us,A,s,_,e,_,j,_,x=>by cases(show us=[] from e);cases x|k::ks,l::ls,_,_,A,s,#[v,r,e,p,q],#[v',r',e',p',q'],u,j,y,x=>by
  subst e e';have u:A.units+max (c7 k) (nkds ks)<cLine:=u;cases j with|zero=>have:=Zf k l v v' A s p p' ();have z:decide (k=l)=decide ((k::ks)[0]?=(l::ls)[0]?):=decide_eq_decide.mpr #[λh=>by rw[h];rfl,λh=>Qp h];rw[<- z];exact this|succ j=>exact nks_eq ks ls r r' A s q q' () j (wg y) (wg x)
end
section
variable{prog:vu}{w:x2}{A:y1}{E:ZC}{s:kt}
mutual
theorem YT:∀(k:NK) (v:kn) (n:Nat) (Q:Bool->kt->Prop),x4 s.1 k v->c7 k<=n->Q kf s->ku (k4 prog w) A (ln n v) Q E s
 | .s x,v,n,Q,#[t,e],_,q=>by subst e;rw[eqIsQuiet_byValue _ rfl];exact QM q|.t ks,v,n,Q,#[a,its,e,#[o,ho,hc,m,hd],hi],g,q=>by
  subst e;have g:nkds ks+1<=n:=g;obtain⟨n,rfl⟩:∃m,n=m+1:=#[n - 1,()]
  have i:s.TypeIs (.ref a) "tuple":=#[o,ho,hc]
  unfold ln;refine QE (wpAny_specialOf i F.slot_tuple_eq.lookup ?_);show ku _ _ (isInstance (.ref a) (.type "tuple") >>= _) _ _ s;refine QE (QAj i isSubtype_tuple_tuple ?_);simp only[Wr,Qr,if_false];refine QE (QBG ho hd ?_);refine QE ?_;show ku _ _ (forIn its _ _) _ _ s;rw[<- QBa];refine wpAny_forIn_list _ (λh r z=>r.1=kv/\z=s/\∀v∈h,∀Q:Bool->kt->Prop,Q kf s->ku (k4 prog w) A (ln n v) Q E s) _ ?_ ?_ _ _ #[rfl,rfl,nks_quiet ks its.toList n hi ()];rintro v h r z ⟨f,rfl,y⟩;refine QE (y v QF _ ?_);simp only[Wr,Qr,if_false];exact QM #[rfl,rfl,λu b=>y u (QG _ b)];rintro⟨j,l⟩ z ⟨f,rfl,_⟩;cases(show j=kv from f);exact QM q
theorem nks_quiet:∀(ks:List NK) (vs:LW) (n:Nat),NKvs s.1 ks vs->nkds ks<=n->∀v∈vs,∀Q:Bool->kt->Prop,Q kf s->ku (k4 prog w) A (ln n v) Q E s
 |[],vs,n,e,_,v,hv,Q,q=>by cases(show vs=[] from e);cases hv|k::ks,vs,n,#[x,r,e,p,p'],h,v,hv,Q,q=>by subst e;have h:max (c7 k) (nkds ks)<=n:=h;rcases QL.mp hv with rfl|hv;exact YT k v n Q p () q;exact nks_quiet ks r n p' () v hv Q q
end
end
section
variable{H:Hp}{a b:ko}{o:HO}
def vF(prog:vu)(w:x2):pu prog w NK where
 is:=λh k a=>x4 h k (.ref a)/\c7 k<=6
 hash:=Kv w
 draws:=cn
 room:=λA=>A.units+8<g7
 inj:=λy u=>f7 y.1 u.1
 keeps:=λ{h m k a d o p q} x j l i=>#[ZT (λb f #[ob,e,c,n,v]=>#[ob,(i.2 b λz=>by subst z;cases e.symm.trans j;cases l.symm.trans v).trans e,c,n,v]) x.1,x.2]
 pyHash:=λg hk h=>HY _ _ _ _ _ hk.1 (by have:=hk.2;omega) h
 eqBool:=λg y u h=>Zf _ _ _ _ _ _ y.1 u.1 (by have:=y.2;omega) _ _ _ _ h
 quiet:=λhk h=>YT _ _ _ _ hk.1 (by have:=hk.2;omega) h
noncomputable abbrev Key:=Sum Int Str
noncomputable def rP:Key->kn->Bool
 | .inl k,v=>Value.isInt k v|.inr x,v=>Value.isStrOf x v
noncomputable def Hv(w:x2):Key->Int
 | .inl k=>hashInt k|.inr x=>hashStr w x
theorem RA:∀{k:Key}{v:kn},rP k v=kf->(∃i t,k=Sum.inl i/\v=Value.int i t)∨(∃x t,k=Sum.inr x/\v=Value.str x t)
 | .inl i,v,h=>by let#[t,e]:=Value.isInt_shape (k:=i) (v:=v) h;exact .inl #[i,t,rfl,e]|.inr x,v,h=>by let#[t,e]:=Value.isStrOf_shape (x:=x) (v:=v) h;exact .inr #[x,t,rfl,e]
theorem Y2(i:Int)(t:Tok):rP (.inl i) (.int i t)=true:=by simp[rP,Value.isInt]
theorem y2(x:Str)(t:Tok):rP (.inr x) (.str x t)=true:=by simp[rP,Value.isStrOf]
theorem Gk(a b:Int):decide ((Sum.inl a:Key)=Sum.inl b)=(a==b):=by by_cases e:a=b;subst e;simp;have h:¬ (Sum.inl a:Key)=Sum.inl b:=λq=>e (Sum.inl.inj q);rw[dF h];exact(beq_eq_false_iff_ne.mpr e).symm
theorem Ck(a b:Str):decide ((Sum.inr a:Key)=Sum.inr b)=decide (a=b):=by by_cases e:a=b;subst e;simp;have h:¬ (Sum.inr a:Key)=Sum.inr b:=λq=>e (Sum.inr.inj q);rw[dF h,dF e]
theorem Fk(a:Int)(b:Str):decide ((Sum.inl a:Key)=Sum.inr b)=false:=dF (λq=>nomatch q)
theorem Dk(a:Str)(b:Int):decide ((Sum.inr a:Key)=Sum.inl b)=false:=dF (λq=>nomatch q)
def TD(prog:vu)(w:x2):PySem.KeyKind prog w Key where
 is:=rP
 hash:=Hv w
 inj:=λv a b f hb=>by
  rcases RA f with⟨i,t,rfl,rfl⟩| ⟨x,t,rfl,rfl⟩
  rcases RA hb with⟨j,u,rfl,e⟩| ⟨y,u,rfl,e⟩
  ·injection e with e1 _;rw[e1]
  exact nomatch e;rcases RA hb with⟨j,u,rfl,e⟩| ⟨y,u,rfl,e⟩
  ·exact nomatch e
  injection e with e1 _;rw[e1]
 byValue:=λk v h=>by rcases RA h with⟨i,t,rfl,rfl⟩| ⟨x,t,rfl,rfl⟩<;>rfl
 pyHash:=λhv h=>by
  rcases RA hv with⟨i,t,rfl,rfl⟩| ⟨x,t,rfl,rfl⟩
  exact wpAny_pyHash_int h;exact QCB h
 eqBool:=λz hv h=>by
  rcases RA z with⟨i,t,rfl,rfl⟩| ⟨x,t,rfl,rfl⟩
  rcases RA hv with⟨j,u,rfl,rfl⟩| ⟨y,u,rfl,rfl⟩
  ·rw[Gk]at h;exact QAk h
  rw[Fk]at h;exact QBb i t y u _ _ _ _ h;rcases RA hv with⟨j,u,rfl,rfl⟩| ⟨y,u,rfl,rfl⟩
  ·rw[Dk]at h;exact QBc x t j u _ _ _ _ h
  rw[Ck]at h;exact wpAny_eqBool_str h
 «strs»:=λk x t v h=>by
  rcases RA h with⟨i,u,rfl,e⟩| ⟨y,u,rfl,e⟩
  exact nomatch e;injection e with e1 _;subst e1;cases v<;>rfl
theorem CT(prog:vu)(w:x2)(i:Int)(t:Tok):(TD prog w).is (.inl i) (.int i t)=true:=Y2 i t
theorem UT(prog:vu)(w:x2)(x:Str)(t:Tok):(TD prog w).is (.inr x) (.str x t)=true:=y2 x t
set_option genInjectivity true in
inductive V where
 |non|bl (b:Bool)|int (i:Int)|str (x:Str)|byt (b:Array UInt8)|flt (b:UInt64)|ref (a:ko)|ty (n:String)
 deriving DecidableEq
abbrev LV:=List V
def ZA:V->kn->Prop
 | .non,u=>u=j1|.bl b,u=>u=Value.bool b|.int i,u=>∃t,u=Value.int i t|.str x,u=>∃t,u=Value.str x t|.byt b,u=>∃t,u=Value.bytes b t|.flt b,u=>∃t,u=Value.float b t|.ref a,u=>u=j2 a|.ty n,u=>u=Value.type n
noncomputable abbrev oA:LV->LW->Prop:=yn ZA
theorem oA.length{xs:LV}{us:LW}(r:oA xs us):xs.9=us.length:=qC r
theorem oA.get:∀{xs:LV}{us:LW}{i:Nat}{x:V},oA xs us->xs[i]?=kx x->∃u,us[i]?=kx u/\ZA x u
 |_,_,_,_,.nil,e=>by simp at e|_,_,0,_,.cons r _,e=>by simp at e;subst e;exact#[_,rfl,r]|_,_,i+1,x,.cons _ t,e=>by let#[u,y,h]:=oA.get (i:=i) (x:=x) t (by simpa using e);exact#[u,by simpa using y,h]
theorem oA.set{x:V}{u:kn}(r:ZA x u):∀{xs:LV}{us:LW}(i:Nat),oA xs us->oA (xs.set i x) (us.set i u)
 |_,_,_,.nil=>.nil|_,_,0,.cons _ t=>.cons r t|_,_,i+1,.cons q t=>.cons q (oA.set r i t)
theorem oA.append:∀{xs ys:LV}{us ws:LW},oA xs us->oA ys ws->oA (xs++ys) (us++ws)
 |_,_,_,_,.nil,s=>s|_,_,_,_,.cons r t,s=>.cons r (oA.append t s)
theorem oA.take:∀{xs:LV}{us:LW}(n:Nat),oA xs us->oA (xs.take n) (us.take n)
 |_,_,0,_=>.nil|_,_,_+1,.nil=>.nil|_,_,n+1,.cons r t=>.cons r (oA.take n t)
theorem oA.drop:∀{xs:LV}{us:LW}(n:Nat),oA xs us->oA (xs.drop n) (us.drop n)
 |_,_,0,r=>r|_,_,_+1,.nil=>.nil|_,_,n+1,.cons _ t=>oA.drop n t
def MX:Option V->Option kn->Prop
 |some v,kx u=>ZA v u|none,kv=>True|_,_=>False
def KV{h:Type}:List (h×V)->List (h×kn)->Prop:=yn λ(p:h×V) (q:h×kn)=>p.1=q.1/\ZA p.2 q.2
def kV:Key->V
 | .inl i=>.int i|.inr x=>.str x
inductive HO where
 |lst (xs:LV)
 |tup (xs:LV)
 |dK (kvs:List (Key×V))|dT (ep:Nat) (kvs:List (NK×ko×V))
 |set (S:Int->Bool) (n:Nat)
 |ins (C dx:ko) (fs:List (Str×V))
 |own (x:ko)
 |xd (fs:List (Str×V))
 |met (f x:ko)
 |rng (lo hi:Int)
 |frz (o:Obj) (u:HO)
 |tbl (q:Str)
 |ext (φ:x0->Prop)
noncomputable abbrev Hp:=ko->Option HO
noncomputable def CA(H:Hp)(a:ko)(o:HO):Hp:=λb=>if b=a then kx o else H b
theorem iA:CA H a o a=kx o:=by unfold CA;rw[tt rfl]
theorem uA(h:b≠a):CA H a o b=H b:=by unfold CA;rw[th h]
theorem ma{u:HO}:CA (CA H a o) a u=CA H a u:=by funext b;unfold CA;split<;>rfl
theorem sA(h:H a=kx o)(h':H b=kv):a≠b:=by intro e;subst e;rw[h]at h';cases h'
end
section
variable(P:vu)(w:x2)
def gB(H:Hp)(h:x0)(a:ko):HO->Prop
 | .lst k=>k.9<=kb/\∃(z:LW) (n:Nat),oA k z/\h.get? a=kx { cls:=.type "list",data:=.seq z.toArray n }|.tup k=>k.9<=kb/\∃z:LW,oA k z/\Tz h a z.toArray|.dK y=>y.9<=kb/\(a==gV)=kd/\∃m,KV y m/\h.DictOf (TD P w) a m|.dT K y=>y.9<=kb/\(a==gV)=kd/\∃k:List (NK×ko×kn),
   yn (λ(p:NK×ko×V) (q:NK×ko×kn)=>p.1=q.1/\p.2.1=q.2.1/\ZA p.2.2 q.2.2) y k /\
   ∃o X,h.get? a=kx o/\o.ExactDict/\o.data=.dict X K/\X.toList=k.map (Fz (vF P w))/\(k.map (·.1)).Nodup
 | .set S n=>h.SetOf (intKind P w) a S n|.ins C e fs=>H e=kx (.own a)/\fs.9<=1000/\e≠a/\h.get? a=kx (PySem.W.instObj C e) /\
   ∃b,h.Ns1 e b/\(∀f,MX (fs.lookup f) (b f))/\PySem.Within b (fs.map (·.1))
 | .own _=>∃o,h.get? a=kx o|.xd fs=>∃b,h.Ns1 a b/\∀f,MX (fs.lookup f) (b f)|.rng Y Z=>∃t u v,h.get? a=kx { cls:=.type "range",data:=.fields (qB [.int Y t,.int Z u,.int 1 v]) }|.frz o u=>h.get? a=kx o/\gB H h a u|.tbl q=>∃i,h.get? a=kx { cls:=.none,data:=.fields i }/\lp i.toList/\∀j l,fb j i.toList=kx l->∃c,l=.ref c/\H c=kx (.own a)/\h.CodeRec l q|.met f x=>h.get? a=kx (QAO (.ref f) (.ref x))|.ext g=>g h/\(∃o,h.get? a=kx o)/\∀s r:x0,g s->(∀o,s.get? a=kx o->r.get? a=kx o)->g r
def kO(H:Hp)(h:x0):Prop:=∀a o,H a=kx o->gB P w H h a o
end
section
variable{P:vu}{w:x2}{H i:Hp}{h h':x0}{a:ko}{o:HO}
theorem gB.lt(x:gB P w H h a o):a<h.1.size:=by
 cases o with|lst v=>let#[_,_,_,_,e]:=x;exact Qa e|tup v=>let#[_,_,_,p]:=x;exact p.lt|dK z=>let#[_,_,_,_,o,_,_,e,_]:=x;exact Qa e|dT j z=>let#[_,_,_,_,o,_,e,_]:=x;exact Qa e|set S n=>let#[o,_,_,_,e,_]:=x;exact Qa e|ins C l fs=>let#[_,_,_,e,_]:=x;exact Qa e|own y=>let#[_,e]:=x;exact Qa e|xd fs=>let#[_,#[_,_,_,e,_],_]:=x;exact Qa e|rng b g=>let#[_,_,_,e]:=x;exact Qa e|frz ob u=>let#[e,_]:=x;exact Qa e|tbl q=>let#[_,e,_]:=x;exact Qa e|met f y=>exact Qa (show h.get? a=kx _ from x)|ext k=>let#[_,#[_,e],_]:=x;exact Qa e
theorem Paired.mapP{α z:Type}{F G:α->z->Prop}:∀{y:List α}{x:List z},yn F y x->(∀a b,F a b->G a b)->yn G y x
 |_,_,.nil,_=>.nil|_,_,.cons r t,f=>.cons (f _ _ r) (Paired.mapP t f)
theorem gB.stay(x:gB P w H h a o)(k:∀b u,(b=a∨H b=kx (.own a))->h.get? b=kx u->h'.get? b=kx u)
  (K:∀b,H b=kx (.own a)->i b=kx (.own a)) (O:∀b xs,H b=kx (.tup xs)->i b=kx (.tup xs)):gB P w i h' a o:=by
 induction o with|lst xs=>let#[z,m,n,r,e]:=x;exact#[z,m,n,r,k _ _ (.inl rfl) e]|tup xs=>let#[z,m,r,ob,e,c]:=x;exact#[z,m,r,ob,k _ _ (.inl rfl) e,c]|dK W=>let#[z,y,s,r,ob,j,l,e,c]:=x;exact#[z,y,s,r,ob,j,l,k _ _ (.inl rfl) e,c]|dT l W=>let#[z,y,xs,r,ob,j,e,c]:=x;exact#[z,y,xs,r,ob,j,k _ _ (.inl rfl) e,c]|set S n=>let#[ob,j,l,t,e,c]:=x;exact#[ob,j,l,t,k _ _ (.inl rfl) e,c]|ins C R fs=>let#[d,z,F,e,Z,#[Y,j,l,J,c],r]:=x;exact#[K _ d,z,F,k _ _ (.inl rfl) e,Z,#[Y,j,l,k _ _ (.inr d) J,c],r]|own y=>let#[ob,e]:=x;exact#[ob,k _ _ (.inl rfl) e]|xd fs=>let#[Z,#[Y,j,l,e,c],r]:=x;exact#[Z,#[Y,j,l,k _ _ (.inl rfl) e,c],r]|rng N Q=>let#[t,u,v,e]:=x;exact#[t,u,v,k _ _ (.inl rfl) e]|frz ob u G=>let#[e,q]:=x;exact#[k _ _ (.inl rfl) e,G q]|tbl q=>let#[E,e,t,f]:=x;refine#[E,k _ _ (.inl rfl) e,t,λX L g=>?_];let#[c,rfl,o,c1,ob,s,B,A,I,r]:=f X L g;cases A;exact#[c,rfl,K _ o,c,ob,s,B,rfl,k _ _ (.inr o) I,r]|met f y=>have e:h.get? a=kx (QAO (.ref f) (.ref y)):=x;show h'.get? a=kx (QAO (.ref f) (.ref y));exact k a _ (.inl rfl) e|ext M=>let#[p,#[o,e],st]:=x;exact#[st _ _ p λo q=>k _ _ (.inl rfl) q,#[o,k _ _ (.inl rfl) e],st]
theorem kO.lt(x:kO P w H h)(e:H a=kx o):a<h.1.size:=(x a o e).lt
theorem kO.fresh(x:kO P w H h)(e:h.1.size<=a):H a=none:=by
 cases q:H a with|none=>rfl|some u=>exact ti (Qn (x.lt q) e) (qj _)
theorem kO.kept(x:kO P w H h)(k:∀b u,h.get? b=kx u->h'.get? b=kx u):kO P w H h':=λa o e =>
 (x a o e).stay (λb u _ q=>k b u q) (λ_ q=>q) λ_ _ q=>q
theorem kO.laid(x:kO P w H h)(k:∀b u,h.get? b=kx u->h'.get? b=kx u)(z:h.1.size<=a)(new:gB P w (CA H a o) h' a o):kO P w (CA H a o) h':=λb u e=>by have y:=x.fresh z;by_cases hb:b=a;subst hb;rw[iA]at e;cases e;exact new;rw[uA hb]at e;exact(x b u e).stay (λc v _ q=>k c v q) (λc q=>by rw[uA (sA q y)];exact q) λc f q=>by rw[uA (sA q y)];exact q
end
def Rd(H:Hp)(a:ko)(u:HO):Prop:=H a=kx u∨∃o,H a=kx (.frz o u)
theorem Rd.ok{P:vu}{w:x2}{H:Hp}{h:x0}{a:ko}{u:HO}(r:Rd H a u)(x:kO P w H h):gB P w H h a u:=by
 rcases r with r|⟨o,r⟩
 exact x a u r;let#[_,q]:=x a _ r;exact q
def Fn:Option HO->Prop
 |some (.lst _)=>True|some (.dK _)=>True|some (.dT _ _)=>True|some (.set _ _)=>True|some (.ins _ _ _)=>True|some (.ext _)=>True|_=>False
section
variable{P:vu}{w:x2}{H:Hp}{h h':x0}{x e:ko}{a:HO}
theorem kO.write(ok:kO P w H h)(l:Fn (H x))(o:e=x∨H e=kx (.own x))(k:∀b u,b≠e->h.get? b=kx u->h'.get? b=kx u)(m:∃u,h'.get? e=kx u)
  (new:gB P w (CA H x a) h' x a):kO P w (CA H x a) h':=λb u q=>by
 have g:∀c y,H c=kx (.own y)->c≠x:=λc y r z=>by subst z;rw[r]at l;exact l
 have i:∀c j,H c=kx (.tup j)->c≠x:=λc j r z=>by subst z;rw[r]at l;exact l
 by_cases hb:b=x;subst hb;rw[iA]at q;cases q;exact new;rw[uA hb]at q;by_cases f:b=e;have n:H b=kx (.own x):=by rcases o with z|z;exact ti (f.trans z) hb;rw[f];exact z
 rw[q]at n;cases n;let#[v,hv]:=m;exact#[v,by rw[f];exact hv];refine(ok b u q).stay (λc v hc r=>k c v ?_ r) (λc r=>by rw[uA (g c b r)];exact r) λc j r=>by rw[uA (i c j r)];exact r
 rcases hc with rfl|hc;exact f;rintro rfl;rcases o with z|z;exact g c b hc z;rw[hc]at z;cases z;exact hb rfl
end
structure Un(fs ex:List ko)(H H':Hp)(h h':x0):Prop where
 keep:∀b o,h.get? b=kx o->H b=kv->b∉fs->b∉ex->h'.get? b=kx o
 slot:∀b o,h.get? b=kx o->H b=kv->b∈fs->b∉ex->∃sl,h'.get? b=kx { o with slots:=sl }
 free:∀b o,h.get? b=kx o->H b=kv->b∉ex->H' b=kv
 there:∀b o,h.get? b=kx o->b∉ex->∃o',h'.get? b=kx o'
 tups:∀b xs,H b=kx (.tup xs)->H' b=kx (.tup xs)
 frzs:∀b o u,H b=kx (.frz o u)->H' b=kx (.frz o u)
 tbls:∀b q,H b=kx (.tbl q)->H' b=kx (.tbl q)
section
variable{y w ex c:List ko}{H d g:Hp}{h v f h':x0}{a x e:ko}{o:HO}
theorem Un.any(u:Un y ex H d h v){b:ko}{ob:Obj}(q:h.get? b=kx ob)(n:H b=kv)(z:b∉ex):∃k,v.get? b=kx { ob with slots:=k }:=by by_cases hb:b∈y;exact u.slot b ob q n hb z;exact#[ob.slots,u.keep b ob q n hb z]
theorem Un.kept(k:∀b u,h.get? b=kx u->h'.get? b=kx u):Un y ex H H h h' :=
 #[λb ob q _ _ _=>k b ob q,λb ob q _ _ _=>#[ob.slots,k b ob q],λ_ _ _ n _=>n,λb ob q _=>#[ob,k b ob q],λ_ _ q=>q,λ_ _ _ q=>q,λ_ _ q=>q]
theorem Un.refl:Un y ex H H h h:=Un.kept λ_ _ q=>q
theorem Un.laid(k:∀b u,h.get? b=kx u->h'.get? b=kx u)(j:h.1.size<=a)(z:H a=kv):Un y ex H (CA H a o) h h' where
 keep:=λb u q _ _ _=>k b u q
 slot:=λb u q _ _ _=>#[u.slots,k b u q]
 free:=λb u q n _=>by rw[uA (Qk (Qn (Qa q) j))];exact n
 there:=λb u q _=>#[u,k b u q]
 tups:=λb i q=>by rw[uA (sA q z)];exact q
 frzs:=λb u i q=>by rw[uA (sA q z)];exact q
 tbls:=λb l q=>by rw[uA (sA q z)];exact q
theorem Un.write(j:Fn (H x))(X:e=x∨H e=kx (.own x))(k:∀b u,b≠e->h.get? b=kx u->h'.get? b=kx u)(m:∃u,h'.get? e=kx u):Un y ex H (CA H x o) h h':=by
 have p:∀b,H b=kv->b≠x:=λb n z=>by subst z;rw[n]at j;exact j
 have hb:∀b,H b=kv->b≠e:=λb n z=>by subst z;rcases X with r|r;exact p b n r;rw[n]at r;cases r
 have l:∀b u,H b=kx u->¬ Fn (kx u)->b≠x:=λb u q nm z=>by subst z;rw[q]at j;exact nm j
 refine#[λb u q n _ _=>k b u (hb b n) q,λb u q n _ _=>#[u.slots,k b u (hb b n) q],λb u q n _=>by rw[uA (p b n)];exact n,λb u q _=>?_,
  λb s q=>by rw[uA (l b _ q λz=>z)];exact q,λb u s q=>by rw[uA (l b _ q λz=>z)];exact q,λb Y q=>by rw[uA (l b _ q λz=>z)];exact q]
 by_cases i:b=e;subst i;exact m;exact#[u,k b u i q]
end
section
variable{h:x0}{b:ko}{o:Obj}
noncomputable def ut(h:x0)(H:Hp):List Addr:=(Qo h.1.size).filter λa=>(H a).isSome
def ZR(h:x0)(H:Hp):Heap:=PySem.W.hideAll h (ut h H)
theorem B2(h:x0)(H:Hp):(ZR h H).1.size=h.1.size:=PySem.W.hideAll_size _ _
theorem r8{H:Hp}(e:h.get? b=kx o)(n:H b=kv):(ZR h H).get? b=kx o :=
 PySem.W.hideAll_get _ e λx=>by have q:(H b).isSome=true:=(QS.mp x).2;rw[n]at q;simp at q
theorem rc{H:Hp}(e:(ZR h H).get? b=kx o):h.get? b=kx o/\H b=none:=by
 have y:h.get? b=kx o:=PySem.W.of_hideAll (ut h H) e;refine#[y,?_];cases q:H b with|none=>rfl|some x=>have u:b∈ut h H:=QS.mpr #[wC.mpr (Qa y),by simp[q]];have z:(ZR h H).get? b=none:=PySem.W.hideAll_none (ut h H) u;rw[z]at e;cases e
structure Mod(K:QA)(mg:Str->Option kn)(base:x0):Prop where
 kin:K.In base
 glob:base.Ns vx mg
 blt:∃mb,base.Ns d3 mb/\∀x:Str,x≠"__name__"->mb x=H0 x
 nolimit:base.NoLimit
structure Cx where
 prog:vu
 w:x2
 K:QA
 mg:Str->Option kn
 base:x0
 A:y1
 N:LS
 s₀:kt
 H₀:Hp
 env:Env
 outer:List Env
 stack:List Env
 ex:List ko
 fn:Str->Bool
 calm:Bool
 pn:yC
 xe:kn->kt->Prop
def dZ(l:List Env):List Addr:=l.filterMap (·.frame)
noncomputable abbrev Cx.fs(X:Cx):List Addr:=dZ X.outer
def Pr(sc:hZ)(x:Str):Prop:=sc.names.lookup x=kx .local∨sc.names.lookup x=kx .cell∨sc.names.lookup x=kx .free
def Gn(sc:hZ)(x:Str):Prop:=sc.names.lookup x=kx .local∨sc.names.lookup x=kx .cell
def yx(env:Env)(h:x0)(m:Str->Option kn)(x:Str)(u:kn):Prop :=
 (env.kindOf x=kx .local/\m x=kx u)∨((env.kindOf x=kx .cell∨env.kindOf x=kx .free)/\∃c,env.cells.lookup x=kx c/\h.IsCell c (kx u))
def DP(mg:Str->Option kn)(x:x0)(P:ko)(q:Str):Prop :=
 ∃f o y c,mg "going_order"=kx (.ref f)/\x.get? f=kx o/\o.data=.func y/\y.code=.ref c/\PySem.W.CodeHd x c P/\q=y.qualname++".<locals>.<lambda>"
structure Cx.Ok(X:Cx):Prop where
 mod:Mod X.K X.mg X.base
 kind:X.env.scope.kind=.function
 glob:X.env.globals=vx
 blt:X.env.builtins=d3
 above:X.s₀.1.1.size<=X.env.locals
 inj:∀x y c,X.env.cells.lookup x=kx c->X.env.cells.lookup y=kx c->x=y
 has:∀x,(X.env.kindOf x=kx .cell∨X.env.kindOf x=kx .free)->∃c,X.env.cells.lookup x=kx c
 cab:∀x c,X.fn x=kf->X.env.cells.lookup x=kx c->X.s₀.1.1.size<=c
 hd:X.calm=kf->X.A.handled=kv
 frames:X.A.frames=kx X.stack
 stk:X.stack=X.outer∨(X.stack=X.env::X.outer/\X.env.frame=kx X.env.locals)
 exf:∀b∈X.ex,b≠X.env.locals/\∀x c,X.env.cells.lookup x=kx c->c≠b
 bs:∀b o,X.base.get? b=kx o->X.s₀.1.get? b=kx o/\X.H₀ b=kv
 bsz:X.base.1.size<=X.s₀.1.1.size
 noex:∀b o,X.base.get? b=kx o->b∉X.ex
 exfs:∀b∈X.ex,b∉X.fs
 funs:X.s₀.1.FunFrames X.base X.outer
 frf:∀b∈X.fs,X.H₀ b=kv
 tb:∀P q,DP X.mg X.base P q->X.H₀ P=kx (.tbl q)
structure Inv(X:Cx)(pins:yC)(σ:List (Option V))(H:Hp)(s:kt):Prop where
 ok:X.Ok
 os:s.os=X.s₀.os
 bare:RB s.gens
 base:Un X.fs X.ex X.H₀ H X.s₀.1 s.1
 loc:∃m,s.1.Ns X.env.locals m/\∀(i:Nat) (x:Str) (v:V),X.N[i]?=kx x->σ[i]?=kx (kx v)->Pr X.env.scope x->∃u,ZA v u/\yx X.env s.1 m x u
 cell:∀x c,X.env.cells.lookup x=kx c->∃v,s.1.IsCell c v
 free:H X.env.locals=kv
 freeC:∀x c,X.env.cells.lookup x=kx c->H c=kv
 pin:∀p∈X.pn++pins,s.1.get? p.1=kx p.2/\H p.1=kv/\p.1≠X.env.locals/\p.1∉X.fs/\∀v,p.2.data≠.cell v
 hok:kO X.prog X.w H s.1
 len:σ.9=X.N.9
end
section
variable{X:Cx}{f:yC}{σ:List (Option V)}{H g:Hp}{s:kt}{h':x0}
section
variable{a:ko}{g':Array GenState}{ch:List ko}{i:Nat}{x:Str}{M:Model}{A:y1}{E:ZC}{u:kn}{Q:Unit->kt->Prop}
theorem Cx.Ok.nofr(ok:X.Ok){b:ko}{o:Obj}(e:X.base.get? b=kx o):b∉X.fs:=λhb=>by have:=(ok.funs.mem hb).1;rw[e]at this;cases this
theorem Inv.bs(I:Inv X f σ H s):∀b o,X.base.get? b=kx o->s.1.get? b=kx o/\H b=none:=λb o e =>
 #[I.base.keep b o (I.ok.bs b o e).1 (I.ok.bs b o e).2 (I.ok.nofr e) (I.ok.noex b o e),I.base.free b o (I.ok.bs b o e).1 (I.ok.bs b o e).2 (I.ok.noex b o e)]
theorem Inv.bk(I:Inv X f σ H s):∀b o,X.base.get? b=kx o->s.1.get? b=kx o:=λb o e=>(I.bs b o e).1
theorem Inv.tb(I:Inv X f σ H s):∀P q,DP X.mg X.base P q->H P=kx (.tbl q):=λP q h=>I.base.tbls P q (I.ok.tb P q h)
theorem Inv.mod(I:Inv X f σ H s):Mod X.K X.mg X.base:=I.ok.mod
theorem Inv.kIn(I:Inv X f σ H s):X.K.In s.heap:=I.ok.mod.kin.keeps I.bk
theorem Inv.nolimit(I:Inv X f σ H s):s.1.NoLimit:=I.ok.mod.nolimit.keeps I.bk
theorem Inv.lt(I:Inv X f σ H s):X.env.locals<s.1.1.size:=let#[_,h,_]:=I.loc;h.lt
theorem Inv.sz(I:Inv X f σ H s):X.s₀.1.1.size<=s.1.1.size:=QZ I.ok.above (QAy I.lt)
theorem Inv.nofs(I:Inv X f σ H s)(h:s.1.1.size<=a):a∉X.fs:=λhb=>by let#[_,o,y,_]:=I.ok.funs.mem hb;exact ti (Qn (Qa y) (QZ I.sz h)) (qj _)
theorem Inv.cne(I:Inv X f σ H s):∀x c,X.env.cells.lookup x=kx c->c≠X.env.locals:=λx c e z=>by let#[v,o,w,k]:=I.cell x c e;let#[m,#[b,j,l,h,y,_],_]:=I.loc;rw[z,h]at w;cases w;rw[y]at k;cases k
theorem Inv.funs(I:Inv X f σ H s):s.1.FunFrames X.base X.outer:=by
 have all:∀(l:List Env),(∀b∈dZ l,b∈X.fs)->X.s₀.1.FunFrames X.base l->s.1.FunFrames X.base l:=by
  intro l;induction l with|nil=>intro _ _;trivial|cons p r w=>intro v hl;let#[hk,#[L,o,h,m,j,n],k]:=hl;have y:L∈X.fs:=v L (by unfold dZ;rw[WF,h];exact QF);let#[q,e]:=I.base.slot L o j (I.ok.frf L y) y λz=>I.ok.exfs L z y;exact#[hk,#[L,_,h,m,e,n],w (λb hb=>v b (by unfold dZ;rw[WF,h];exact QG _ hb)) k]
 exact all X.outer (λ_ hb=>hb) I.ok.funs
theorem Inv.stack(I:Inv X f σ H s):s.1.FunFrames X.base X.stack:=by
 rcases I.ok.stk with e|⟨e,y⟩
 rw[e];exact I.funs;rw[e];let#[m,h,_]:=I.loc;refine .cons (by rw[I.ok.kind];decide) y h ?_ I.funs;exact Heap.get?_none_of_le (QZ I.ok.bsz I.ok.above)
theorem Inv.stkSub(I:Inv X f σ H s):∀b∈dZ X.stack,b∈X.env.locals::X.fs:=λb hb=>by
 rcases I.ok.stk with e|⟨e,h⟩
 rw[e]at hb;exact QG _ hb;rw[e]at hb;unfold dZ at hb;rw[WF,h]at hb;exact hb
theorem Inv.stkFree(I:Inv X f σ H s):∀b∈dZ X.stack,H b=none:=λb hb=>by rcases QL.mp (I.stkSub b hb) with e|hb;rw[e];exact I.free;let#[_,o,h,_]:=I.ok.funs.mem hb;exact I.base.free b o h (I.ok.frf b hb) λz=>I.ok.exfs b z hb
theorem Inv.step{t':Nat}{d':Drawn}(I:Inv X f σ H s)
  (j:∀b∈ch,(b∈X.ex∨X.s₀.1.1.size<=b)/\b≠X.env.locals/\(∀x c,X.env.cells.lookup x=kx c->c≠b)/\∀p∈X.pn++f,p.1≠b)
  (keep:∀b o,b≠X.env.locals->b∉X.fs->b∉ch->s.1.get? b=kx o->H b=kv->h'.get? b=kx o)
  (W:∀b o,b≠X.env.locals->b∈X.fs->b∉ch->s.1.get? b=kx o->H b=kv->∃R,h'.get? b=kx { o with slots:=R }) (free:∀b o,b∉ch->s.1.get? b=kx o->H b=kv->g b=kv)
  (K:∀b o,b∉ch->s.1.get? b=kx o->∃J,h'.get? b=kx J)
  (F:∀b xs,H b=kx (.tup xs)->g b=kx (.tup xs)) (N:∀b o u,H b=kx (.frz o u)->g b=kx (.frz o u)) (G:∀b O,H b=kx (.tbl O)->g b=kx (.tbl O))
  (ns:∀m,s.1.Ns X.env.locals m->h'.Ns X.env.locals m) (S:kO X.prog X.w g h') (hg:RB g') :
  Inv X f σ g { s with heap:=h',gens:=g',drawn:=d',toks:=t' }:=by
 have L:∀b o,X.s₀.1.get? b=kx o->b≠X.env.locals:=λb o e=>Qk (Qn (Qa e) I.ok.above);have Z:∀b o,X.s₀.1.get? b=kx o->b∉X.ex->b∉ch:=λb o e h hb=>by rcases(j b hb).1 with z|z;exact h z;exact ti (Qn (Qa e) z) (qj _)
 have Y:∀x c,X.env.cells.lookup x=kx c->∀v,s.1.IsCell c v->h'.IsCell c v:=λx c e v #[o,C,hd]=>by have y:c∉ch:=λz=>(j c z).2.2.1 x c e rfl;by_cases hc:c∈X.fs;let#[R,q]:=W c o (I.cne x c e) hc y C (I.freeC x c e);exact#[_,q,hd];exact#[o,keep c o (I.cne x c e) hc y C (I.freeC x c e),hd]
 refine#[I.ok,I.os,hg,#[λb o e n hb h=>?_,λb o e n hb h=>?_,λb o e n h=>?_,λb o e h=>?_,λb xs e=>F b xs (I.base.tups b xs e),λb o xs e=>N b o xs (I.base.frzs b o xs e),λb O e=>?_],?_,λx c e=>?_,?_,λx c e=>?_,λp hp=>?_,S,I.len];exact keep b o (L b o e) hb (Z b o e h) (I.base.keep b o e n hb h) (I.base.free b o e n h);let#[R,B]:=I.base.slot b o e n hb h;let#[P,e2]:=W b _ (L b o e) hb (Z b o e h) B (I.base.free b o e n h);exact#[P,e2];let#[J,B]:=I.base.there b o e h;exact free b J (Z b o e h) B (I.base.free b o e n h);let#[J,B]:=I.base.there b o e h;exact K b J (Z b o e h) B;exact G b _ (I.base.tbls b O e);let#[m,hn,hl]:=I.loc;refine#[m,ns m hn,λi x v B e2 e3=>?_];let#[u,r,l]:=hl i x v B e2 e3;refine#[u,r,?_];rcases l with l|⟨k,c,e,z⟩
 exact .inl l;exact .inr #[k,c,e,Y x c e _ z];let#[v,z]:=I.cell x c e;exact#[v,Y x c e v z];let#[m,#[o,_,_,C,_],_]:=I.loc;exact free _ o (λz=>(j _ z).2.1 rfl) C I.free;let#[v,o,C,hd]:=I.cell x c e;exact free c o (λz=>(j c z).2.2.1 x c e rfl) C (I.freeC x c e);let#[e,n,ne,nf,d]:=I.pin p hp;have y:p.1∉ch:=λz=>(j p.1 z).2.2.2 p hp rfl;exact#[keep p.1 p.2 ne nf y e n,free p.1 p.2 y e n,ne,nf,d]
theorem Inv.un{t':Nat}(I:Inv X f σ H s)(u:Un X.fs [] H g s.1 h')(y:kO X.prog X.w g h'):Inv X f σ g { s with heap:=h',toks:=t' }:=by let#[m,#[o,K,B,j,r],_]:=id I.loc;let#[Y,q]:=u.any j I.free (by simp);exact I.step (g':=s.gens) (d':=s.drawn) (ch:=[]) (λ_ z=>nomatch z) (λb o _ hb _ e n=>u.keep b o e n hb (by simp)) (λb o _ hb _ e n=>u.slot b o e n hb (by simp)) (λb o _ e n=>u.free b o e n (by simp)) (λb o _ e=>u.there b o e (by simp)) u.tups u.frzs u.tbls (λW p=>by let#[Z,v,k,h,l]:=p;rw[j]at h;cases h;exact#[_,v,k,q,l]) y I.bare
theorem Inv.call{t':Nat}{d':Drawn}(I:Inv X f σ H s)(u:Un (dZ X.stack) ch H g s.1 h')(v:kO X.prog X.w g h')(W:RB g')
  (y:∀b∈ch,(b∈X.ex∨X.s₀.1.1.size<=b)/\b≠X.env.locals/\(∀x c,X.env.cells.lookup x=kx c->c≠b)/\∀p∈X.pn++f,p.1≠b) :
  Inv X f σ g { s with heap:=h',gens:=g',drawn:=d',toks:=t' }:=by
 let#[m,#[o,F,G,q,r],_]:=id I.loc;let#[K,k]:=u.any q I.free λz=>(y _ z).2.1 rfl;exact I.step (ch:=ch) y (λb o k hb hc e n=>u.keep b o e n (λz=>(QL.mp (I.stkSub b z)).elim k hb) hc) (λb o _ _ hc e n=>u.any e n hc) (λb o hc e n=>u.free b o e n hc) (λb o hc e=>u.there b o e hc) u.tups u.frzs u.tbls (λC Z=>by let#[B,j,l,h,Y]:=Z;rw[q]at h;cases h;exact#[_,j,l,k,Y]) v W
theorem Inv.turned{t':Nat}{it:ko}(I:Inv X f σ H s)(k:∀b o,b≠it->s.1.get? b=kx o->h'.get? b=kx o)(j:H it=kv)(y:it≠X.env.locals)
  (W:it∈X.ex∨X.s₀.1.1.size<=it) (Z:∀x c,X.env.cells.lookup x=kx c->c≠it) (Y:∀p∈X.pn++f,p.1≠it):Inv X f σ H { s with heap:=h',toks:=t' }:=by
 have h:∀b u,H b=kx u->b≠it:=λb u e z=>by rw[z,j]at e;cases e
 refine I.step (g':=s.gens) (d':=s.drawn) (ch:=[it]) (λb hb=>?_) (λb o _ _ hc e _=>k b o (λz=>hc (by simp[z])) e) (λb o _ _ hc e _=>#[o.slots,k b o (λz=>hc (by simp[z])) e]) (λ_ _ _ _ n=>n)
  (λb o hc e=>#[o,k b o (λz=>hc (by simp[z])) e]) (λ_ _ e=>e) (λ_ _ _ e=>e) (λ_ _ e=>e) (λm l=>?_) (λb u e=>?_) I.bare
 have e:b=it:=by simpa using hb
 subst e;exact#[W,y,Z,Y];let#[o,K,B,w,r]:=l;exact#[o,K,B,k _ o (Q8 y) w,r];refine(I.hok b u e).stay (λc v hc q=>k c v ?_ q) (λ_ q=>q) λ_ _ q=>q;rcases hc with z|z;rw[z];exact h b u e;exact h c _ z
theorem Inv.tok(I:Inv X f σ H s)(t:Nat):Inv X f σ H { s with toks:=t }:=I.un (h':=s.1) (t':=t) Un.refl I.hok
theorem Inv.kept{t':Nat}(I:Inv X f σ H s)(k:∀b u,s.1.get? b=kx u->h'.get? b=kx u):Inv X f σ H { s with heap:=h',toks:=t' }:=I.un (Un.kept k) (I.hok.kept k)
theorem Inv.laid{o:HO}{t':Nat}(I:Inv X f σ H s)(k:∀b u,s.1.get? b=kx u->h'.get? b=kx u)(h:s.1.1.size<=a)(new:gB X.prog X.w (CA H a o) h' a o) :
  Inv X f σ (CA H a o) { s with heap:=h',toks:=t' }:=I.un (Un.laid k h (I.hok.fresh h)) (I.hok.laid k h new)
theorem Inv.write{x e:ko}{o:HO}{t':Nat}(I:Inv X f σ H s)(y:Fn (H x))(z:e=x∨H e=kx (.own x))(k:∀b u,b≠e->s.1.get? b=kx u->h'.get? b=kx u)(h:∃u,h'.get? e=kx u)
  (new:gB X.prog X.w (CA H x o) h' x o):Inv X f σ (CA H x o) { s with heap:=h',toks:=t' }:=I.un (Un.write y z k h) (I.hok.write y z k h new)
theorem Inv.pins_of{y:yC}(I:Inv X f σ H s)(h:∀p∈y,s.1.get? p.1=kx p.2/\H p.1=kv/\p.1≠X.env.locals/\p.1∉X.fs/\∀v,p.2.data≠.cell v):Inv X y σ H s :=
 #[I.ok,I.os,I.bare,I.base,I.loc,I.cell,I.free,I.freeC,λp w=>(Qe.mp w).elim (λz=>I.pin p (Ql _ z)) (h p),I.hok,I.len]
theorem rT{N:LS}(h:N.Nodup){j:Nat}(a:N[i]?=kx x)(b:N[j]?=kx x):i=j:=by let#[w,z]:=Qf.mp a;let#[v,y]:=Qf.mp b;exact(List.getElem_inj h).mp (z.trans y.symm)
theorem MO{v:V}(I:Inv X f σ H s)(hN:X.N.Nodup)(O:X.N[i]?=kx x)(W:Gn X.env.scope x)(r:ZA v u)
  (h:∀s',Inv X f (σ.set i (kx v)) H s'->(∃a,qU a s.1 s'.1/\(a=X.env.locals∨X.env.cells.lookup x=kx a))->Q Unit.unit s') (hf:X.fn x=kf∨X.env.scope.names.lookup x=kx .local):ku M A (storeName X.env x u) Q E s:=by
 let#[m,hn,hl]:=id I.loc;have P:(X.env.scope.kind==.class||(X.env.scope.kind==.module&&X.env.locals != X.env.globals))=false:=by rw[I.ok.kind];rfl
 have C:i<σ.length:=by rw[I.len];exact(Qf.mp O).1
 have cne:=I.cne;have Y:∀{a:ko}{h':x0},(∃o,s.1.get? a=kx o/\H a=kv)->qU a s.1 h'->kO X.prog X.w H h':=λ{a h'} ha l b ob e=>by let#[_,_,K]:=ha;refine(I.hok b ob e).stay (λc w' hc q=>(l.2 c ?_).trans q) (λ_ q=>q) λ_ _ q=>q;rintro rfl;rcases hc with rfl|hc;rw[K]at e;cases e;rw[K]at hc;cases hc
 rcases W with hk|hk;refine wpAny_storeName_local hk hn (λh' hn' l=>?_) P;let#[oL,_,_,hoL,_]:=id hn;refine h _ #[I.ok,I.os,I.bare,#[λb o e n hb W=>?_,λb o e n hb W=>?_,I.base.free,λb o e W=>?_,I.base.tups,I.base.frzs,I.base.tbls],#[_,hn',λj y v' Z B e3=>?_],λy c e=>?_,I.free,I.freeC,λp hp=>?_,Y #[oL,hoL,I.free] l,by simpa using I.len] #[_,l,.inl rfl];exact(l.2 b (Qk (Qn (Qa e) I.ok.above))).trans (I.base.keep b o e n hb W);let#[sl,Z]:=I.base.slot b o e n hb W;exact#[sl,(l.2 b (Qk (Qn (Qa e) I.ok.above))).trans Z];let#[o',Z]:=I.base.there b o e W;exact#[o',(l.2 b (Qk (Qn (Qa e) I.ok.above))).trans Z];by_cases F:j=i
 ·subst F
  rw[O]at Z;cases Z;rw[qe C]at B;cases B;exact#[u,r,.inl #[hk,by simp]]
 rw[qR (Q8 F)]at B;let#[u',r',q]:=hl j y v' Z B e3;refine#[u',r',?_];rcases q with⟨k,e⟩| ⟨k,c,e,z⟩
 refine .inl #[k,?_];have:y≠x:=λe=>F (rT hN Z (e▸O));simp[this,e];exact .inr #[k,c,e,z.sameBut l (cne y c e)];let#[w',z]:=I.cell y c e;exact#[w',z.sameBut l (cne y c e)];let#[e,n,ne,nf,d]:=I.pin p hp;exact#[(l.2 p.1 ne).trans e,n,ne,nf,d];have G:X.fn x=true:=by rcases hf with z|z;exact z;rw[z]at hk;cases hk
 let#[c,hc]:=I.ok.has x (.inl hk);let#[w',z]:=I.cell x c hc;refine wpAny_storeName_cell I.ok.kind hk hc z (λh' S l=>?_);let#[oc,L,J]:=id z;refine h { s with heap:=h' } #[I.ok,I.os,I.bare,#[λb o e n hb W=>?_,λb o e n hb W=>?_,I.base.free,λb o e W=>?_,I.base.tups,I.base.frzs,I.base.tbls],#[m,hn.sameBut l (Q8 (cne x c hc)),λj y v' Z B e3=>?_],λy c' e=>?_,I.free,I.freeC,λp hp=>?_,Y #[oc,L,I.freeC x c hc] l,by simpa using I.len] #[c,l,.inr hc];exact(l.2 b (Qk (Qn (Qa e) (I.ok.cab x c G hc)))).trans (I.base.keep b o e n hb W);let#[sl,Z]:=I.base.slot b o e n hb W;exact#[sl,(l.2 b (Qk (Qn (Qa e) (I.ok.cab x c G hc)))).trans Z];let#[o',Z]:=I.base.there b o e W;exact#[o',(l.2 b (Qk (Qn (Qa e) (I.ok.cab x c G hc)))).trans Z];by_cases F:j=i
 ·subst F
  rw[O]at Z;cases Z;rw[qe C]at B;cases B;exact#[u,r,.inr #[.inl hk,c,hc,S]]
 rw[qR (Q8 F)]at B;let#[u',r',q]:=hl j y v' Z B e3;refine#[u',r',?_];rcases q with q|⟨k,c',e,z'⟩
 exact .inl q;refine .inr #[k,c',e,z'.sameBut l ?_];rintro rfl;exact F (rT hN Z (I.ok.inj _ _ _ e hc▸O));by_cases R:c'=c
 ·subst R;exact#[_,S]
 let#[w2,z2]:=I.cell y c' e;exact#[w2,z2.sameBut l R];let#[e,n,ne,nf,d]:=I.pin p hp;refine#[(l.2 p.1 ?_).trans e,n,ne,nf,d];intro q;rw[q,L]at e;have q':oc=p.2:=Qp e;exact d w' (by rw[<- q'];exact J)
theorem CS{v:V}(I:Inv X f σ H s)(k:X.N.Nodup)(z:X.N[i]?=kx x)(y:Gn X.env.scope x)(r:ZA v u)
  (h:∀s',Inv X f (σ.set i (kx v)) H s'->Q Unit.unit s') (w:X.fn x=kf∨X.env.scope.names.lookup x=kx .local):ku M A (storeName X.env x u) Q E s :=
 MO I k z y r (λs' b _=>h s' b) w
theorem Inv.call'{s':kt}(I:Inv X f σ H s)(v:s'.os=s.os)(u:Un (dZ X.stack) ch H g s.1 s'.1)(h:kO X.prog X.w g s'.1)(k:RB s'.gens)
  (y:∀b∈ch,(b∈X.ex∨X.s₀.1.1.size<=b)/\b≠X.env.locals/\(∀x c,X.env.cells.lookup x=kx c->c≠b)/\∀p∈X.pn++f,p.1≠b):Inv X f σ g s':=by
 let#[h',g',d',t',z]:=s';have e:z=s.os:=v;subst e;exact I.call (g':=g') (t':=t') (d':=d') u h k y
end
end
noncomputable abbrev XK:=kn->Option ko->Hp->Prop
noncomputable abbrev St:=List (Option V)
noncomputable abbrev VK:=V->Hp->Prop
noncomputable abbrev TE:=St->Hp->VK->Prop
noncomputable abbrev TT:=St->Hp->(Bool->Hp->Prop)->Prop
noncomputable abbrev TA:=St->Hp->(LV->Hp->Prop)->Prop
structure Ends where
 nx:St->Hp->Prop
 rt:VK
 bk:St->Hp->Prop:=λ_ _=>False
 ct:St->Hp->Prop:=λ_ _=>False
noncomputable abbrev TS:=Ends->St->Hp->Prop
def EP(X:Cx)(h:yC)(σ:St)(Q:VK)(u:kn)(s':kt):Prop:=∃v x,Inv X h σ x s'/\ZA v u/\Q v x
def TP(X:Cx)(h:yC)(σ:St)(Q:Bool->Hp->Prop)(b:Bool)(s':kt):Prop:=∃x,Inv X h σ x s'/\Q b x
def AP(X:Cx)(h:yC)(σ:St)(Q:LV->Hp->Prop)(us:LW)(s':kt):Prop:=∃x y,Inv X h σ y s'/\oA x us/\Q x y
def SP(X:Cx)(x:yC)(D:Ends)(f:Flow)(s':kt):Prop :=
 match f with
 | .next=>∃h y,Inv X x h y s'/\D.nx h y|.brk=>∃h y,Inv X x h y s'/\D.bk h y|.cont=>∃h y,Inv X x h y s'/\D.ct h y|.ret u=>∃v h y,Inv X x h y s'/\ZA v u/\D.rt v y
def PE(X:Cx)(e:Expr)(t:TE):Prop :=
 ∀(h:yC) (s:kt) (x:St) (H:Hp) (Q:VK),Inv X h x H s->t x H Q->ku (k4 X.prog X.w) X.A (hE e X.env) (EP X h x Q) X.xe s
def PT(X:Cx)(e:Expr)(t:TT):Prop :=
 ∀(h:yC) (s:kt) (x:St) (H:Hp) (Q:Bool->Hp->Prop),Inv X h x H s->t x H Q->ku (k4 X.prog X.w) X.A (isTrue e X.env (hE e X.env)) (TP X h x Q) X.xe s
def PW(X:Cx)(e:Expr)(t:TT):Prop :=
 ∀(x:Sem kn) (h:yC) (s:kt) (y:St) (H:Hp) (Q:Bool->Hp->Prop),Inv X h y H s->t y H Q->ku (k4 X.prog X.w) X.A (isTrue e X.env x) (TP X h y Q) X.xe s
theorem PW.pt{X:Cx}{e:Expr}{t:TT}(h:PW X e t):PT X e t:=h _
def PA(X:Cx)(es:List Expr)(t:TA):Prop :=
 ∀(y:Pos) (h:yC) (s:kt) (x:St) (H:Hp) (Q:LV->Hp->Prop),Inv X h x H s->t x H Q->ku (k4 X.prog X.w) X.A (li (fy y (yl es X.env))) (AP X h x Q) X.xe s
def PS(X:Cx)(st:gp)(t:TS):Prop :=
 ∀(h:yC) (s:kt) (x:St) (H:Hp) (D:Ends),Inv X h x H s->t D x H->ku (k4 X.prog X.w) X.A (exec st X.env) (SP X h D) X.xe s
def NX(X:Cx)(st:List gp)(t:TS):Prop :=
 ∀(h:yC) (s:kt) (x:St) (H:Hp) (D:Ends),Inv X h x H s->t D x H->ku (k4 X.prog X.w) X.A (execs st X.env) (SP X h D) X.xe s
theorem IB{α:Type}{t:Sem α}{Q y:α->kt->Prop}{M:Model}{A:y1}{E:ZC}{s:kt}(h:ku M A t Q E s)(z:∀a s,Q a s->y a s):ku M A t y E s:=qt h z λ_ _ x=>x
section
variable{X:Cx}
section
variable{z:yC}{s:kt}{σ:St}{H:Hp}{x:Str}{pos:Pos}{E Q:ZC}{u:kn}
theorem bin{a b:Expr}{ta tb:TE}(r:PE X a ta)(hb:PE X b tb){R:V->V->Hp->Prop}(I:Inv X z σ H s)(h:ta σ H λx j=>tb σ j λy k=>R x y k)
  {α:Type}{Q:α->kt->Prop}{f:kn->kn->Sem α}
  (q:∀v u i x y k,Inv X z σ k i->ZA x v->ZA y u->R x y k->ku (k4 X.prog X.w) X.A (f v u) Q X.xe i) :
  ku (k4 X.prog X.w) X.A (hE a X.env) (λv g=>ku (k4 X.prog X.w) X.A (hE b X.env) (λu e=>ku (k4 X.prog X.w) X.A (f v u) Q X.xe e) X.xe g) X.xe s:=by
 refine IB (r z s σ H _ I h) λv l #[x,j,Z,n,p]=>?_;refine IB (hb z l σ j _ Z p) λu i #[y,k,Y,m,o]=>?_;exact q v u i x y k Y n m o
def Yu(i:Nat):TE:=λσ H Q=>∃v,σ[i]?=kx (kx v)/\Q v H
def tC(v:V):TE:=λ_ H Q=>Q v H
theorem v6{i:Nat}(f:X.N[i]?=kx x)(hv:Pr X.env.scope x)(w:(x==("__debug__":Str))=false:=by decide)(k:(x==("__classdict__":Str))=false:=by decide):PE X (.Name x pos) (Yu i):=by
 intro z s σ H Q I h;let#[v,e,h]:=h;let#[m,a,hl]:=I.loc;let#[u,r,l]:=hl i x v f e hv;have fin:EP X z σ Q u s:=#[v,H,I,r,h]
 rcases l with⟨hk,b⟩| ⟨hk,c,hc,y⟩
 exact QA6 (QA7 I.ok.kind hk a b fin) w;rcases hk with hk|hk
 ·exact QA6 (wpAny_loadName_cell I.ok.kind hk hc y fin) w
 exact QA6 (QBL I.ok.kind hk hc y fin k) w
theorem DM{i j pos}:PE X (.Constant (.int i) j pos) (tC (.int i)):=λ_ _ _ H _ I h=>QBd #[.int i,H,I.tok _,#[_,rfl],h]
theorem df{b j pos}:PE X (.Constant (.bool b) j pos) (tC (.bl b)):=λ_ _ _ H _ I h=>Constant_bool #[.bl b,H,I,rfl,h]
theorem c6{j pos}:PE X (.Constant .none j pos) (tC .non):=λ_ _ _ H _ I h=>Constant_none #[.non,H,I,rfl,h]
theorem kj{x j pos}:PE X (.Constant (.str x) j pos) (tC (.str x)):=λ_ _ _ H _ I h=>Calls.Constant_str #[.str x,H,I.tok _,#[_,rfl],h]
def Gl(X:Cx)(x:Str):Prop:=X.env.kindOf x=kx .globalImplicit
theorem mR(I:Inv X z σ H s)(v:Gl X x)(y:X.mg x=kx u)(h:Q u s)
  (k:(x==("__debug__":Str))=false:=by decide):ku (k4 X.prog X.w) X.A (hE (.Name x pos) X.env) Q E s :=
 W8 I.ok.kind v (Calls.loadGlobal_global (by rw[I.ok.glob];exact I.mod.glob.keeps I.bk) y h) k
theorem jK(I:Inv X z σ H s)(k:Gl X x)(v:X.mg x=kv)(hv:H0 x=kx u)(h:Q u s)
  (y:x≠"__name__":=by decide) (a:(x==("__debug__":Str))=false:=by decide):ku (k4 X.prog X.w) X.A (hE (.Name x pos) X.env) Q E s:=by
 let#[f,e,b]:=I.mod.blt;exact W8 I.ok.kind k (Calls.loadGlobal_builtin (by rw[I.ok.glob];exact I.mod.glob.keeps I.bk) v (by rw[I.ok.blt];exact e.keeps I.bk) ((b x y).trans hv) h) a
theorem db{v:V}(w:Gl X x)(y:X.mg x=kx u)(r:ZA v u)(k:(x==("__debug__":Str))=false:=by decide):PE X (.Name x pos) (tC v) :=
 λ_ _ _ H _ I h=>mR I w y #[v,H,I,r,h] k
end
variable{a b:Expr}{ta tb:TE}{pos:Pos}
variable{g n:TT}{k:List Expr}
noncomputable def Gu(t u:TT):TT:=λh H Q=>t h H λc x=>if c=kf then u h x Q else Q kd x
noncomputable def bz(t u:TT):TT:=λh H Q=>t h H λc x=>if c=kf then Q kf x else u h x Q
def Uu(t:TT):TT:=λh H Q=>t h H λc x=>Q (!c) x
theorem Sa(z:PT X a g):PW X (.BoolOp .And [a] pos) g:=by
 intro u x s y H Q I h;refine isTrue_and (IB (z x s y H Q I h) λc v e=>?_);cases c with|true=>exact isTrue_and_nil e|false=>exact e
theorem Oi(z:PT X a g):PW X (.BoolOp .Or [a] pos) g:=by
 intro u x s y H Q I h;refine isTrue_or (IB (z x s y H Q I h) λc v e=>?_);cases c with|false=>exact isTrue_or_nil e|true=>exact e
theorem S5(f:PT X a g)(hb:PW X (.BoolOp .And (b::k) pos) n):PW X (.BoolOp .And (a::b::k) pos) (Gu g n):=by
 intro w x s y H Q I h;refine isTrue_and (IB (f x s y H _ I h) λc e #[v,u,z]=>?_);cases c with|true=>exact hb w x e y v Q u z|false=>exact#[v,u,z]
theorem yf(f:PT X a g)(hb:PW X (.BoolOp .Or (b::k) pos) n):PW X (.BoolOp .Or (a::b::k) pos) (bz g n):=by
 intro w x s y H Q I h;refine isTrue_or (IB (f x s y H _ I h) λc e #[v,u,z]=>?_);cases c with|true=>exact#[v,u,z]|false=>exact hb w x e y v Q u z
theorem Pi(z:PT X a g):PT X (.UnaryOp .Not a pos) (Uu g):=by intro x s y H Q I h;exact isTrue_not (z x s y H (λc u=>Q (!c) u) I h)
noncomputable def Do(ta tb:TE):TE:=λh H Q=>ta h H λx y=>∃c,x=.bl c/\if c=kf then tb h y Q else Q (.bl kd) y
noncomputable def Xu(ta tb:TE):TE:=λh H Q=>ta h H λx y=>∃c,x=.bl c/\if c=kf then Q (.bl kf) y else tb h y Q
theorem u6{op}{t:TE}(h:PE X a t):PE X (.BoolOp op [a] pos) t:=λx s y H Q I z=>BoolOp_one (h x s y H Q I z)
theorem r6(j:PE X a ta)(hb:PE X (.BoolOp .And (b::k) pos) tb):PE X (.BoolOp .And (a::b::k) pos) (Do ta tb):=by
 intro y s u H Q I h;refine BoolOp_and (IB (j y s u H _ I h) λv f #[x,e,w,i,z]=>?_);let#[c,rfl,z]:=z;cases i;refine wO ?_;cases c with|true=>exact hb y f u e Q w z|false=>exact#[.bl kd,e,w,rfl,z]
theorem uf(j:PE X a ta)(hb:PE X (.BoolOp .Or (b::k) pos) tb):PE X (.BoolOp .Or (a::b::k) pos) (Xu ta tb):=by
 intro y s u H Q I h;refine BoolOp_or (IB (j y s u H _ I h) λv f #[x,e,w,i,z]=>?_);let#[c,rfl,z]:=z;cases i;refine wO ?_;cases c with|false=>exact hb y f u e Q w z|true=>exact#[.bl kf,e,w,rfl,z]
noncomputable def cz(t:TT)(ta tb:TE):TE:=λh H Q=>t h H λc x=>if c=kf then ta h x Q else tb h x Q
theorem f6{c:Expr}(hc:PT X c g)(e:PE X a ta)(hb:PE X b tb):PE X (.IfExp c a b pos) (cz g ta tb):=by
 intro x s y H Q I h;refine wpAny_IfExp (IB (hc x s y H _ I h) λd z #[w,v,u]=>?_);cases d with|true=>exact e x z y w Q v u|false=>exact hb x z y w Q v u
end
def RC(K:QA)(H:Hp)(a:ko)(xs:LV):Prop :=
 Rd H a (.lst xs) ∨
  ∃(o:Obj) (h:Array kn) (n:Nat),K.lookup a=kx o/\o.cls=.type "list"/\o.dict=kv/\o.data=.seq h n/\h.size<=kb/\oA xs h.toList
def jE(K:QA)(H:Hp)(a:ko)(xs:LV):Prop :=
 Rd H a (.tup xs) ∨
  ∃(o:Obj) (h:Array kn) (n:Nat),K.lookup a=kx o/\o.cls=.type "tuple"/\o.data=.seq h n/\h.size<=kb/\oA xs h.toList
noncomputable def HN:kn->Option V
 | .none=>kx .non|.bool b=>kx (.bl b)|.int i _=>kx (.int i)|.str x _=>kx (.str x)|.bytes b _=>kx (.byt b)|.float b _=>kx (.flt b)|.ref a=>kx (.ref a)|.type n=>kx (.ty n)|_=>kv
theorem ZA.abs{x:V}{u:kn}(r:ZA x u):HN u=kx x:=by
 cases x with|non=>cases r;rfl|bl _=>cases r;rfl|int _=>let#[t,rfl]:=r;rfl|str _=>let#[t,rfl]:=r;rfl|byt _=>let#[t,rfl]:=r;rfl|flt _=>let#[t,rfl]:=r;rfl|ref _=>cases r;rfl|ty _=>cases r;rfl
theorem ZA.inj{x y:V}{u:kn}(r:ZA x u)(q:ZA y u):x=y:=Qp (r.abs.symm.trans q.abs)
theorem oA.inj:∀{xs ys:LV}{us:LW},oA xs us->oA ys us->xs=ys
 |_,_,_,.nil,.nil=>rfl|_,_,_,.cons r t,.cons r' t'=>by rw[r.inj r',oA.inj t t']
section
variable{X:Cx}{x:yC}{σ:St}{H:Hp}{s:kt}{a:ko}{xs ys:LV}
theorem RC.of{K:QA}(h:H a=kx (.lst xs)):RC K H a xs:=.inl (.inl h)
theorem jE.of{K:QA}(h:H a=kx (.tup xs)):jE K H a xs:=.inl (.inl h)
theorem Inv.list(I:Inv X x σ H s)(h:RC X.K H a xs):∃its:LW,oA xs its/\PlainL s.1 a its.toArray/\xs.9<=sizeLine:=by
 rcases h with h|⟨o,its,n,hk,hc,u,y,v,r⟩
 let#[z,its,n,r,e]:=h.ok I.hok;exact#[its,r,#[_,n,e,rfl,rfl,rfl],z];refine#[its.toList,r,#[o,n,I.kIn a o hk,hc,u,by simpa using y],?_];have e:=r.9;simp only[Q1]at e;omega
theorem Inv.tuple(I:Inv X x σ H s)(h:jE X.K H a xs):∃its:LW,oA xs its/\Tz s.1 a its.toArray/\xs.9<=sizeLine:=by
 rcases h with h|⟨o,its,n,hk,hc,y,u,r⟩
 let#[z,its,r,p]:=h.ok I.hok;exact#[its,r,p,z];refine#[its.toList,r,#[o,I.kIn a o hk,hc,n,by simpa using y],?_];have e:=r.9;simp only[Q1]at e;omega
theorem Inv.list_inj(I:Inv X x σ H s)(h:RC X.K H a xs)(h':RC X.K H a ys):xs=ys:=by
 let#[z,r,#[o,n,e,_,_,d],_]:=I.list h;let#[y,w,#[k,b,u,_,_,v],_]:=I.list h';rw[e]at u;cases u;rw[d]at v;injection v with d1 _;have:z=y:=by simpa using aj Array.toList d1
 subst this;exact r.inj w
theorem Inv.tuple_inj(I:Inv X x σ H s)(h:jE X.K H a xs)(h':jE X.K H a ys):xs=ys:=by
 let#[z,r,#[o,e,_,n,d],_]:=I.tuple h;let#[y,w,#[k,u,_,b,v],_]:=I.tuple h';rw[e]at u;cases u;rw[d]at v;injection v with d1 _;have:z=y:=by simpa using aj Array.toList d1
 subst this;exact r.inj w
end
noncomputable abbrev Cx.wish(X:Cx)(E:ZC):Cx:={ X with xe:=E }
noncomputable abbrev Cx.nox(X:Cx):Cx:=X.wish λ_ _=>False
theorem Cx.Ok.wish{X:Cx}(ok:X.Ok)(E:ZC):(X.wish E).Ok :=
 #[ok.mod,ok.kind,ok.glob,ok.blt,ok.above,ok.inj,ok.has,ok.cab,ok.hd,ok.frames,ok.stk,ok.exf,ok.bs,ok.bsz,ok.noex,ok.exfs,ok.funs,ok.frf,ok.tb]
theorem Cx.Ok.unwish{X:Cx}{E:ZC}(ok:(X.wish E).Ok):X.Ok :=
 #[ok.mod,ok.kind,ok.glob,ok.blt,ok.above,ok.inj,ok.has,ok.cab,ok.hd,ok.frames,ok.stk,ok.exf,ok.bs,ok.bsz,ok.noex,ok.exfs,ok.funs,ok.frf,ok.tb]
section
variable{X:Cx}{x:yC}{σ:St}{H:Hp}{s:kt}{E:ZC}
theorem Inv.wish(I:Inv X x σ H s)(E:ZC):Inv (X.wish E) x σ H s:=#[I.ok.wish E,I.os,I.bare,I.base,I.loc,I.cell,I.free,I.freeC,I.pin,I.hok,I.len]
theorem Inv.unwish(I:Inv (X.wish E) x σ H s):Inv X x σ H s:=#[I.ok.unwish,I.os,I.bare,I.base,I.loc,I.cell,I.free,I.freeC,I.pin,I.hok,I.len]
theorem SP.unwish{D:Ends}{f:Flow}{s':kt}(h:SP (X.wish E) x D f s'):SP X x D f s':=by
 cases f with|next=>let#[y,z,I,q]:=h;exact#[y,z,I.unwish,q]|brk=>let#[y,z,I,q]:=h;exact#[y,z,I.unwish,q]|cont=>let#[y,z,I,q]:=h;exact#[y,z,I.unwish,q]|ret u=>let#[v,y,z,I,r,q]:=h;exact#[v,y,z,I.unwish,r,q]
theorem NX.nox{st:List gp}{t:TS}(h:NX X.nox st t):NX X st t:=λx s σ H D I y =>
 qt (h x s σ H D (I.wish _) y) (λ_ _ q=>q.unwish) λ_ _ z=>Qd z
end
section
variable{X:Cx}{st:gp}{y:List gp}{t u:TS}{e:Expr}{te:TE}{pos:Pos}
def Uo:TS:=λD h H=>D.nx h H
def Ku(t u:TS):TS:=λD h H=>t { D with nx:=u D } h H
theorem Aa:NX X [] Uo:=λ_ _ x H _ I h=>Ww #[x,H,I,h]
theorem T5(b:PS X st t)(a:NX X y u):NX X (st::y) (Ku t u):=by
 intro x s w H D I h;refine QCC (IB (b x s w H { D with nx:=u D } I h) λf k q=>?_);cases f with|next=>let#[z,i,g,q]:=q;exact a x k z i D g q|ret v=>exact q|brk=>exact q|cont=>exact q
theorem tY(w:PS X st t):NX X [st] t:=by
 intro x s z H D I h;refine QCC (IB (w x s z H D I h) λf k q=>?_);cases f with|next=>exact Ww q|ret v=>exact q|brk=>exact q|cont=>exact q
theorem Inv.quiet{h:yC}{σ:St}{H:Hp}{s:kt}(I:Inv X h σ H s):interactive X.env=false:=by simp[interactive,I.ok.kind]
def Bo(te:TE):TS:=λD h H=>te h H λ_ x=>D.nx h x
theorem UQ(a:PE X e te)(hs:dv e kv pos.line X.env=p7 false:=by rfl):PS X (.Expr e pos) (Bo te):=by intro z s w H D I h;exact wpAny_Expr_any (IB (a z s w H _ I h) λv g #[x,f,b,i,k]=>#[w,f,b,k]) I.quiet hs
def Vu(te:TE):TS:=λD h H=>te h H D.rt
theorem E5(b:PE X e te):PS X (.Return (kx e) pos) (Vu te):=by intro z s w H D I h;exact wpAny_Return_some (IB (b z s w H _ I h) λv i #[x,g,f,k,a]=>#[x,w,g,f,k,a])
noncomputable def Cu(c:TT)(t u:TS):TS:=λD h H=>c h H λb x=>if b=kf then t D h x else u D h x
theorem Kp{c:Expr}{a b:List gp}{tc:TT}(hc:PT X c tc)(g:NX X a t)(hb:NX X b u):PS X (.If c a b pos) (Cu tc t u):=by
 intro x s z H D I h;refine wpAny_If (IB (hc x s z H _ I h) λd v #[f,k,w]=>?_);cases d with|true=>exact g x v z f D k w|false=>exact hb x v z f D k w
end
noncomputable abbrev TG:=V->St->Hp->(St->Hp->Prop)->Prop
noncomputable abbrev Sw:=LV->St->Hp->(St->Hp->Prop)->Prop
def PG(X:Cx)(h:Expr)(t:TG):Prop :=
 ∀(x:yC) (s:kt) (z:St) (H:Hp) (v:V) (u:kn) (Q:St->Hp->Prop),Inv X x z H s->ZA v u->t v z H Q ->
  ku (k4 X.prog X.w) X.A (Cz h X.env u) (λ_ a=>∃y k,Inv X x y k a/\Q y k) X.xe s
def xy(X:Cx)(ts:List Expr)(t:Sw):Prop :=
 ∀(h:yC) (s:kt) (y:St) (H:Hp) (z:LV) (u:LW) (Q:St->Hp->Prop),Inv X h y H s->oA z u->t z y H Q ->
  ku (k4 X.prog X.w) X.A (mi ((hQ ts X.env).map (·.2)) u) (λ_ k=>∃x v,Inv X h x v k/\Q x v) X.xe s
noncomputable abbrev Xm:=V->V->V->Hp->(Hp->Prop)->Prop
def fe(X:Cx)(t:Xm):Prop :=
 ∀(h:yC) (s:kt) (x:St) (H:Hp) (o i v:V) (y z u:kn) (Q:Hp->Prop),Inv X h x H s->ZA o y->ZA i z->ZA v u->t o i v H Q ->
  ku (k4 X.prog X.w) X.A (setItem y z u) (λ_ a=>∃k,Inv X h x k a/\Q k) X.xe s
section
variable{X:Cx}{pos:Pos}
section
variable{i:Nat}{x:Str}{e:Expr}{te:TE}
def uZ(i:Nat):TG:=λv h H Q=>Q (h.set i (kx v)) H
theorem YY(a:X.N.Nodup)(w:X.N[i]?=kx x)(z:Gn X.env.scope x)(k:X.fn x=kf∨X.env.scope.names.lookup x=kx .local):PG X (.Name x pos) (uZ i):=by intro y s f H v u Q I r h;exact QBp (CS I a w z r (λg b=>#[_,H,b,h]) k)
noncomputable def xw(K:QA)(n:Nat)(t:Sw):TG:=λv y H Q=>∃a h,v=.ref a/\jE K H a h/\h.9=n/\t h y H Q
theorem jj{es:List Expr}{k:Nat}{t:Sw}{n:Nat}(hc:X.calm=kf)(h:xy X es t)
  (Y:(hQ es X.env).9=n:=by rfl) (w:(hQ es X.env).findIdx? (·.1)=none:=by rfl):PG X (.Tuple es k pos) (xw X.K n t):=by
 intro y s f H v u Q I r z;let#[a,j,W,q,hl,z]:=z;subst W;cases r;let#[l,g,p,B]:=I.tuple q;refine assign_Tuple_tuple (I.ok.hd hc) p (by simp[Y,<- hl,g.9]) w λZ m=>?_;have A:Inv X y f H { s with heap:=Z }:=I.kept (t':=s.toks) λb o e=>m b o (Qk (Qa e)) e;exact h y _ f H j _ Q A (by simpa using g) z
noncomputable def uw(y z:TE)(t:Xm):TG:=λv h H Q=>y h H λo k=>z h k λi w=>t o i v w λu=>Q h u
theorem yj{o i:Expr}{b f:TE}{t:Xm}(Y:PE X o b)(Z:PE X i f)(hs:fe X t)
  (W:∀v,Cz (.Subscript o i pos) X.env v=(do
   let w <- P0 [v] (hE o X.env)
   let k <- P0 [v,w] (hE i X.env)
   standAt pos
   P0 [v,w,k] (setItem w k v)
   release [v,w,k] []):=by intro _;rfl):PG X (.Subscript o i pos) (uw b f t):=by
 intro z s a H v u Q I r h;rw[W];refine QE (wA (IB (Y z s a H _ I h) λw j #[x,F,B,m,q]=>?_));refine QE (wA (IB (Z z j a F _ B q) λk g #[y,E,A,l,p]=>?_));refine QE (QBe (QE (wA (IB (hs z g a E x y v w k u _ A m l r p) λ_ G #[C,K,n]=>?_))));exact wpAny_release #[a,C,K,n]
def ji(te:TE)(g:TG):TS:=λD h H=>te h H λx y=>g x h y D.nx
theorem y6{z:Expr}{g:TG}(j:PE X e te)(f:PG X z g)(hs:swapsWithSole [z] e pos.line X.env=p7 false:=by rfl)(b:swappedStores [z] e X.env=p7 none:=by rfl)
  (l:(hQ [z] X.env).map (·.2)=[Cz z X.env]:=by rfl):PS X (.Assign [z] e pos) (ji te g):=by
 intro y s u H D I h;refine wpAny_Assign_stores (IB (j y s u H _ I h) λv w #[x,n,m,k,a]=>?_) hs b;rw[l];exact IB (f y w u n x v _ m k a) λ_ o q=>q
theorem Ri{pos':Pos}(j:X.N.Nodup)(b:X.N[i]?=kx x)(a:Gn X.env.scope x)(g:PE X e te)(hs:dv e (kx (.Name x pos')) pos.line X.env=p7 false:=by rfl)(f:X.fn x=kf∨X.env.scope.names.lookup x=kx .local) :
  PS X (.Assign [.Name x pos'] e pos) (ji te (uZ i)):=by
 intro z s u H D I h;refine wpAny_Assign_Name (IB (g z s u H _ I h) λv p #[y,n,m,w,k]=>?_) hs;exact CS m j b a w (λo l=>#[_,n,l,k]) f
end
end
section
variable{X:Cx}{pos:Pos}
def O4(c:TT)(tb:TS):TS:=λD h H=>∃W:Nat->St->Hp->Prop,(∃m,W m h H)/\∀m h H,W m h H ->
 c h H λb z=>if b=kf then ∃N:St->Hp->Prop,(∀x u,N x u->∃y,y < m/\W y x u)/\tb { D with nx:=N,ct:=N,bk:=D.nx } h z else D.nx h z
theorem A5{c:Expr}{body:List gp}{tc:TT}{tb:TS}(p:ni (k4 X.prog X.w) X.A X.env X.xe)(hc:PT X c tc)(hb:NX X body tb):PS X (.While c body [] pos) (O4 tc tb):=by
 intro y s B H D I h;let#[W,#[L,E],k]:=h;refine wpAny_While (codeAny_whileLoop (λn J=>∃u K,Inv X y u K J/\W n u K) ?_ L #[B,H,I,E]);rintro n G ⟨z,Z,M,C⟩;refine wP p (IB (hc y G z Z _ M (k n z Z C)) λb F #[Y,r,g]=>?_);cases b with
 |true =>
  let#[N,q,g]:=g;rw[tt rfl];refine wP p (IB (hb y F z Y _ r g) λf O e=>?_);cases f with|next=>let#[x,a,o,j]:=e;let#[l,m,i]:=q x a j;exact#[l,m,x,a,o,i]|cont=>let#[x,a,o,j]:=e;let#[l,m,i]:=q x a j;exact#[l,m,x,a,o,i]|brk=>exact e|ret v=>exact e
 |false=>rw[th QD];exact Ww #[z,Y,r,g]
end
section
variable{s:kt}{y:Expr}{P:vu}{w:x2}{K:QA}
structure It where
 go:Nat->Hp->Prop
 yld:Nat->Hp->V->Hp->Prop
 stop:Nat->Hp->Prop
def VJ(X:Cx)(h:yC)(H:Hp)(b:ko):Prop :=
 H b=kv/\b≠X.env.locals/\b∉X.fs/\(b∈X.ex∨X.s₀.1.1.size<=b)/\(∀x c,X.env.cells.lookup x=kx c->c≠b)/\∀p∈X.pn++h,p.1≠b
theorem Inv.fpOk{X:Cx}{h:yC}{σ:St}{H u:Hp}{b:ko}(I:Inv X h σ H s)(hb:s.1.1.size<=b)(a:u b=kv):VJ X h u b:=by refine#[a,wk (Qn I.lt hb),I.nofs hb,.inr (QZ I.sz hb),λx c e z=>?_,λp k z=>?_];let#[v,q]:=I.cell x c e;exact ti (Qn q.lt (by rw[z];exact hb)) (qj _);exact ti (Qn (Qa (I.pin p k).1) (by rw[z];exact hb)) (qj _)
structure Turn0(P:vu)(w:x2)(K:QA)(y:Expr)(J:It)(fp:List ko)(it:ko)(tn:Nat->x0->Prop):Prop where
 mem:it∈fp
 obj:∀i h,tn i h->∀b∈fp,∃o,h.get? b=kx o/\∀v,o.data≠.cell v
 keep:∀i h h',tn i h->(∀b∈fp,∀o,h.get? b=kx o->h'.get? b=kx o)->tn i h'
 item:∀(X:Cx),X.prog=P->X.w=w->X.K=K->X.calm=kf->∀(i:Nat) (pins:yC) (s:kt) (σ:St) (H:Hp) (E:ZC),Inv X pins σ H s->(∀b∈fp,VJ X pins H b)->tn i s.1->J.go i H ->
  ku (k4 P w) X.A (la (.ref it)) (λr s1=>∃u,r=kx u /\
   ku (k4 P w) X.A (Dz y (.ref it) u) (λ_ s2=>∃x H',Inv X pins σ H' s2/\ZA x u/\J.yld i H x H'/\tn (i+1) s2.1/\∀b∈fp,H' b=kv) E s1) E s
 done:∀(X:Cx),X.prog=P->X.w=w->X.K=K->X.calm=kf->∀(i:Nat) (pins:yC) (s:kt) (σ:St) (H:Hp) (E:ZC),Inv X pins σ H s->(∀b∈fp,VJ X pins H b)->tn i s.1->J.stop i H ->
  ku (k4 P w) X.A (la (.ref it)) (λr s1=>r=kv/\Inv X pins σ H s1) E s
structure Turn(P:vu)(w:x2)(K:QA)(y:Expr)(J:It)(fp:List ko)(it:ko)(tn:Nat->x0->Prop):Prop extends Turn0 P w K y J fp it tn where
 self:∀(A:y1) (i:Nat) (s:kt) (Q:ZC) (E:ZC),tn i s.1->Q (.ref it) s->ku (k4 P w) A (ee (.ref it)) Q E s
noncomputable abbrev TI:=St->Hp->(It->Hp->Prop)->Prop
def jx(X:Cx)(h:yC)(σ:St)(y:Expr)(R:It->Hp->Prop)(x:kn)(u:kt):Prop :=
 ∃(it:ko) (v:List ko) (tn:Nat->x0->Prop) (J:It) (z:Hp),x=.ref it/\Inv X h σ z u/\Turn X.prog X.w X.K y J v it tn/\tn 0 u.1/\(∀b∈v,VJ X h z b)/\R J z
def PI(X:Cx)(y x:Expr)(u:TI):Prop :=
 ∀(h:yC) (s:kt) (z:St) (H:Hp) (R:It->Hp->Prop),Inv X h z H s->u z H R ->
  ku (k4 X.prog X.w) X.A (hE x X.env) (λv k=>ku (k4 X.prog X.w) X.A (ee v) (jx X h z y R) X.xe k) X.xe s
def Iw(X:Cx)(h:yC)(σ:St)(y:Expr)(R:It->Hp->Prop)(x:kn)(u:kt):Prop :=
 ∃(it:ko) (v:List ko) (tn:Nat->x0->Prop) (J:It) (z:Hp),x=.ref it/\Inv X h σ z u/\Turn0 X.prog X.w X.K y J v it tn/\tn 0 u.1/\(∀b∈v,VJ X h z b)/\R J z
def Ct(X:Cx)(y x:Expr)(u:TI):Prop :=
 ∀(h:yC) (s:kt) (z:St) (H:Hp) (R:It->Hp->Prop),Inv X h z H s->u z H R ->
  ku (k4 X.prog X.w) X.A (hE x X.env) (λv k=>ku (k4 X.prog X.w) X.A (ee v) (Iw X h z y R) X.xe k) X.xe s
theorem PI.to0{X:Cx}{z:Expr}{k:TI}(h:PI X y z k):Ct X y z k:=λu s a H R I q =>
 qt (h u s a H R I q) (λv m f=>qt f (λb l #[it,g,tn,J,j,e,i,T,r]=>#[it,g,tn,J,j,e,i,T.toTurn0,r]) λ_ _ x=>x) λ_ _ x=>x
theorem go_of{M:Model}{A:y1}{E:ZC}{it:ko}{u:kn}{o:Obj}{n:String}{vs:Array kn}{Q:Unit->kt->Prop}(z:s.1.get? it=kx o)(hc:o.cls=.type n)(k:o.data=.fields vs)
    (v:["enumerate","zip","dict_itemiterator","dict_reverseitemiterator","odict_iterator","itertools.zip_longest","itertools.pairwise"].contains n=kd) (x:Q Unit.unit s):ku M A (Dz y (.ref it) u) Q E s:=by
  unfold Dz;cases y<;>first
    |exact QM x
    | (cases u<;>first
        |exact QM x
        | (refine QE (wpAny_load z ?_)
           rw[hc,k];show ku M A (if(["enumerate","zip","dict_itemiterator","dict_reverseitemiterator","odict_iterator","itertools.zip_longest","itertools.pairwise"].contains n&&vs[0]?==kx (h7 _))=kf then _ else _) Q E s;rw[th (by intro h;rw[v,QAF]at h;cases h)];exact QM x))
noncomputable def Ly(K:QA)(a:ko):It :=
 #[λi H=>∃h x,RC K H a h/\h[i]?=kx x,λi H x z=>z=H/\∀h,RC K H a h->h[i]?=kx x,λi H=>∃h,RC K H a h/\h.9<=i]
noncomputable def Gy(K:QA)(a:ko):It :=
 #[λi H=>∃h x,jE K H a h/\h[i]?=kx x,λi H x z=>z=H/\∀h,jE K H a h->h[i]?=kx x,λi H=>∃h,jE K H a h/\h.9<=i]
noncomputable def mx(h:Int)(n:Nat):It:=#[λi _=>i<n,λi H x z=>z=H/\x=.int (h+i),λi _=>n<=i]
theorem NZ(a it:ko):Turn P w K y (Ly K a) [it] it (λi h=>h.IsListIter it a i) where
 mem:=by simp
 obj:=λi h st b hb=>by
  have e:b=it:=by simpa using hb
  subst e;let#[o,e,c,d]:=st;exact#[o,e,λv z=>by rw[d]at z;cases z]
 keep:=λi h m st k=>st.at λo e=>k it (by simp) o e
 item:=by intro X W Y A hc i f s L H E I l st Z;subst W Y A;let#[M,x,j,r]:=Z;let#[q,n,p,Q]:=I.list j;let#[u,S,O]:=n.get r;let#[J,G,f2,F,C,B]:=l it (by simp);refine wpAny_pyNext_list_item st p.isList (x:=u) (by simpa using S) λm g N=>?_;have I1:Inv X f L H { s with heap:=m }:=I.turned (t':=s.toks) (λb o hb e=>(N.2 b hb).trans e) J G F C B;let#[o,e,c,d]:=id g;exact#[u,rfl,go_of (s:={ s with heap:=m }) e c d (by decide) #[x,H,I1,O,#[rfl,λys R=>by rw[I.list_inj R j];exact r],g,λb hb=>(l b hb).1]]
 done:=by intro X W Y A hc i f s L H E I l st Z;subst W Y A;let#[M,j,r]:=Z;let#[q,n,p,Q]:=I.list j;let#[J,G,f2,F,C,B]:=l it (by simp);have hl:=n.9;exact wpAny_pyNext_list_end (I.ok.hd hc) st p.isList (by simp;omega) λm eb=>#[rfl,I.turned (t':=s.toks) (λb o hb e=>eb b o hb e) J G F C B]
 self:=λ_ _ _ _ _ st h=>wpAny_pyIter_listiter st h
theorem UV(a it:ko):Turn P w K y (Gy K a) [it] it (λi h=>h.IsTupleIter it a i) where
 mem:=by simp
 obj:=λi h st b hb=>by
  have e:b=it:=by simpa using hb
  subst e;let#[o,e,c,d]:=st;exact#[o,e,λv z=>by rw[d]at z;cases z]
 keep:=λi h n st k=>st.at λo e=>k it (by simp) o e
 item:=by intro X W Y A hc i f s L H E I m st Z;subst W Y A;let#[M,x,l,r]:=Z;let#[g,q,p,Q]:=I.tuple l;let#[u,S,O]:=q.get r;let#[J,G,f2,F,C,B]:=m it (by simp);refine wpAny_pyNext_tuple_item st (show s.1.IsTuple a g.toArray from p) (x:=u) (by simpa using S) λn j N=>?_;have I1:Inv X f L H { s with heap:=n }:=I.turned (t':=s.toks) (λb o hb e=>(N.2 b hb).trans e) J G F C B;let#[o,e,c,d]:=id j;exact#[u,rfl,go_of (s:={ s with heap:=n }) e c d (by decide) #[x,H,I1,O,#[rfl,λys R=>by rw[I.tuple_inj R l];exact r],j,λb hb=>(m b hb).1]]
 done:=by intro X W Y A hc i f s L H E I m st Z;subst W Y A;let#[M,l,r]:=Z;let#[g,q,p,Q]:=I.tuple l;let#[J,G,f2,F,C,B]:=m it (by simp);have hl:=q.9;exact wpAny_pyNext_tuple_end (I.ok.hd hc) st (show s.1.IsTuple a g.toArray from p) (by simp;omega) λn eb=>#[rfl,I.turned (t':=s.toks) (λb o hb e=>eb b o hb e) J G F C B]
 self:=λ_ _ _ _ _ st h=>wpAny_pyIter_tupleiter st h
theorem BV(it:ko)(a:Int)(n:Nat):Turn P w K y (mx a n) [it] it (λi h=>IsRangeIter h it (a+(i:Nat) * 1) ((n:Int) - (i:Nat)) 1) where
 mem:=by simp
 obj:=λi h st b hb=>by
  have e:b=it:=by simpa using hb
  subst e;exact#[_,st,λv z=>by have F:Data.fields _=Data.cell v:=z;cases F]
 keep:=λi h g st k=>k it (by simp) _ st
 item:=by intro X m j p hc i x s B H E I f st l;subst m j p;let#[A,Z,J,Y,r,q]:=f it (by simp);have W:=Walks.range (prog:=X.prog) (w:=X.w) (I.ok.hd hc) it a 1 n;refine W.item i s _ _ l st λv g C hv u G=>?_;let#[t,rfl]:=hv;have M:Inv X x B H { s with heap:=g,toks:=C }:=I.turned (λb o hb e=>G b o (by simpa using hb) e) A Z Y r q;refine#[_,rfl,go_of (s:={ s with heap:=g,toks:=C }) (n:="range_iterator") u rfl rfl (by decide) #[.int (a+i),H,M,#[t,?_],#[rfl,rfl],u,λb hb=>(f b hb).1]];rw[Int.mul_one]
 done:=by intro X m j p hc i x s B H E I f st l;subst m j p;let#[A,Z,J,Y,r,q]:=f it (by simp);exact wpAny_pyNext_range_end (I.ok.hd hc) st (by have:n<=i:=l;omega) λg L=>#[rfl,I.turned (t':=s.toks) (λb o hb e=>L b o hb e) A Z Y r q]
 self:=λ_ _ _ _ _ st h=>wpAny_pyIter_rangeiter st h
end
section
variable{X:Cx}{a:Expr}
section
variable{y:yC}{σ:St}{H:Hp}{s:kt}{k:List ko}{h:x0}
theorem O5{R:It->Hp->Prop}{E:ZC}{x z:Int}{t u v:Tok}{f:Nat}(I:Inv X y σ H s)(m:-(2 ^ 62)<=x)(l:x<2 ^ 62)(j:-(2 ^ 62)<=z)(i:z<2 ^ 62)
  (q:R (mx x (z - x).toNat) H):ku (k4 X.prog X.w) X.A (ee (.ref s.1.1.size)) (jx X y σ a R) E { s with heap:=s.1.push { cls:=.type "range",data:=.fields (qB [.int x t,.int z u,.int 1 v]) },toks:=f }:=by
 refine wpAny_pyIter_range (IsRange.new ..) (small_one m l j i) ?_;have g:Inv X y σ H { s with heap:=s.1.push { cls:=.type "range",data:=.fields (qB [.int x t,.int z u,.int 1 v]) },toks:=f }:=I.kept λb o e=>QH _ e;refine#[(s.1.push { cls:=.type "range",data:=.fields (qB [.int x t,.int z u,.int 1 v]) }).1.size,[(s.1.push { cls:=.type "range",data:=.fields (qB [.int x t,.int z u,.int 1 v]) }).1.size],_,_,H,rfl,
  g.kept (t':=f) λb o e=>QH _ e,BV _ x (z - x).toNat,?_,λb hb=>?_,q]
 have p:x+((0:Nat):Int) * 1=x:=by simp
 have n:(((z - x).toNat:Nat):Int) - ((0:Nat):Int)=WM x z 1:=by rw[m5];split<;>omega
 show IsRangeIter _ _ (x+((0:Nat):Int) * 1) ((((z - x).toNat:Nat):Int) - ((0:Nat):Int)) 1;rw[p,n];exact QV _ rfl;have e:b=(s.1.push { cls:=.type "range",data:=.fields (qB [.int x t,.int z u,.int 1 v]) }).1.size:=by simpa using hb
 subst e;exact g.fpOk (Qc _) (g.hok.fresh (Qc _))
def Du(b:TI)(g:TG)(tb:TS):TS:=λD σ H=>b σ H λJ f=>∃W:Nat->Nat->St->Hp->Prop,(∃m,W 0 m σ f)/\∀i m σ H,W i m σ H ->
 (J.stop i H/\D.nx σ H)∨(J.go i H/\∃N:St->Hp->Prop,(∀z u,N z u->∃w,w < m/\W (i+1) w z u)/\∀x u,J.yld i H x u->g x σ u λv e=>tb { D with nx:=N,ct:=N,bk:=D.nx } v e)
noncomputable def CM(k:List ko)(h:x0):yC:=k.filterMap λb=>(h.get? b).map λo=>(b,o)
theorem bF{b:ko}{o:Obj}(hb:b∈k)(e:h.get? b=kx o):(b,o)∈CM k h:=QBf.mpr #[b,hb,by rw[e];rfl]
theorem N0{p:ko×Obj}(x:p∈CM k h):p.1∈k/\h.get? p.1=kx p.2:=by
 let#[b,hb,e]:=QBf.mp x;cases q:h.get? b with|none=>rw[q]at e;cases e|some o=>rw[q]at e;have z:(b,o)=p:=Qp e;subst z;exact#[hb,q]
theorem Inv.pinned(I:Inv X y σ H s)(f:∀b∈k,VJ X y H b)(w:∀b∈k,∃o,s.1.get? b=kx o/\∀v,o.data≠.cell v):Inv X (y++CM k s.1) σ H s :=
 I.pins_of λp u=>(Qe.mp u).elim (λz=>I.pin p (QW _ z)) λz=>by let#[hb,e]:=N0 z;let#[j,i,g,_]:=f p.1 hb;let#[o,x,d]:=w p.1 hb;rw[e]at x;cases x;exact#[e,j,i,g,d]
theorem Inv.unpinned{x:yC}(I:Inv X (y++x) σ H s):Inv X y σ H s:=I.pins_of λp z=>I.pin p (QW _ (Ql _ z))
theorem Si{q:Expr}{body:List gp}{wi:TI}{g:TG}{tb:TS}{pos:Pos}(O:ni (k4 X.prog X.w) X.A X.env X.xe)(hc:X.calm=kf)(hi:Ct X a q wi)(hg:PG X a g)(hb:NX X body tb)
  (hs:∀x,hB q X.env x=p7 x:=by intro _;rfl):PS X (.For a q body [] pos) (Du wi g tb):=by
 intro y s σ H D I h;refine wpAny_For (IB (hi y s σ H _ I h) λv s1 h1=>IB h1 λitv s2 h2=>?_) hs;let#[it,k,tn,J,H2,e,I2,T,S,f2,W,#[m0,w0],F]:=h2;subst e;have p:∀{B:Hp},(∀b∈k,B b=kv)->∀b∈k,VJ X y B b:=λhn b hb=>#[hn b hb,(f2 b hb).2]
 refine codeAny_forLoop_any (λn s'=>∃i l B,Inv X y l B s'/\tn i s'.1/\(∀b∈k,B b=kv)/\W i n l B) ?_ m0 #[0,σ,H2,I2,S,λb hb=>(f2 b hb).1,w0];rintro n s3 ⟨i,j,Q,I3,L,P,w3⟩;rcases F i n j Q w3 with⟨G,qn⟩| ⟨go,N,hN,step⟩
 refine wP O (IB (T.done X rfl rfl rfl hc i y s3 j Q X.xe I3 (p P) L G) λr s4 #[hr,I4]=>?_);subst hr;exact Ww #[j,Q,I4,qn];refine wP O (IB (T.item X rfl rfl rfl hc i y s3 j Q X.xe I3 (p P) L go) λr s4 #[u,hr,h4]=>?_);subst hr;refine wP O (IB h4 λ_ s5 #[x,H5,I5,r5,y5,E,fr5]=>?_);have I5':=I5.pinned (p fr5) (T.obj _ _ E);refine wP O (IB (hg _ s5 j H5 x u _ I5' r5 (step x H5 y5)) λ_ s6 #[R,H6,I6,q6]=>?_);refine wP O (IB (hb _ s6 R H6 _ I6 q6) λf s7 C=>?_);have Y:∀{z:St}{K:Hp},Inv X (y++CM k s5.1) z K s7->N z K->∃m,m<n/\∃i l B,Inv X y l B s7/\tn i s7.1/\(∀b∈k,B b=kv)/\W i m l B:=λ{z K} Z M=>by let#[m',hm,w7]:=hN z K M;refine#[m',hm,i+1,z,K,Z.unpinned,T.keep _ _ _ E λb hb o e=>(Z.pin (b,o) (QW _ (QW _ (bF hb e)))).1,λb hb=>?_,w7];let#[o,e,d]:=T.obj _ _ E b hb;exact(Z.pin (b,o) (QW _ (QW _ (bF hb e)))).2.1
 cases f with|next=>let#[z,K,Z,M]:=C;exact Y Z M|cont=>let#[z,K,Z,M]:=C;exact Y Z M|brk=>let#[z,K,Z,C]:=C;exact#[z,K,Z.unpinned,C]|ret v=>let#[x7,z,K,Z,r7,C]:=C;exact#[x7,z,K,Z.unpinned,r7,C]
end
end
noncomputable abbrev R2:=V->V->Hp->VK->Prop
def sE(X:Cx)(f:kn->kn->Sem kn)(r:R2):Prop :=
 ∀(h:yC) (s:kt) (z:St) (H:Hp) (x y:V) (v u:kn) (Q:VK),Inv X h z H s->ZA x v->ZA y u->r x y H Q ->
  ku (k4 X.prog X.w) X.A (f v u) (EP X h z Q) X.xe s
def Ow(X:Cx)(f:kn->Sem kn)(r:V->Hp->VK->Prop):Prop :=
 ∀(h:yC) (s:kt) (y:St) (H:Hp) (x:V) (v:kn) (Q:VK),Inv X h y H s->ZA x v->r x H Q ->
  ku (k4 X.prog X.w) X.A (f v) (EP X h y Q) X.xe s
def XC(X:Cx)(f:kn)(r:LV->Hp->VK->Prop):Prop :=
 ∀(h:yC) (s:kt) (x:St) (H:Hp) (y:LV) (z:LW) (Q:VK),Inv X h x H s->oA y z->r y H Q ->
  ku (k4 X.prog X.w) X.A (bb f z) (EP X h x Q) X.xe s
def Pw(X:Cx)(r:V->Hp->(Bool->Hp->Prop)->Prop):Prop :=
 ∀(h:yC) (s:kt) (y:St) (H:Hp) (x:V) (v:kn) (Q:Bool->Hp->Prop),Inv X h y H s->ZA x v->r x H Q ->
  ku (k4 X.prog X.w) X.A (truthy v) (TP X h y Q) X.xe s
noncomputable def Vo(r:R2)(ta tb:TE):TE:=λh H Q=>ta h H λx u=>tb h u λy z=>r x y z Q
noncomputable def xz(r:V->Hp->VK->Prop)(ta:TE):TE:=λh H Q=>ta h H λx y=>r x y Q
noncomputable def rI(C:Int->Int->Prop)(g:Int->Int->V):R2:=λx y H Q=>∃i j,x=.int i/\y=.int j/\C i j/\Q (g i j) H
noncomputable def Pa(g:Int->Int->V):R2:=λx y H Q=>∃i j,x=.int i/\y=.int j/\Q (g i j) H
def rU(g:Int->V):V->Hp->VK->Prop:=λx H Q=>∃i,x=.int i/\Q (g i) H
section
variable{X:Cx}{a b c:Expr}{ta tb tc:TE}{pos:Pos}
section
variable{f:kn->kn->Sem kn}{g:Int->Int->Int}
theorem binT(Y:PE X a ta)(hb:PE X b tb){z:yC}{s:kt}{σ:St}{H:Hp}{R:V->V->Hp->Prop}(I:Inv X z σ H s)
  (h:ta σ H λx l=>tb σ l λy k=>R x y k) {Q:ZC}
  (r:∀v u j x y k,Inv X z σ k j->ZA x v->ZA y u->R x y k->ku (k4 X.prog X.w) X.A (f v u) Q X.xe j) :
  ku (k4 X.prog X.w) X.A (hE a X.env) (λv i=>ku (k4 X.prog X.w) X.A (hE b X.env) (λu e=>ku (k4 X.prog X.w) X.A (f v u) Q X.xe e) X.xe i) X.xe s:=by
 refine IB (Y z s σ H _ I h) λv m #[x,l,W,o,q]=>?_;refine IB (hb z m σ l _ W q) λu j #[y,k,Z,n,p]=>?_;exact r v u j x y k Z o n p
theorem bf{w:Hz}{r:R2}(l:sE X (g6 w) r)(m:PE X a ta)(hb:PE X b tb):PE X (.BinOp a w b pos) (Vo r ta tb):=by intro z s k H Q I h;exact wpAny_BinOp (binT m hb I h λv u e x y o n j i q=>l z e k o x y v u Q n j i q)
theorem Xp{u:pv}{r:V->Hp->VK->Prop}(i:Ow X (unaryOp u) r)(j:PE X a ta):PE X (.UnaryOp u a pos) (xz r ta):=by intro y s z H Q I h;exact UnaryOp_ (IB (j y s z H _ I h) λv w #[x,m,l,k,e]=>i y w z m x v Q l k e)
theorem Hx{C:Int->Int->Prop}
  (z:∀(i j:Int) (t u:Tok) (s:kt) (Q:ZC) (E:ZC),C i j->Q (.int (g i j) s.toks) { s with toks:=s.toks+1 }->ku (k4 X.prog X.w) X.A (f (.int i t) (.int j u)) Q E s) :
  sE X f (rI C λi j=>.int (g i j)):=by
 intro k s n H x y v u Q I m l h;let#[i,j,rfl,rfl,hc,q]:=h;let#[t,rfl]:=m;let#[e,rfl]:=l;exact z i j t e s _ _ hc #[.int (g i j),H,I.tok _,#[_,rfl],q]
theorem Lp
  (z:∀(i j:Int) (t u:Tok) (s:kt) (Q:ZC) (E:ZC),Q (.int (g i j) s.toks) { s with toks:=s.toks+1 }->ku (k4 X.prog X.w) X.A (f (.int i t) (.int j u)) Q E s) :
  sE X f (Pa λi j=>.int (g i j)):=by
 intro k s n H x y v u Q I m l h;let#[i,j,rfl,rfl,q]:=h;let#[t,rfl]:=m;let#[e,rfl]:=l;exact z i j t e s _ _ #[.int (g i j),H,I.tok _,#[_,rfl],q]
theorem Gb{g:Int->Int->Bool}
  (z:∀(i j:Int) (t u:Tok) (s:kt) (Q:ZC) (E:ZC),Q (.bool (g i j)) s->ku (k4 X.prog X.w) X.A (f (.int i t) (.int j u)) Q E s) :
  sE X f (Pa λi j=>.bl (g i j)):=by
 intro k s n H x y v u Q I m l h;let#[i,j,rfl,rfl,q]:=h;let#[t,rfl]:=m;let#[e,rfl]:=l;exact z i j t e s _ _ #[.bl (g i j),H,I,rfl,q]
def Es(i j:Int):Prop:=0<=j/\j<=1000000/\i.natAbs<2 ^ 64
def SX(i j:Int):Prop:=(-(2 ^ 64)<i/\i<2 ^ 64)∨(-(2 ^ 64)<j/\j<2 ^ 64)
theorem SX.ok{i j:Int}(h:SX i j):lv i j:=by
 rcases h with⟨y,x⟩| ⟨y,x⟩
 exact .of_left (QBg y x);exact .of_right (QBg y x)
theorem op_add:sE X (g6 .Add) (Pa λi j=>.int (i+j)):=Lp λ_ _ _ _ _ _ _ q=>add_int q
theorem op_sub:sE X (g6 .Sub) (Pa λi j=>.int (i - j)):=Lp λ_ _ _ _ _ _ _ q=>sub_int q
theorem op_mod:sE X (g6 .Mod) (rI (λ_ j=>0<j) λi j=>.int (i % j)):=Hx λi j _ _ _ _ _ hc q=>by have h:(0:Int)<j:=hc;exact mod_int' () (by rw[Int.fmod_eq_emod_of_nonneg i ()];exact q)
theorem op_pow:sE X (g6 .Pow) (rI Es λi j=>.int (i ^ j.toNat)):=Hx λ_ _ _ _ _ _ _ hc q=>pow_int_small hc.1 hc.2.1 hc.2.2 q
theorem vz{f:kn->Sem kn}{g:Int->Int}
  (y:∀(i:Int) (t:Tok) (s:kt) (Q:ZC) (E:ZC),Q (.int (g i) s.toks) { s with toks:=s.toks+1 }->ku (k4 X.prog X.w) X.A (f (.int i t)) Q E s) :
  Ow X f (rU λi=>.int (g i)):=by
 intro z s k H x v Q I u h;let#[i,rfl,q]:=h;let#[t,rfl]:=u;exact y i t s _ _ #[.int (g i),H,I.tok _,#[_,rfl],q]
theorem Eh:Ow X (unaryOp .USub) (rU λi=>.int (-i)):=vz λ_ _ _ _ _ q=>neg_int q
end
end
noncomputable def Ma:V->V->Bool
 | .non,.non=>kf | .non,.int _=>kf | .int _,.non=>kf | .non,.bl _=>kf | .bl _,.non=>kf | .non,.str _=>kf | .str _,.non=>kf
 | .int _,.int _=>kf | .bl _,.bl _=>kf | .str _,.str _=>kf | .byt _,.byt _=>kf
 | .int _,.str _=>kf | .str _,.int _=>kf | .bl _,.str _=>kf | .str _,.bl _=>kf
 |_,_=>kd
def rEq:R2:=λx y H Q=>Ma x y=kf/\Q (.bl (decide (x=y))) H
def nz:R2:=λx y H Q=>Ma x y=kf/\Q (.bl (!decide (x=y))) H
theorem rZ{i j:Int}:decide (V.int i=V.int j)=(i==j):=by rw[qG];simp
theorem O8{i j:Bool}:decide (V.bl i=V.bl j)=(i==j):=by rw[qG];simp
theorem pZ{i j:Str}:decide (V.str i=V.str j)=(i==j):=by rw[qG];simp
theorem sZ{i j:Array UInt8}:decide (V.byt i=V.byt j)=(i.toList==j.toList):=by rw[qG];cases i;cases j;simp
section
variable{X:Cx}{a b c:Expr}{ta tb tc:TE}{pos:Pos}
section
variable{r:R2}{d:fv}{us:LW}
theorem aA{h:yC}{σ:St}{H:Hp}{s:kt}{Q:VK}{k x:Bool}(I:Inv X h σ H s)(q:Q (.bl k) H)(e:k=x):EP X h σ Q (.bool x) s:=by subst e;exact#[.bl k,H,I,rfl,q]
theorem op_eq:sE X (xk .Eq) rEq:=by
 intro f s g H x y v u Q I e z h;let#[k,q]:=h;cases x with
 |non =>
  cases e;cases y with|non=>cases z;exact PySem.EqNone.eq_none_none (aA I q (by simp))|bl j=>cases z;exact PySem.EqNone.eq_none_bool (aA I q (by simp))|int j=>let#[w,rfl]:=z;exact PySem.EqNone.eq_none_int (aA I q (by simp))|str j=>let#[w,rfl]:=z;exact PySem.EqNone.eq_none_str (aA I q (by simp))|_=>exact ti (show kd=kf from k) QD
 |bl i =>
  cases e;cases y with|non=>cases z;exact PySem.EqNone.eq_bool_none (aA I q (by simp))|bl j=>cases z;exact eq_bool (aA I q O8)|str j=>let#[w,rfl]:=z;exact PySem.EqMixed.eq_bool_str (aA I q (by simp))|_=>exact ti (show kd=kf from k) QD
 |int i =>
  let#[t,rfl]:=e;cases y with|non=>cases z;exact PySem.EqNone.eq_int_none (aA I q (by simp))|int j=>let#[w,rfl]:=z;exact eq_int (aA I q rZ)|str j=>let#[w,rfl]:=z;exact PySem.EqMixed.eq_int_str (aA I q (by simp))|_=>exact ti (show kd=kf from k) QD
 |str i =>
  let#[t,rfl]:=e;cases y with|non=>cases z;exact PySem.EqNone.eq_str_none (aA I q (by simp))|bl j=>cases z;exact PySem.EqMixed.eq_str_bool (aA I q (by simp))|int j=>let#[w,rfl]:=z;exact PySem.EqMixed.eq_str_int (aA I q (by simp))|str j=>let#[w,rfl]:=z;exact eq_str (aA I q pZ)|_=>exact ti (show kd=kf from k) QD
 |byt i =>
  let#[t,rfl]:=e;cases y with|byt j=>let#[w,rfl]:=z;exact PySem.W.eq_bytes (aA I q sZ)|_=>exact ti (show kd=kf from k) QD
 |_=>cases y<;>exact ti (show kd=kf from k) QD
theorem op_ne:sE X (xk .NotEq) nz:=by
 intro f s g H x y v u Q I e z h;let#[k,q]:=h;cases x with
 |non =>
  cases e;cases y with|non=>cases z;exact PySem.EqNone.ne_none_none (aA I q (by simp))|bl j=>cases z;exact PySem.EqNone.ne_none_bool (aA I q (by simp))|int j=>let#[w,rfl]:=z;exact PySem.EqNone.ne_none_int (aA I q (by simp))|str j=>let#[w,rfl]:=z;exact PySem.EqNone.ne_none_str (aA I q (by simp))|_=>exact ti (show kd=kf from k) QD
 |bl i =>
  cases e;cases y with|non=>cases z;exact PySem.EqNone.ne_bool_none (aA I q (by simp))|bl j=>cases z;exact ne_bool (aA I q (aj not O8))|str j=>let#[w,rfl]:=z;exact PySem.EqMixed.ne_bool_str (aA I q (by simp))|_=>exact ti (show kd=kf from k) QD
 |int i =>
  let#[t,rfl]:=e;cases y with|non=>cases z;exact PySem.EqNone.ne_int_none (aA I q (by simp))|int j=>let#[w,rfl]:=z;exact ne_int (aA I q (aj not rZ))|str j=>let#[w,rfl]:=z;exact PySem.EqMixed.ne_int_str (aA I q (by simp))|_=>exact ti (show kd=kf from k) QD
 |str i =>
  let#[t,rfl]:=e;cases y with|non=>cases z;exact PySem.EqNone.ne_str_none (aA I q (by simp))|bl j=>cases z;exact PySem.EqMixed.ne_str_bool (aA I q (by simp))|int j=>let#[w,rfl]:=z;exact PySem.EqMixed.ne_str_int (aA I q (by simp))|str j=>let#[w,rfl]:=z;exact ne_str (aA I q (aj not pZ))|_=>exact ti (show kd=kf from k) QD
 |byt i =>
  let#[t,rfl]:=e;cases y with|byt j=>let#[w,rfl]:=z;exact PySem.W.ne_bytes (aA I q (aj not sZ))|_=>exact ti (show kd=kf from k) QD
 |_=>cases y<;>exact ti (show kd=kf from k) QD
theorem op_lt:sE X (xk .Lt) (Pa λi j=>.bl (decide (i<j))):=Gb λ_ _ _ _ _ _ _ q=>lt_int q
theorem op_le:sE X (xk .LtE) (Pa λi j=>.bl (decide (i<=j))):=Gb λ_ _ _ _ _ _ _ q=>le_int q
theorem op_gt:sE X (xk .Gt) (Pa λi j=>.bl (decide (j<i))):=Gb λ_ _ _ _ _ _ _ q=>gt_int q
theorem op_ge:sE X (xk .GtE) (Pa λi j=>.bl (decide (j<=i))):=Gb λ_ _ _ _ _ _ _ q=>ge_int q
theorem V0:sE X (xk .In) (λx y H Q=>∃i j,x=.str i/\y=.str j/\Q (.bl (!(qZ j i 0 j.9 1).isEmpty)) H):=by intro z s e H x y v u Q I k w h;let#[i,j,rfl,rfl,q]:=h;let#[t,rfl]:=k;let#[f,rfl]:=w;exact in_str (aA I q rfl)
theorem nj:sE X (xk .Is) (λx y H Q=>y=.non/\Q (.bl (decide (x=.non))) H):=by
 intro w s e H x y v u Q I z k h;let#[rfl,q]:=h;cases k;refine is_none_gen (aA I q ?_);cases x<;>first
  | (cases z;rfl)
  | (let#[t,rfl]:=z;rfl)
theorem Cb:sE X (xk .IsNot) (λx y H Q=>y=.non/\Q (.bl (!decide (x=.non))) H):=by
 intro w s e H x y v u Q I z k h;let#[rfl,q]:=h;cases k;refine isnot_none_gen (aA I q ?_);cases x<;>first
  | (cases z;rfl)
  | (let#[t,rfl]:=z;rfl)
theorem HQ:sE X (xk .NotIn) (λx y H Q=>∃i j,x=.str i/\y=.str j/\Q (.bl (!(!(qZ j i 0 j.9 1).isEmpty))) H):=by intro z s e H x y v u Q I k w h;let#[i,j,rfl,rfl,q]:=h;let#[t,rfl]:=k;let#[f,rfl]:=w;exact notIn_str (aA I q rfl)
theorem sE.or{f:kn->kn->Sem kn}{g:R2}(h:sE X f r)(h':sE X f g):sE X f (λx y H Q=>r x y H Q∨g x y H Q):=by intro z s w H x y v u Q I e k q;rcases q with q|q;exact h z s w H x y v u Q I e k q;exact h' z s w H x y v u Q I e k q
theorem Kb(g:sE X (xk d) r)(j:PE X a ta)(hb:PE X b tb)(i:ef d b=kd):PE X (.Compare a [d] [b] pos) (Vo r ta tb):=by intro z s w H Q I h;exact wpAny_Compare1 (binT j hb I h λv u k x y m l f e q=>g z k w m x y v u Q l f e q) i
def Zo(t:TE):TT:=λh H Q=>t h H λx y=>∃k,x=.bl k/\Q k y
theorem Ta(q:sE X (xk d) r)(Z:PE X a ta)(hb:PE X b tb)(Y:ef d b=kd):PT X (.Compare a [d] [b] pos) (Zo (Vo r ta tb)):=by
 intro w s f H Q I h;refine wpAny_isTrue_Compare1 (IB (Z w s f H _ I h) λv i #[x,E,A,m,p]=>IB (hb w i f E _ A p) λu g #[y,C,K,l,o] =>
  IB (q w g f C x y v u _ K m l o) λc F #[z,B,W,j,k,e,n]=>?_) Y
 subst e;cases j;exact wO #[B,W,n]
def Km(K:QA)(x:V)(H:Hp)(k:Bool):Prop :=
 match x with
 | .non=>k=kd|.bl b=>k=b|.int i=>k=(i != 0)|.str y=>y.9<=kb/\k=((y.9:Int) != 0)|.byt y=>y.size<=kb/\k=((y.size:Int) != 0)|.ref p=>(∃h,RC K H p h/\k=!h.isEmpty)∨(∃h,jE K H p h/\k=!h.isEmpty)∨∃z,H p=kx (.dK z)/\k=!z.isEmpty|_=>False
theorem NW{h:Type}{kvs:List (h×V)}{vs:List (h×kn)}(r:KV kvs vs):(!vs.isEmpty)=!kvs.isEmpty:=by cases r<;>rfl
theorem xN{xs:LV}{its:LW}(r:oA xs its):(!its.toArray.isEmpty)=!xs.isEmpty:=by cases r<;>simp
theorem AH:(kb:Nat)<2 ^ 63:=by rw[Q7];decide
theorem N4:Pw X (λx H Q=>∃k,Km X.K x H k/\Q k H):=by
 intro Z s E H x v Q I j h;let#[k,e,q]:=h;have hl:=AH;have F:kb=16777216:=Q7;cases x with
 |non=>cases j;have z:k=false:=e;subst z;exact truthy_none #[H,I,q]|bl b=>cases j;have z:k=b:=e;subst z;exact wO #[H,I,q]|int i=>let#[t,rfl]:=j;have z:k=(i != 0):=e;subst z;exact PySem.P.truthy_int #[H,I,q]|str y=>let#[t,rfl]:=j;obtain⟨B,z⟩:y.9<=kb/\k=((y.9:Int) != 0):=e;subst z;exact PySem.P.truthy_str () #[H,I.tok _,q]|byt y=>let#[t,rfl]:=j;obtain⟨B,z⟩:y.size<=kb/\k=((y.size:Int) != 0):=e;subst z;exact PySem.W.truthy_bytes () #[H,I.tok _,q]|ref p =>
  cases j;have z:(∃g,RC X.K H p g/\k=!g.isEmpty)∨(∃g,jE X.K H p g/\k=!g.isEmpty)∨∃u,H p=kx (.dK u)/\k=!u.isEmpty:=e;rcases z with⟨g,l,z⟩| ⟨g,l,z⟩| ⟨u,l,z⟩
  subst z;let#[Y,r,o,A]:=I.list l;have f:=r.9;exact wpAny_truthy_list o.isList (by simp only[QO];omega) #[H,I.tok _,by rw[xN r];exact q];subst z;let#[Y,r,o,A]:=I.tuple l;have f:=r.9;exact truthy_tuple o (by simp only[QO];omega) #[H,I.tok _,by rw[xN r];exact q];subst z;obtain⟨A,C,n,r,m⟩:u.9<=kb/\(p==gV)=kd/\∃n,KV u n/\s.1.DictOf (TD X.prog X.w) p n:=I.hok p _ l;have f:u.9=n.length:=qC r;exact wpAny_truthy_dict C m () #[H,I.tok _,by rw[NW r];exact q]
 |_=>exact(show False from e).elim
theorem bW:sE X (g6 .Add) (λx y H Q=>∃i j,x=.str i/\y=.str j/\i.9+j.9<=kb/\Q (.str (i++j)) H):=by intro z s g H x y v u Q I e k h;let#[i,j,rfl,rfl,f,q]:=h;let#[t,rfl]:=e;let#[w,rfl]:=k;exact add_str (λw l=>#[.str (i++j),H,I.tok _,#[_,rfl],q]) f
theorem RF{x:V}(r:oA [x] us):∃u,us=[u]/\ZA x u:=by
 cases r with|cons y h=>cases h;exact#[_,rfl,y]
theorem Xe{x y:V}(r:oA [x,y] us):∃u h,us=[u,h]/\ZA x u/\ZA y h:=by
 cases r with
 |cons k w =>
  cases w with|cons v z=>cases z;exact#[_,_,rfl,k,v]
theorem V3(hc:X.calm=kf):XC X (.builtin "max") (λxs H Q=>∃i j,xs=[.int i,.int j]/\Q (.int (if j > i then j else i)) H):=by
 intro y s z H xs us Q I r h;let#[i,j,rfl,q]:=h;let#[u,v,rfl,#[t,rfl],#[e,rfl]]:=Xe r;refine max_two_ints (I.ok.hd hc) λf w k=>#[_,H,I.kept k,?_,q]
 by_cases x:j > i;rw[tt x,tt x];exact#[_,rfl];rw[th x,th x];exact#[_,rfl]
theorem B3:XC X (.type "int") (λxs H Q=>(∃i,xs=[.int i]/\Q (.int i) H)∨∃k,xs=[.bl k]/\Q (.int (if k then 1 else 0)) H):=by
 intro x s z H xs us Q I r h;rcases h with⟨i,rfl,q⟩| ⟨k,rfl,q⟩
 let#[u,rfl,t,rfl]:=RF r;exact call_int_int #[.int i,H,I,#[_,rfl],q];let#[u,rfl,y]:=RF r;cases y;exact call_int_bool #[.int (if k then 1 else 0),H,I.tok _,#[_,rfl],q]
end
end
section
variable{k:Nat}{A:y1}
structure Room(k:Nat)(A:y1):Prop where
 hd:A.handled=kv
 dp:A.depth+3 * k+5<dy
 un:A.units+16 * k+200<g7
theorem Room.mono{j:Nat}(r:Room k A)(h:j<=k):Room j A:=#[r.hd,by have:=r.dp;omega,by have:=r.un;omega]
theorem Room.deeper(r:Room (k+1) A)(env:Env):Room k (A.deeper env) :=
 #[r.hd,by have:=r.dp;show A.depth+1+3 * k+5<_;omega,by have:=r.un;show A.units+3+16 * k+200<_;omega]
theorem Room.depth(r:Room k A):A.depth<recursionLimit:=by have:=r.dp;omega
def Xo:TA:=λ_ H Q=>Q [] H
noncomputable def Co(ta:TE)(z:TA):TA:=λh H Q=>ta h H λx v=>z h v λy u=>Q (x::y) u
end
section
variable{X:Cx}{e:Expr}{es:List Expr}{te:TE}{t:TA}{pos:Pos}
theorem uW:PA X [] Xo:=λ_ _ _ _ H Q I h=>QAP #[[],H,I,.nil,h]
theorem CQ(i:PE X e te)(g:PA X es t)(hs:yl (e::es) X.env=(kd,hE e X.env)::yl es X.env:=by rfl):PA X (e::es) (Co te t):=by intro pos y s z H Q I h;rw[hs];show ku _ _ (li ((kd,hE e X.env)::fy pos (yl es X.env))) _ _ s;refine WN (IB (i y s z H _ I h) λu w #[x,n,l,a,f]=>?_);exact IB (g pos y w z n _ l f) λo p #[v,m,j,k,b]=>#[x::v,m,j,.cons a k,b]
def Zu(t:TA):TE:=λy H Q=>t y H λh x=>h.9<=kb/\∀p,x p=kv->Q (.ref p) (CA x p (.tup h))
def Bu(t:TA):TE:=λy H Q=>t y H λh x=>h.9<=kb/\∀p,x p=kv->Q (.ref p) (CA x p (.lst h))
theorem zj{x1}(h:PA X es t):PE X (.Tuple es x1 pos) (Zu t):=by intro x s k H Q I g;refine QBM (IB (h pos x s k H _ I g) λf y #[a,w,v,r,z,q]=>#[by rw[<- r.9];exact z,?_]);have i:w y.1.1.size=none:=v.hok.fresh (Qc _);refine#[.ref y.1.1.size,CA w y.1.1.size (.tup a),v.laid (t':=y.toks) (λb u e=>QH _ e) (Qc _) ?_,rfl,q _ i];exact#[z,f,r,#[_,QV _ rfl,rfl,_,rfl]]
theorem vj(h:PA X es t):PE X (.List es pos) (Bu t):=by intro x s k H Q I g;refine wpAny_List_spliced (IB (h pos x s k H _ I g) λf y #[a,w,v,r,z,q]=>#[by rw[<- r.9];exact z,?_]);have i:w y.1.1.size=none:=v.hok.fresh (Qc _);refine#[.ref y.1.1.size,CA w y.1.1.size (.lst a),v.laid (t':=y.toks) (λb u e=>QH _ e) (Qc _) ?_,rfl,q _ i];exact#[z,f,0,r,QV _ rfl]
end
noncomputable abbrev Sp:=LV->Hp->VK->XK->Prop
noncomputable abbrev M9:=List Env->Hp->kt->XK->kn->kt->Prop
structure Env0(P:vu)(w:x2)(K:QA)(mg:Str->Option kn)(base:x0)(A:y1)(outer:List Env)(s:kt)(H:Hp):Prop where
 frames:A.frames=kx outer
 mod:Mod K mg base
 bs:∀b o,base.get? b=kx o->s.1.get? b=kx o/\H b=kv
 bsz:base.1.size<=s.1.1.size
 funs:s.1.FunFrames base outer
 frf:∀b∈dZ outer,H b=kv
 tb:∀P q,DP mg base P q->H P=kx (.tbl q)
 hok:kO P w H s.1
 bare:RB s.gens
def CE(outer:List Env)(P:vu)(w:x2)(H:Hp)(s:kt)(Q:VK)(u:kn)(s':kt):Prop :=
 ∃v h,s'.os=s.os/\RB s'.gens/\Un (dZ outer) [] H h s.1 s'.1/\kO P w h s'.1/\ZA v u/\Q v h
def CR(h:M9)(outer:List Env)(P:vu)(w:x2)(H:Hp)(s:kt)(Q:VK)(E:XK)(r:Result)(s':kt):Prop :=
 match r with
 | .ok (.ret u)=>CE outer P w H s Q u s'|.ok _=>False|.error e=>h outer H s E e s'
structure FnOk(P:vu)(w:x2)(K:QA)(mg:Str->Option kn)(base:x0)(CX:M9)(k:Nat)(f:ko)(fd:gl)(ps:LS)(sp:Sp):Prop where
 len:∀vs H Q E,sp vs H Q E->vs.9=ps.9
 run:∀(A:y1) (outer:List Env) (s:kt) (H:Hp) (args:Args) (us:LW) (vs:LV) (Q:VK) (E:XK),Room k A->Env0 P w K mg base A outer s H->lb s fd args (ps.zip us)->oA vs us->sp vs H Q E ->
  l0 (k4 P w) A (.call (.ref f) args) (CR CX outer P w H s Q E) s
theorem FnOk.mono{P:vu}{w:x2}{K:QA}{mg:Str->Option kn}{x:x0}{a:M9}{j k:Nat}{f:ko}{v:gl}{u:LS}{z:Sp}(F:FnOk P w K mg x a j f v u z)(h:j<=k) :
  FnOk P w K mg x a k f v u z:=#[F.len,λA y s H args e b Q E g=>F.run A y s H args e b Q E (g.mono h)]
section
variable{X:Cx}{x:yC}{σ:St}{H:Hp}{s s':kt}
theorem Inv.env0(I:Inv X x σ H s):Env0 X.prog X.w X.K X.mg X.base X.A X.stack s H :=
 #[I.ok.frames,I.ok.mod,I.bs,QZ I.ok.bsz I.sz,I.stack,I.stkFree,I.tb,I.hok,I.bare]
theorem Inv.after{Q:VK}{u:kn}(I:Inv X x σ H s)(h:CE X.stack X.prog X.w H s Q u s'):EP X x σ Q u s':=by let#[v,f,a,bare,un,k,r,q]:=h;let#[e,g,d,t,y]:=s';obtain rfl:y=s.os:=a;exact#[v,f,I.call (h':=e) (g':=g) (d':=d) (t':=t) (ch:=[]) un k bare (λb z=>ti z (by simp)),r,q]
end
noncomputable def Fe(z:Sp)(h:LV)(E:XK)(t:TA):TE:=λx H Q=>t x H λy u=>z (y++h) u Q E
def XJ(K:QA)(y:gl)(x:LS)(ds:LW):Prop :=
 ∀(s:kt) (h:LW),K.In s.1->(h++ds).9=x.9->lb s y #[h,[]] (x.zip (h++ds))
theorem XJ.all{K:QA}{y:gl}{x:LS}(h:∀us:LW,us.9=x.9->c5 y #[us,[]]=p7 (x.zip us)):XJ K y x []:=λs us _ hl=>by rw[qF]at hl ⊢;exact .of_eq (h us hl)
def NN(z:M9)(X:Cx)(E:XK):Prop:=∀(h:yC) (y:St) (H:Hp) (s:kt) (e:kn) (x:kt),Inv X h y H s->z X.stack H s E e x->X.xe e x
section
variable{X:Cx}{b:M9}{k:Nat}{f C:ko}{a:gl}{z:LS}{v:Sp}{y:LV}{ds:LW}{E:XK}{x m:Str}{p pos apos:Pos}{e o:Expr}{es:List Expr}{ta:TE}{t:TA}
theorem C5{g:yC}{σ:St}{H:Hp}{s:kt}{Q:VK}{us:LW}{vs:LV}(F:FnOk X.prog X.w X.K X.mg X.base b k f a z v)(q:Room k X.A)(hb:XJ X.K a z ds)(Y:oA y ds)(n:NN b X E)
  (I:Inv X g σ H s) (r:oA vs us) (h:v (vs++y) H Q E):ku (k4 X.prog X.w) X.A (bb (.ref f) us) (EP X g σ Q) X.xe s:=by
 have j:oA (vs++y) (us++ds):=r.append Y;have hl:(us++ds).9=z.length:=by rw[<- j.9];exact F.len _ _ _ _ h
 refine wpAny_call (QB4 (F.run X.A X.stack s H #[us,[]] (us++ds) (vs++y) Q E q I.env0 (hb s us I.kIn hl) j h) λr l i=>?_);cases r with
 |error e=>exact n g σ H s e l I i|ok fl =>
  cases fl with|ret u=>exact I.after i|next=>exact Qd i|brk=>exact Qd i|cont=>exact Qd i
theorem Vb(F:FnOk X.prog X.w X.K X.mg X.base b k f a z v)(Y:Room k X.A)(B:Gl X x)(Z:X.mg x=kx (.ref f))(hk:wM X.K (.ref f)=kf)(hb:XJ X.K a z ds)(J:oA y ds)(n:NN b X E)
  (L:PA X (e::es) t) (i:(x==("__debug__":Str))=false:=by decide) (G:yl (e::es) X.env=(kd,hE e X.env)::yl es X.env:=by rfl) (g:(fy pos (yl es X.env)).any (·.1)=false:=by rfl) :
  PE X (.Call (.Name x p) (e::es) [] pos) (Fe v y E t):=by
 intro u s l H Q I h;refine wj (mR I B Z ?_ i);refine PySem.W.callWith_K (h₀:=X.base) I.ok.mod.kin hk (IB (L pos u s l H _ I h) λN O #[M,P,j,r,q]=>#[j.kIn,?_]) G g;exact C5 F Y hb J n j r q
theorem n6(F:FnOk X.prog X.w X.K X.mg X.base b k f a z v)(j:Room k X.A)(n:Gl X x)(l:X.mg x=kx (.ref f))(hk:wM X.K (.ref f)=kf)(hb:XJ X.K a z ds)(q:oA y ds)(i:NN b X E)
  (u:(x==("__debug__":Str))=false:=by decide):PE X (.Call (.Name x p) [] [] pos) (Fe v y E Xo):=by
 intro g s r H Q I h;refine wj (mR I n l ?_ u);exact PySem.W.callWith_K0 I.kIn hk (C5 (us:=[]) F j hb q i I .nil h)
end
section
variable{X:Cx}{c:M9}{k:Nat}{f C:ko}{b:gl}{v ks:LS}{u:Sp}{E:XK}{x m:Str}{p pos apos h:Pos}{e o:Expr}{es:List Expr}{y:List Ez}{te ta:TE}{t z:TA}{w:Option Str}
variable{g:LW->LW->LW}{a:LV->LV->LV}
end
section
variable{l:M9}{P:vu}{w:x2}{mg:Str->Option kn}{base:x0}{j:LS}{g:Str}{d:hZ}{f:ko}
structure FnScope(N P:LS)(sc:hZ):Prop where
 kind:sc.kind=.function
 co:sc.isCoroutine=kd
 gen:sc.isGenerator=kd
 nd:N.Nodup
 pre:N.take P.9=P
 par:∀x∈P,sc.names.lookup x=kx .local∨sc.names.lookup x=kx .cell
 nofree:∀y∈sc.names,y.2≠.free
theorem ZP{y:Str->Option fk}{x:Str}:∀{binds:List (Str×kn)}{m:Str->Option kn},(∀v,(x,v)∉binds)->l4 y binds m x=m x
 |[],_,_=>rfl|(n,v)::r,m,h=>by
  unfold l4;rw[ZP λw z=>h w (QG _ z)];split;have:x≠n:=by rintro rfl;exact h v QF
  simp[this];rfl
theorem VP{y:Str->Option fk}{x:Str}:∀{binds:List (Str×kn)}{m:Str->Option kn},(∀v,(x,v)∉binds)->l5 y binds m x=m x
 |[],_,_=>rfl|(n,v)::r,m,h=>by
  unfold l5;rw[VP λw z=>h w (QG _ z)];split;rfl;have:x≠n:=by rintro rfl;exact h v QF
  simp[this]
theorem KP{y:Str->Option fk}{x:Str}{v:kn}:∀{P:LS}{vs:LW}{i:Nat}{m:Str->Option kn},P.Nodup->P[i]?=kx x->vs[i]?=kx v->y x=kx .local ->
  l4 y (P.zip vs) m x=kx v
 |[],_,_,_,_,h,_,_=>by simp at h|_::_,[],_,_,_,_,h,_=>by simp at h|p::P,w::vs,0,m,nd,h1,h2,hk=>by simp at h1 h2;subst h1;subst h2;show l4 y ((p,w)::P.zip vs) m p=_;unfold l4;rw[ZP λv hv=>(Qh.mp nd).1 (QAz hv).1,tt hk];simp|p::P,w::vs,i+1,m,nd,h1,h2,hk=>by show l4 y ((p,w)::P.zip vs) m x=_;unfold l4;exact KP (i:=i) (Qh.mp nd).2 (by simpa using h1) (by simpa using h2) hk
theorem UP{y:Str->Option fk}{x:Str}{v:kn}:∀{P:LS}{vs:LW}{i:Nat}{m:Str->Option kn},P.Nodup->P[i]?=kx x->vs[i]?=kx v->y x≠kx .local ->
  l5 y (P.zip vs) m x=kx v
 |[],_,_,_,_,h,_,_=>by simp at h|_::_,[],_,_,_,_,h,_=>by simp at h|p::P,w::vs,0,m,nd,h1,h2,hk=>by simp at h1 h2;subst h1;subst h2;show l5 y ((p,w)::P.zip vs) m p=_;unfold l5;rw[VP λv hv=>(Qh.mp nd).1 (QAz hv).1,th hk];simp|p::P,w::vs,i+1,m,nd,h1,h2,hk=>by show l5 y ((p,w)::P.zip vs) m x=_;unfold l5;exact UP (i:=i) (Qh.mp nd).2 (by simpa using h1) (by simpa using h2) hk
noncomputable def gD(N:LS)(vs:LV):St:=vs.map kx++wE (N.9 - vs.9) kv
noncomputable def gX(l:M9)(P:vu)(w:x2)(K:QA)(mg:Str->Option kn)(base:x0)(N:LS)(g:Str)(d:hZ)(f:ko)(x:kn)(A:y1)(outer:List Env)(s:kt)(H:Hp)(E:XK):Cx where
 prog:=P
 w:=w
 K:=K
 mg:=mg
 base:=base
 A:=A.deeper (Rt g d s.1.1.size f x)
 N:=N
 s₀:=s
 H₀:=H
 env:=Rt g d s.1.1.size f x
 outer:=outer
 stack:=Rt g d s.1.1.size f x::outer
 ex:=[]
 calm:=kf
 fn:=λ_=>kf
 pn:=[]
 xe:=λe y=>ku (k4 P w) (A.deeper (Rt g d s.1.1.size f x)) (leaving (Rt g d s.1.1.size f x) e) (λ_ h=>l outer H s E e h) (λz h=>l outer H s E z h) y
theorem BU{sc:hZ}{n:Nat}{x:Str}(h:sc.names.lookup x=kx .cell):∃c,(n7 n sc.names []).lookup x=kx c:=by have q:=QAo sc.names n [] (.inl h);exact Option.isSome_iff_exists.mp q
theorem V2{K:QA}{N:LS}{F:kn}{A:y1}{outer:List Env}{s G:kt}{H:Hp}{E:XK}{us:LW}{vs:LV}
  (S:FnScope N j d) (M:A.handled=kv) (o:Env0 P w K mg base A outer s H) (hl:vs.9=j.9) (r:oA vs us)
  (x:InCallC s s.1.1.size (l4 (Rt g d s.1.1.size f F).kindOf (j.zip us) λ_=>kv) (n7 (s.1.1.size+1) d.names []) (l5 (Rt g d s.1.1.size f F).kindOf (j.zip us) λ_=>kv) G) :
  Inv (gX l P w K mg base N g d f F A outer s H E) [] (gD N vs) H G:=by
 have L:j.9<=N.length:=by have:=aj qD S.pre;rw[w6]at this;omega
 let#[C,Q,rfl,hk]:=x.done;have X:∀b:ko,b∉(gX l P w K mg base N g d f F A outer s H E).ex:=λb z=>ti (show b∈([]:List ko) from z) (by simp);refine#[#[o.mod,S.kind,rfl,rfl,Qc _,λy z c C m=>?_,λy Y=>?_,λy c _ h=>?_,λ_=>M,Around.frames_deeper o.frames,.inr #[rfl,rfl],λb z=>ti z (X b),o.bs,o.bsz,λb _ _=>X b,λb z=>ti z (X b),o.funs,o.frf,o.tb],
  rfl,o.bare,Un.kept hk,#[_,x.toInCall.ns,λi y v C m R=>?_],λy c h=>#[_,x.cell y c h],o.hok.fresh (Qc _),λy c h=>?_,λp W=>ti (show p∈([]:yC) from W) (by simp),o.hok.kept hk,?_]
 exact name_of_addr x.apart (qL C) (qL m);have Y:d.names.lookup y=kx .cell∨d.names.lookup y=kx .free:=Y;rcases Y with Y|Y;exact BU Y;exact ti rfl (S.nofree _ (qL Y));exact QAy (x.above y c (qL h));have B:i<vs.length:=by unfold gD at m;by_cases B:i<vs.9;exact B;rw[Qv (by simpa using B)]at m;rw[wB]at m;split at m<;>cases m
 have O:vs[i]?=kx v:=by
  unfold gD at m;rw[qI (by simpa using B),QX]at m;cases e:vs[i]? with|none=>rw[e]at m;cases m|some a=>rw[e]at m;cases m;rfl
 let#[u,I,J]:=r.get O;have W:j[i]?=kx y:=by rw[<- S.pre,List.getElem?_take_of_lt ()];exact C
 have Z:j.Nodup:=by rw[<- S.pre];exact S.nd.sublist (List.take_sublist _ _)
 refine#[u,J,?_];rcases S.par y (Qw W) with k|k;exact .inl #[k,KP Z W I k];let#[c,e]:=BU (n:=s.1.1.size+1) k;refine .inr #[.inl k,c,e,?_];have q:=x.cell y c e;rw[UP Z W I (by show d.names.lookup y≠_;rw[k];decide)]at q;exact q;exact o.hok.fresh (QAy (x.above y c (qL h)));unfold gD;show _=N.9;rw[QI,QC,qq];omega
theorem Tf{K:QA}{k:Nat}{name:Str}{z:nt}{body:List gp}{dV kV B pm h ct oc:kn}{an od:Option ko}
  {L:Array (Option kn)}{N:LS}{C:Sp}(lk:K.lookup f=kx #[oc,od,.func (qp name g z body d dV kV B pm an h ct),L]) (R:Wf K h g=kf) (S:FnScope N j d)
  (len:∀vs H Q E,C vs H Q E->vs.9=j.9)
  (p:∀(A:y1) (outer:List Env) (s:kt) (H:Hp) (vs:LV) (Q:VK) (E:XK),Room k (A.deeper (Rt g d s.1.1.size f h))->C vs H Q E ->
   ∃t,NX (gX l P w K mg base N g d f h A outer s H E) body t/\t { nx:=λ_ i=>Q .non i,rt:=Q } (gD N vs) H) :
  FnOk P w K mg base l (k+1) f (qp name g z body d dV kV B pm an h ct) j C:=by
 refine#[len,λA outer s H args us vs Q E O Z hb r Y=>?_];have hl:=len _ _ _ _ Y;have KX:K.In s.heap:=Z.mod.kin.keeps λb o e=>(Z.bs b o e).1;have M:s.1.NoLimit:=Z.mod.nolimit.keeps λb o e=>(Z.bs b o e).1;have m:∀y∈j.zip us,d.names.lookup y.1=kx .local∨(d.names.lookup y.1=kx .cell/\((n7 (s.1.1.size+1) d.names []).lookup y.1).isSome=kf):=λ#[n,v] hy=>by rcases S.par n (QAz hy).1 with q|q;exact .inl q;exact .inr #[q,QAo _ _ _ (.inl q)]
 refine codeAny_call_function O.depth (KX _ _ lk) rfl S.co S.gen rfl (PySem.W.codeRec_of KX R) (hb _ _ _ _ ?_);refine wpAny_newFunctionEnv_cells S.kind m λenv he s1 x=>?_;subst he;refine#[M.keeps x.toInCall.keep,codeAny_func ?_];let#[t,ht,hq]:=p A outer s H vs Q E (O.deeper _) Y;have I:Inv (gX l P w K mg base N g d f h A outer s H E) [] (gD N vs) H s1:=V2 S O.hd Z hl r x;refine qt (ht [] s1 (gD N vs) H _ I hq) (λfl F X=>?_) λe F X=>X;have fin:∀{a:St}{i:Hp}{v:V}{u:kn},Inv (gX l P w K mg base N g d f h A outer s H E) [] a i F->ZA v u->Q v i->CE outer P w H s Q u F :=
  λ{a i v u} J G q=>#[v,i,J.os,J.bare,J.base,J.hok,G,q]
 cases fl with|ret u=>let#[v,a,i,J,G,q]:=X;exact fin J G q|next=>let#[a,i,J,q]:=X;exact fin (v:=V.non) (u:=j1) J rfl q|brk=>let#[_,_,_,q]:=X;exact Qd q|cont=>let#[_,_,_,q]:=X;exact Qd q
end
section
variable{X:Cx}{x:Str}{p pos:Pos}{e:Expr}{es:List Expr}{t:TA}{y T:String}{r:LV->Hp->VK->Prop}
noncomputable def Bx(r:LV->Hp->VK->Prop)(t:TA):TE:=λh H Q=>t h H λz u=>r z u Q
theorem vT(hc:XC X (.builtin y) r)(l:Gl X x)(j:X.mg x=kv)(hv:H0 x=kx (.builtin y))(n:PA X (e::es) t)(i:x≠"__name__":=by decide)(v:(x==("__debug__":Str))=false:=by decide)
  (m:yl (e::es) X.env=(kd,hE e X.env)::yl es X.env:=by rfl) (u:(fy pos (yl es X.env)).any (·.1)=false:=by rfl):PE X (.Call (.Name x p) (e::es) [] pos) (Bx r t):=by
 intro z s w H Q I h;refine wj (jK I l j hv ?_ i v);exact PyProof.Rows.callWith_builtin1 (IB (n pos z s w H _ I h) λa b #[k,q,o,f,g]=>hc z b w q k a Q o f g) m u
theorem Z0(hc:XC X (.type T) r)(l:Gl X x)(j:X.mg x=kv)(hv:H0 x=kx (.type T))(n:PA X (e::es) t)(i:x≠"__name__":=by decide)(v:(x==("__debug__":Str))=false:=by decide)
  (m:yl (e::es) X.env=(kd,hE e X.env)::yl es X.env:=by rfl) (u:(fy pos (yl es X.env)).any (·.1)=false:=by rfl):PE X (.Call (.Name x p) (e::es) [] pos) (Bx r t):=by
 intro z s w H Q I h;refine wj (jK I l j hv ?_ i v);exact wl (IB (n pos z s w H _ I h) λa b #[k,q,o,f,g]=>hc z b w q k a Q o f g) m u
end
end L2
namespace HT
open PySem PyProof.Rows
section
open PySem.SeqAt
open PySem.AutoSeq1 (wpAny_loadPart')
open PySem.MeetsSeq PySem.MeetsSeq2 PySem.MeetsSeq3
end
section
variable{prog:vu}{w:x2}{A:y1}{E:ZC}{s:kt}
theorem cat_tup{t b:ko}{vs ws:LW}{Q:ZC}(m:Tz s.1 t vs.toArray)(hb:Tz s.1 b ws.toArray)(hv:vs≠[])
  (p:ws=[]->Q (.ref t) s) (o:ws≠[]->Q (.ref s.1.1.size) { s with heap:=s.1.push { cls:=.type "tuple",data:=.seq (vs++ws).toArray } })
  (hsz:vs.9+ws.length<=kb):ku (k4 prog w) A (g6 .Add (.ref t) (.ref b)) Q E s:=by
 let#[#[cls,j,data,f],k,hc,n,i]:=id m;let#[#[l,u,a,x],h,z,g,y]:=id hb;simp only at hc i z y;subst hc i z y;have e:vs.toArray++ws.toArray=(vs++ws).toArray:=by simp
 by_cases v:ws=[];exact QB5 #[_,k,rfl] #[_,h,rfl] QCD Nz QAp QAa (QAQ _ _)
  (tuple_addW1 t b vs.toArray ws.toArray n g j u f x (by simpa using hv) (by simp[v])) #[k,h,p v]
 refine QB5 #[_,k,rfl] #[_,h,rfl] QCD Nz QAp QAa (QAQ _ _)
  (tuple_addW2 t b vs.toArray ws.toArray n g j u f x (by simpa using hv) (by simpa using v) (by rw[QO,QO];exact hsz)) #[k,h,?_]
 rw[e];exact o v
noncomputable def sIx(n d:Nat):Option Int->Nat
 |none=>d|some v=>if v<0 then(v+(n:Int)).toNat else min v.toNat n
end
end HT
namespace L2
open PySem PySem.Spec PyProof.Rows
noncomputable abbrev TO:=St->Hp->(Option Int->Hp->Prop)->Prop
def PO(X:Cx)(e:Option Expr)(t:TO):Prop :=
 ∀(h:yC) (s:kt) (x:St) (H:Hp) (Q:Option Int->Hp->Prop),Inv X h x H s->t x H Q ->
  ku (k4 X.prog X.w) X.A (evalPart e X.env) (λu z=>∃o y,Inv X h x y z/\IsPart u o/\Q o y) X.xe s
def Va:TO:=λ_ H Q=>Q kv H
noncomputable def Ko(t:TE):TO:=λh H Q=>t h H λx y=>∃i,x=.int i/\Q (kx i) y
theorem OW{ns:LJ}:∀{us:LW},oA (ns.map V.int) us->ro us ns:=by
 induction ns with
 |nil=>intro us r;rw[wV]at r;cases r;exact .nil|cons n ns y =>
  intro us r;rw[QT]at r;cases r with|cons x h=>let#[t,e]:=x;subst e;exact .cons n t (y h)
section
variable{X:Cx}{e:Expr}{te:TE}{k c:Option Expr}{d f:TO}{pos p2:Pos}
theorem jb:PO X kv Va:=by intro x s y H Q I h;rw[nc];exact QM #[kv,H,I,.none,h]
theorem Ia(h:PE X e te):PO X (kx e) (Ko te):=by intro y s z H Q I a;rw[evalPart_some];refine IB (h y s z H _ I a) λu j #[x,g,b,v,w]=>?_;let#[i,rfl,q]:=w;let#[t,rfl]:=v;exact#[kx i,g,b,.int i t,q]
def Um(X:Cx)(r:V->Option Int->Option Int->Hp->VK->Prop):Prop :=
 ∀(h:yC) (s:kt) (y:St) (H:Hp) (x:V) (v u z:kn) (k c:Option Int) (a:ko) (Q:VK),Inv X h y H s->ZA x v->s.1.IsSliceOf a u z .none->IsPart u k->IsPart z c->r x k c H Q ->
  ∃T id,typeLookup (.type T) "__getitem__"=p7 (kx (.builtin id))/\s.TypeIs v T/\ku (k4 X.prog X.w) X.A (pd v (.ref a)) (EP X h y Q) X.xe s
theorem Um.or{r g:V->Option Int->Option Int->Hp->VK->Prop}(h:Um X r)(h':Um X g):Um X (λx k c H Q=>r x k c H Q∨g x k c H Q):=by intro y s z H x v w u k c a Q I b l j i q;rcases q with q|q;exact h y s z H x v w u k c a Q I b l j i q;exact h' y s z H x v w u k c a Q I b l j i q
noncomputable def uz(r:V->Option Int->Option Int->Hp->VK->Prop)(te:TE)(d f:TO):TE:=λh H Q=>te h H λx v=>d h v λl z=>f h z λu y=>r x l u y Q
theorem x6{r:V->Option Int->Option Int->Hp->VK->Prop}(E:Um X r)(G:PE X e te)(hl:PO X k d)(B:PO X c f):PE X (.Subscript e (.Slice k c kv p2) pos) (uz r te d f):=by intro y s a H Q I h;refine QBq (IB (G y s a H _ I h) λv n #[x,R,O,o,Z]=>?_);refine wpAny_Slice (IB (hl y n a R _ O Z) λi m #[l,P,N,K,Y]=>IB (B y m a P _ N Y) λg z #[u,j,M,W,p]=>?_);rw[nc];refine QM ?_;have L:Inv X y a j { z with heap:=z.1.push { cls:=.type "slice",data:=.fields (qB [i,g,.none]) } }:=M.kept (t':=z.toks) λb ob q=>QH _ q;let#[T,id,J,C,F]:=E y { z with heap:=z.1.push { cls:=.type "slice",data:=.fields (qB [i,g,.none]) } } a j x v i g l u z.1.1.size Q L o (Heap.IsSliceOf.new ..) K W p;show ku (k4 X.prog X.w) X.A (rn e (.Slice k c kv p2) v (.ref z.1.1.size)) (EP X y a Q) X.xe { z with heap:=z.1.push { cls:=.type "slice",data:=.fields (qB [i,g,.none]) } };exact tail_any (ops:=[.ref z.1.1.size,v]) C J F (by with_unfolding_all rfl)
noncomputable def j3(xs:LV)(k c:Option Int):LV:=(xs.drop (HT.sIx xs.9 0 k)).take (HT.sIx xs.9 xs.9 c - HT.sIx xs.9 0 k)
theorem ZU(xs:LV)(k c:Option Int):(j3 xs k c).9<=xs.length:=by unfold j3;rw[w6,w8];omega
def jf(K:QA):R2:=λx y H Q=>∃a b z h,x=.ref a/\y=.ref b/\jE K H a z/\jE K H b h/\z≠[]/\z.9+h.9<=kb /\
 (h=[]->Q (.ref a) H)/\(h≠[]->∀p,H p=kv->Q (.ref p) (CA H p (.tup (z++h))))
theorem oA.nil_iff{xs:LV}{us:LW}(r:oA xs us):us=[]↔xs=[]:=by
 cases r with|nil=>simp|cons _ _=>simp
theorem Fb:sE X (g6 .Add) (jf X.K):=by intro j s F H x y v u Q I Y r h;let#[a,b,p,n,rfl,rfl,E,hb,C,m,W,Z]:=h;cases Y;cases r;let#[B,i,A,_]:=I.tuple E;let#[l,g,p2,_]:=I.tuple hb;refine HT.cat_tup A p2 (λz=>C (i.nil_iff.mp z)) (λz=>#[.ref a,H,I,rfl,W (g.nil_iff.mp z)]) (λz=>?_) (by rw[<- i.9,<- g.9];exact m);refine#[.ref s.1.1.size,_,I.laid (t':=s.toks) (o:=.tup (p++n)) (λb ob q=>QH _ q) (Qc _) ?_,rfl,Z (λw=>z (g.nil_iff.mpr w)) _ (I.hok.fresh (Qc _))];exact#[by rw[QI];exact m,_,i.append g,IsTup.new _ _]
end
noncomputable def kU(n:Nat)(i:Int):Option Nat:=if 0<=i then(if i<n then kx i.toNat else kv) else if -(n:Int)<=i then kx (i+n).toNat else kv
def BD{α:Type}(xs:List α)(i:Int):Option α:=(kU xs.9 i).bind λj=>xs[j]?
theorem sR{n:Nat}{i:Int}{j:Nat}(h:kU n i=kx j):seqIndex? i n=kx j/\j<n/\-(n:Int)<=i/\i<n:=by unfold kU at h;by_cases y:0<=i;rw[tt y]at h;by_cases x:i<n;rw[tt x]at h;have e:i.toNat=j:=Qp h;exact#[by rw[QAb y x,e],(),(),x];rw[th x]at h;cases h;rw[th y]at h;by_cases x:-(n:Int)<=i;rw[tt x]at h;have e:(i+n).toNat=j:=Qp h;exact#[by rw[QB6 () x,e],(),x,()];rw[th x]at h;cases h
theorem bS{α:Type}{xs:List α}{i:Int}{v:α}(h:BD xs i=kx v):∃j,seqIndex? i xs.9=kx j/\xs[j]?=kx v/\j<xs.9/\-(xs.9:Int)<=i/\i<xs.length:=by
 unfold BD at h;cases e:kU xs.9 i with|none=>rw[e]at h;cases h|some j=>rw[e]at h;let#[u,z,y,x]:=sR e;exact#[j,u,h,z,y,x]
theorem VF{α:Type}{xs:List α}{j:Nat}{v:α}(h:xs[j]?=kx v):BD xs (j:Int)=kx v:=by
 have x:j<xs.length:=(Qf.mp h).1;have e:kU xs.9 (j:Int)=kx j:=by unfold kU;rw[tt (),tt ()];simp
 unfold BD;rw[e];exact h
def VZ(b:Expr):Prop:=∀o i,subscripted b kd o i=operate [o,i] (pd o i)
def C9(X:Cx)(r:R2):Prop :=
 ∀(k h:Expr) (z:yC) (s:kt) (a:St) (H:Hp) (x y:V) (v u:kn) (Q:VK),Inv X z a H s->ZA x v->ZA y u->r x y H Q ->
  subscripted h kd v u=operate [v,u] (pd v u)->ku (k4 X.prog X.w) X.A (rn k h v u) (EP X z a Q) X.xe s
def u4(X:Cx)(id:String)(r:V->LV->Hp->VK->Prop):Prop :=
 ∀(h:yC) (s:kt) (y:St) (H:Hp) (x:V) (z:LV) (v:kn) (u:LW) (Q:VK),Inv X h y H s->ZA x v->oA z u->r x z H Q ->
  ku (k4 X.prog X.w) X.A (bb (.builtin id) (v::u)) (EP X h y Q) X.xe s
section
variable{X:Cx}{a b:Expr}{ta tb:TE}{pos:Pos}
section
variable{d:yC}{s:kt}{x:V}{u v:kn}
theorem C9.or{r g:R2}(h:C9 X r)(h':C9 X g):C9 X (λx y H Q=>r x y H Q∨g x y H Q):=by intro z w d s k H x y v u Q I f e q i;rcases q with q|q;exact h z w d s k H x y v u Q I f e q i;exact h' z w d s k H x y v u Q I f e q i
theorem u4.or{g:String}{r e:V->LV->Hp->VK->Prop}(h:u4 X g r)(h':u4 X g e):u4 X g (λx xs H Q=>r x xs H Q∨e x xs H Q):=by intro d s y H x xs v z Q I w k q;rcases q with q|q;exact h d s y H x xs v z Q I w k q;exact h' d s y H x xs v z Q I w k q
theorem Up{r:R2}(f:C9 X r)(g:PE X a ta)(hb:PE X b tb)(hs:VZ b):PE X (.Subscript a b pos) (Vo r ta tb):=by intro d s z H Q I h;exact QBq (binT g hb I h λv u w x y j i e k q=>f a b d w z j x y v u Q i e k q (hs _ _))
def bp(K:QA):R2:=λx y H Q=>∃p h i v,x=.ref p/\y=.int i/\RC K H p h/\BD h i=kx v/\Q v H
def vp(K:QA):R2:=λx y H Q=>∃p h i v,x=.ref p/\y=.int i/\jE K H p h/\BD h i=kx v/\Q v H
def xp:R2:=λx y H Q=>∃z i c,x=.str z/\y=.int i/\z.9<=kb/\BD z.cps.toList i=kx c/\Q (.str #[(qB [c])]) H
theorem Sc:C9 X (bp X.K):=by
 intro e f d s o H x y v u Q I C B h Y;let#[p,M,i,z,rfl,rfl,E,F,q]:=h;cases C;let#[t,rfl]:=B;let#[m,r,l,N]:=I.list E;let#[j,k,L,P,J,G]:=bS F;let#[w,W,g]:=r.get L;have hl:=r.9;have O:=AH;have fin:EP X d o Q w s:=#[z,H,I,g,q]
 by_cases Z:0<=i;have n:i.toNat=j:=by rw[QAb Z G]at k;exact Qp k
 exact item_listR l.isList Z () (by rw[n];simpa using W) fin Y;have n:(i+(m.toArray.size:Int)).toNat=j:=by rw[QB6 () J]at k;rw[QO,<- hl];exact Qp k
 exact qf (x:=w) l.isList.typeIs QBr.lookup
  (wpAny_getItem_list_neg (Q:=λr A=>r=w/\EP X d o Q r A) l.isList () (by rw[QO]<;>omega) () (by rw[n];simpa using W) #[rfl,fin]) Y
theorem Hk:C9 X (vp X.K):=by
 intro k e d s g H x y v u Q I o n h Z;let#[p,F,i,z,rfl,rfl,W,A,q]:=h;cases o;let#[t,rfl]:=n;let#[Y,r,l,G]:=I.tuple W;let#[j,C,B,N,M,L]:=bS A;let#[w,E,f]:=r.get B;have hl:=r.9;have J:=AH;have fin:EP X d g Q w s:=#[z,H,I,f,q]
 exact qf (x:=w) l.typeIs QAA.lookup
  (QBh (j:=j) (Q:=λr m=>r=w/\EP X d g Q r m) l () () (by rw[QO,<- hl];exact C) (by simpa using E) #[rfl,fin]) Z
theorem Lk:C9 X xp:=by
 intro w k d s Z H x y v u Q I g f h l;let#[z,i,c,rfl,rfl,K,m,q]:=h;let#[t,rfl]:=g;let#[W,rfl]:=f;let#[j,e,p,B,o,n]:=bS m;have hl:z.cps.toList.9=z.length:=by simp[Str.length]
 rw[hl]at e o n;have A:=AH;exact tail_any (QAR s z t) slot_str_getitem.lookup (getItem_str (c:=c) (by have Y:decide (i < -(2 ^ 63:Int))=false:=dF ();have r:decide (i ≥ 2 ^ 63)=false:=dF ();rw[Y,r,QBZ]) (by rw[e];simpa using p) #[.str #[(qB [c])],H,I.tok _,#[_,rfl],q]) l
def oz(K:QA):R2:=λx y H Q=>bp K x y H Q∨vp K x y H Q∨xp x y H Q
theorem Mk:C9 X (oz X.K):=Sc.or (Hk.or Lk)
theorem UW(its:LW)(n j:Nat)(u:kn):Q6 (·.setIfInBounds j u) { cls:=.type "list",data:=.seq its.toArray n }={ cls:=.type "list",data:=.seq (its.set j u).toArray n }:=by simp[Q6]
theorem Inv.lst{d:yC}{σ:St}{H:Hp}{s:kt}{p:ko}{xs:LV}(I:Inv X d σ H s)(h:H p=kx (.lst xs)) :
  ∃(its:LW) (n:Nat),oA xs its/\s.1.get? p=kx { cls:=.type "list",data:=.seq its.toArray n }/\xs.9<=sizeLine:=by
 let#[z,its,n,r,e]:=I.hok p _ h;exact#[its,n,r,e,z]
theorem Inv.lstUpd{σ:St}{H:Hp}{p:ko}{xs ys:LV}{its its':LW}{n y:Nat}{f:Obj->Obj}(I:Inv X d σ H s)(h:H p=kx (.lst xs))
  (k:s.1.get? p=kx { cls:=.type "list",data:=.seq its.toArray n }) (z:f { cls:=.type "list",data:=.seq its.toArray n }={ cls:=.type "list",data:=.seq its'.toArray y }) (r:oA ys its') (w:ys.9<=kb) (t:Nat) :
  Inv X d σ (CA H p (.lst ys)) { s with heap:=s.1.update p f,toks:=t }:=by
 have e:(s.1.update p f).get? p=kx { cls:=.type "list",data:=.seq its'.toArray y }:=by rw[wm f k (by rw[z]<;>rfl),z]
 refine I.write (x:=p) (e:=p) (by rw[h];trivial) (.inl rfl) (λb u hb q=>(QAq _ _ (Q8 hb)).trans q) #[_,e] ?_;exact#[w,its',y,r,e]
def Io:V->V->V->Hp->(Hp->Prop)->Prop:=λo i v H Q=>∃p h k j,o=.ref p/\i=.int k/\H p=kx (.lst h)/\kU h.9 k=kx j/\Q (CA H p (.lst (h.set j v)))
theorem Y5:fe X Io:=by
 intro d s Y H o i v F G u Q I A B K h;let#[p,Z,k,j,rfl,rfl,e,E,q]:=h;cases A;let#[t,rfl]:=B;let#[y,n,r,w,C]:=I.lst e;let#[z,L,g,f]:=sR E;have hl:=r.9;have J:=AH;have m:Inv X d Y (CA H p (.lst (Z.set j v))) { s with heap:=s.1.update p (Q6 (·.setIfInBounds j u)) } :=
  I.lstUpd e w (UW y n j u) (r.set K j) (by rw[wn];exact C) s.toks
 by_cases l:0<=k;have hk:k.toNat=j:=by rw[QAb l f]at z;exact Qp z
 exact PySem.W.ki_setAt w l () (by rw[QO,<- hl];exact f) (by rw[hk];exact#[_,m,q]);have hk:(k+(y.toArray.size:Int)).toNat=j:=by rw[QB6 () g]at z;rw[QO,<- hl];exact Qp z
 exact PySem.W.ki_setBack w () (by rw[QO,<- hl];exact g) () (by rw[hk];exact#[_,m,q])
theorem eQ(y z:Option Int)(n:Nat):(F0 y z kv n).1=((HT.sIx n 0 y:Nat):Int)/\(F0 y z kv n).2.1=((HT.sIx n n z:Nat):Int)/\(F0 y z kv n).2.2=1:=by
 refine#[?_,?_,rfl];cases y with|none=>simp[F0,HT.sIx]|some i=>simp only[F0,HT.sIx,QCE,show(1:Int) > 0 by decide,if_true];by_cases h:i<0;simp only[h,if_true]<;>omega;simp only[h,if_false]<;>omega
 cases z with|none=>simp[F0,HT.sIx]|some i=>simp only[F0,HT.sIx,QCE,show(1:Int) > 0 by decide,if_true];by_cases h:i<0;simp only[h,if_true]<;>omega;simp only[h,if_false]<;>omega
theorem xO(its:LW)(h y:Option Int):slicePick its.toArray h y kv=((its.drop (HT.sIx its.9 0 h)).take (HT.sIx its.9 its.9 y - HT.sIx its.9 0 h)).toArray:=by let#[k,w,z]:=eQ h y its.toArray.size;unfold slicePick;rw[k,w,z];simp only[sliceRange_one,pick_run,QO]<;>rfl
def Eo(K:QA):V->Option Int->Option Int->Hp->VK->Prop:=λx y z H Q=>∃a h,x=.ref a/\RC K H a h/\∀p,H p=kv->Q (.ref p) (CA H p (.lst (j3 h y z)))
theorem Ha:Um X (Eo X.K):=by intro d s p H x v Z Y w k W Q I f n i g h;let#[a,y,rfl,m,q]:=h;cases f;let#[j,r,e,l]:=I.list m;have z:=r.9;refine#["list",_,QBr.lookup,e.isList.typeIs,?_];refine wpAny_getItem_list_slice e.isList n i g .none (by simp) ?_ (by rw[QO]<;>omega);rw[xO,<- z];refine#[.ref s.1.1.size,_,I.laid (t':=s.toks) (o:=.lst (j3 y w k)) (λb ob q=>QH _ q) (Qc _) ?_,rfl,q _ (I.hok.fresh (Qc _))];exact#[QZ (ZU y w k) l,_,0,(r.drop (HT.sIx y.9 0 w)).take (HT.sIx y.9 y.9 k - HT.sIx y.9 0 w),QV _ rfl]
noncomputable def nG:V->Bool
 | .non=>kf|.bl _=>kf|.int _=>kf|.str _=>kf|_=>kd
noncomputable def Cd:V->V->Bool
 | .non,.non=>kf|.bl a,.bl b=>a==b|.bl a,.int b=>(if a then 1 else 0)==b|.int a,.bl b=>a==(if b then 1 else 0)|.int a,.int b=>a==b|.str a,.str b=>a==b|_,_=>kd
theorem Yl{A:y1}{y:V}(w:ZA y u)(h:ZA x v)(k:nG y=kf)(fx:nG x=kf):qh A s u v (Cd y x):=by
 cases y with
 |non =>
  cases w;cases x with|non=>cases h;exact qh.same _|bl b=>cases h;exact qh.none_bool b|int b=>let#[t,rfl]:=h;exact qh.none_int b t|str b=>let#[t,rfl]:=h;exact qh.none_str b t|_=>exact ti (show kd=kf from fx) QD
 |bl a =>
  cases w;cases x with|non=>cases h;exact qh.bool_none a|bl b=>cases h;exact qh.bool_bool a b|int b=>let#[t,rfl]:=h;exact qh.bool_int a b t|str b=>let#[t,rfl]:=h;exact qh.bool_str a b t|_=>exact ti (show kd=kf from fx) QD
 |int a =>
  let#[z,rfl]:=w;cases x with|non=>cases h;exact qh.int_none a z|bl b=>cases h;exact qh.int_bool a z b|int b=>let#[t,rfl]:=h;exact qh.int_int a z b t|str b=>let#[t,rfl]:=h;exact QBb a z b t|_=>exact ti (show kd=kf from fx) QD
 |str a =>
  let#[z,rfl]:=w;cases x with|non=>cases h;exact qh.str_none a z|bl b=>cases h;exact qh.str_bool a z b|int b=>let#[t,rfl]:=h;exact QBc a z b t|str b=>let#[t,rfl]:=h;exact qh.str_str a z b t|_=>exact ti (show kd=kf from fx) QD
 |_=>exact ti (show kd=kf from k) QD
def fX(x:V)(u:kn):Bool:=match u with
 | .none=>Cd .non x|.bool b=>Cd (.bl b) x|.int i _=>Cd (.int i) x|.str z _=>Cd (.str z) x|_=>kd
theorem D8{y:V}(r:ZA y u)(f:nG y=kf):fX x u=Cd y x:=by
 cases y with|non=>cases r;rfl|bl b=>cases r;rfl|int i=>let#[t,rfl]:=r;rfl|str z=>let#[t,rfl]:=r;rfl|_=>exact ti (show kd=kf from f) QD
theorem oJ{x:V}:∀{xs:LV}{us:LW},oA xs us->xs.all nG=kf->us.any (fX x)=xs.any λy=>Cd y x
 |_,_,.nil,_=>rfl|y::xs,u::us,.cons r t,f=>by rw[qa,Qg]at f;rw[wu,wu,D8 r f.1,oJ t f.2]
theorem cG{A:y1}{s:kt}{x:V}{v:kn}(z:ZA x v)(fx:nG x=kf):∀{xs:LV}{us:LW},oA xs us->xs.all nG=kf->∀u∈us,qh A s u v (fX x u)
 |_,_,.nil,_=>λu h=>by cases h|y::xs,u::us,.cons r t,f=>λw h=>by rw[qa,Qg]at f;rcases QL.mp h with rfl|h;rw[D8 r f.1];exact Yl r z f.1 fx;exact cG z fx t f.2 w h
def inV(x:V)(xs:LV):Bool:=xs.any λy=>Cd y x
def bv(K:QA)(neg:Bool):R2:=λx y H Q=>∃p h,y=.ref p/\(RC K H p h∨jE K H p h)/\nG x=kf/\h.all nG=kf/\Q (.bl (if neg then !inV x h else inV x h)) H
theorem U0:sE X (xk .In) (bv X.K kd):=by intro d s l H x y v u Q I g i h;let#[p,m,rfl,k,fx,fs,q]:=h;cases i;rcases k with k|k;let#[z,r,e,j]:=I.list k;refine SeqAt.in_listAt (fX x) e.isList (λw f=>cG g fx r fs w (by simpa using f)) #[.bl _,H,I,rfl,?_];rw[show z.toArray.any (fX x)=z.any (fX x) by simp,oJ r fs];exact q;let#[z,r,e,j]:=I.tuple k;refine SeqAt.in_tupleAt (fX x) e (λw f=>cG g fx r fs w (by simpa using f)) #[.bl _,H,I,rfl,?_];rw[show z.toArray.any (fX x)=z.any (fX x) by simp,oJ r fs];exact q
theorem LQ:sE X (xk .NotIn) (bv X.K kf):=by intro d s l H x y v u Q I g i h;let#[p,m,rfl,k,fx,fs,q]:=h;cases i;rcases k with k|k;let#[z,r,e,j]:=I.list k;refine SeqAt.notIn_listAt (fX x) e.isList (λw f=>cG g fx r fs w (by simpa using f)) #[.bl _,H,I,rfl,?_];rw[show z.toArray.any (fX x)=z.any (fX x) by simp,oJ r fs];exact q;let#[z,r,e,j]:=I.tuple k;refine SeqAt.notIn_tupleAt (fX x) e (λw f=>cG g fx r fs w (by simpa using f)) #[.bl _,H,I,rfl,?_];rw[show z.toArray.any (fX x)=z.any (fX x) by simp,oJ r fs];exact q
theorem gJ:XC X (.builtin "len") (λxs H Q=>∃p ys,xs=[.ref p]/\(RC X.K H p ys∨jE X.K H p ys)/\Q (.int ys.9) H):=by intro d s i H xs j Q I r h;let#[p,ys,rfl,z,q]:=h;let#[u,rfl,f]:=RF r;cases f;have l:=AH;rcases z with z|z;let#[e,w,k,g]:=I.list z;have y:=w.9;exact Calls.call_len_list k.isList (by simp only[QO]<;>omega) #[.int ys.9,H,I.tok _,#[s.toks+1,by rw[QO,y]],q];let#[e,w,k,g]:=I.tuple z;have y:=w.9;exact len_tuple k (by simp only[QO]<;>omega) #[.int ys.9,H,I.tok _,#[s.toks+1,by rw[QO,y]],q]
theorem jS:XC X (.builtin "len") (λxs H Q=>∃z,xs=[.str z]/\z.9<=kb/\Q (.int z.9) H):=by intro d s y H xs w Q I r h;let#[z,rfl,k,q]:=h;let#[u,rfl,t,rfl]:=RF r;have e:=AH;exact len_str () #[.int z.9,H,I.tok _,#[_,rfl],q]
theorem XC.or{f:kn}{r k:LV->Hp->VK->Prop}(h:XC X f r)(h':XC X f k):XC X f (λxs H Q=>r xs H Q∨k xs H Q):=by intro d s y H xs z Q I w q;rcases q with q|q;exact h d s y H xs z Q I w q;exact h' d s y H xs z Q I w q
theorem XO:XC X (.type "tuple") (λxs H Q=>∃p ys,xs=[.ref p]/\((RC X.K H p ys/\∀l,H l=kv->Q (.ref l) (CA H l (.tup ys)))∨(jE X.K H p ys/\Q (.ref p) H))):=by
 intro d s i H xs A Q I r h;let#[p,ys,rfl,h]:=h;let#[u,rfl,Y]:=RF r;cases Y;rcases h with⟨g,q⟩| ⟨g,q⟩
 let#[y,k,f,j]:=I.list g;have m:=k.9;refine call_tuple_list f.isList (λz Z=>?_) (by simp only[QO]<;>omega);have n:Inv X d i H { s with heap:=z }:=I.kept (t':=s.toks) Z;have W:Inv X d i (CA H z.1.size (.tup ys)) { s with heap:=z.push { cls:=.type "tuple",data:=.seq y.toArray } } :=
  n.laid (t':=s.toks) (λb o e=>QH _ e) (Qc _) (show gB X.prog X.w _ _ _ (.tup ys) from#[j,y,k,IsTup.new _ _])
 exact#[.ref z.1.size,_,W,rfl,q _ (n.hok.fresh (Qc _))];let#[y,k,f,j]:=I.tuple g;exact call_tuple_same f #[.ref p,H,I,rfl,q]
def yY(K:QA)(T:String)(x:V)(H:Hp):Prop:=match x with
 | .str _=>T="str"|.int _=>T="int"|.ref p=>(T="list"/\∃y,RC K H p y)∨(T="tuple"/\∃o,K.lookup p=kx o/\o.cls=.type "tuple"/\o.dict=kv) ∨
   (T="dict"/\((∃h,H p=kx (.dK h))∨∃z h,H p=kx (.dT z h)))∨(T="set"/\∃S n,H p=kx (.set S n))
 |_=>False
theorem G4{σ:St}{H:Hp}{T:String}(I:Inv X d σ H s)(r:ZA x v)(ty:yY X.K T x H) :
  s.TypeIs v T/\∀a,v=.ref a->∃ob,s.1.get? a=kx ob/\ob.dict=none:=by
 cases x with
 |str z=>let#[t,rfl]:=r;cases(show T="str" from ty);exact#[QAR s z t,λ_ e=>nomatch e]
 |int i=>let#[t,rfl]:=r;cases(show T="int" from ty);exact#[typeIs_int s i t,λ_ e=>nomatch e]
 |ref p =>
  cases r;rcases ty with⟨rfl,l,j⟩| ⟨rfl,o,hk,hc,w⟩| ⟨rfl,hk⟩| ⟨rfl,S,n,hk⟩
  let#[g,_,f,_]:=I.list j;refine#[f.isList.typeIs,λa e=>?_];cases e;let#[o,n,e,c,w,_]:=f;exact#[o,e,w];refine#[#[o,I.kIn p o hk,hc],λa e=>?_];cases e;exact#[o,I.kIn _ o hk,w];have z:∃o,s.1.get? p=kx o/\o.ExactDict:=by
   rcases hk with⟨y,hk⟩| ⟨m,y,hk⟩
   let#[_,_,_,_,o,_,_,e,h,_]:=I.hok p _ hk;exact#[o,e,h];let#[_,_,_,_,o,_,e,h,_]:=I.hok p _ hk;exact#[o,e,h]
  let#[o,e,h]:=z;refine#[#[o,e,h.1],λa k=>?_];cases k;exact#[o,e,h.2.1];let#[o,_,_,_,e,h,_]:=I.hok p _ hk;refine#[#[o,e,h.1],λa k=>?_];cases k;exact#[o,e,h.2.1]
 |_=>exact Qd ty
noncomputable def Fu(K:QA)(T:String)(r:V->LV->Hp->VK->Prop)(m:TE):TE:=λy H Q=>m y H λx h=>yY K T x h/\r x [] h Q
noncomputable def gz(K:QA)(T:String)(r:V->LV->Hp->VK->Prop)(m:TE)(t:TA):TE:=λh H Q=>m h H λx y=>yY K T x y/\t h y λz w=>r x z w Q
end
variable{o e:Expr}{es:List Expr}{m:TE}{t:TA}{name:Str}{apos cpos:Pos}{T g:String}{r:V->LV->Hp->VK->Prop}
theorem bj(p:Mz T)(w:Slot T name g)(k:typeOf (.builtin g)=p7 (.type "method_descriptor"))(Y:u4 X g r)(q:PE X o m)
  (u:fm o name X.env (hE o X.env)=hE o X.env:=by rfl) (z:(apos.endLine==cpos.line)=true:=by rfl):PE X (.Call (.Attribute o name apos) [] [] cpos) (Fu X.K T r m):=by
 intro y s f H Q I h;refine QAc u z (IB (q y s f H _ I h) λv l #[x,A,j,i,ty,n]=>?_);let#[W,Z]:=G4 j i ty;exact#[T,g,p,w,k,W,Z,WW rfl (QBN (Y y l f A x [] v [] Q j i .nil n))]
theorem Bp(E:Mz T)(k:Slot T name g)(j:typeOf (.builtin g)=p7 (.type "method_descriptor"))(G:u4 X g r)(F:PE X o m)(J:PA X (e::es) t)
  (w:fm o name X.env (hE o X.env)=hE o X.env:=by rfl)
  (f:((fy cpos (yl (e::es) X.env)).all (λx=>!x.1)&&(backToKw cpos (keywordEach [] X.env)).all (λx=>x.1.isSome)
   && decide ((e::es).9+([]:List Ez).9+(if([]:List Ez).isEmpty then 0 else 1)<30))=true:=by rfl)
  (u:(apos.endLine==cpos.line)=true:=by rfl) (hs:yl (e::es) X.env=(kd,hE e X.env)::yl es X.env:=by rfl) (z:(fy cpos (yl es X.env)).any (·.1)=false:=by rfl) :
  PE X (.Call (.Attribute o name apos) (e::es) [] cpos) (gz X.K T r m t):=by
 intro y s i H Q I h;refine wpAny_Call_method_late w f u rfl (IB (F y s i H _ I h) λv W #[x,P,p,l,ty,C]=>?_);let#[M,L]:=G4 p l ty;refine#[T,g,E,k,j,M,L,?_];have n:=J cpos y W i P _ p C;rw[hs]at n ⊢;refine WW (by show(kd||(fy cpos (yl es X.env)).any (·.1))=kd;rw[z]<;>rfl) (Calls.evalArgs_plain ?_);exact IB n λY Z #[q,O,N,A,B]=>G y Z i O x q v Y Q N l A B
end
def Dt(X:Cx)(id:String)(r:V->LV->Hp->VK->Prop):Prop :=
 ∀(h:yC) (s:kt) (y:St) (H:Hp) (x:V) (z:LV) (v:kn) (u:LW) (Q:VK),Inv X h y H s->ZA x v->oA z u->r x z H Q ->
  ku (k4 X.prog X.w) X.A (bb (.builtin id) (v::u)) (EP X h y Q) X.xe s
theorem oA.one:∀{x:V}{us:LW},oA [x] us->∃u,us=[u]/\ZA x u
 |_,_,.cons r .nil=>#[_,rfl,r]
theorem oA.zero:∀{us:LW},oA [] us->us=[]
 |_,.nil=>rfl
theorem oA.dropLast{xs:LV}{us:LW}(h:oA xs us):oA xs.dropLast us.dropLast:=by
 induction h with
 |nil=>exact .nil|cons r t x =>
  cases t with|nil=>exact .nil|cons q y=>exact .cons r x
theorem oA.eraseIdx:∀{xs:LV}{us:LW}(i:Nat),oA xs us->oA (xs.eraseIdx i) (us.eraseIdx i)
 |_,_,_,.nil=>.nil|_,_,0,.cons _ t=>t|_,_,i+1,.cons r t=>.cons r (oA.eraseIdx i t)
theorem cX{α:Type}(l:List α):l.eraseIdx (l.9 - 1)=l.dropLast:=by
 induction l with
 |nil=>rfl|cons a r h =>
  cases r with
  |nil=>rfl|cons b r =>
   have e:(a::b::r).9 - 1=((b::r).9 - 1)+1:=by have y:(a::b::r).9=r.9+2:=rfl;have x:(b::r).9=r.9+1:=rfl;omega
   rw[e,List.eraseIdx_cons_succ,h]
   all_goals rfl
theorem pP{α:Type}:∀(l:List α) (i:Nat),(l.eraseIdx i).9<=l.9
 |[],_=>Qc _|_::_,0=>wY _|_::r,i+1=>w9 (pP r i)
section
variable{X:Cx}{y:yC}{σ:St}{H:Hp}{s:kt}{l b:ko}{xs ys v:LV}
theorem Inv.lset{its its':LW}{n:Nat}{f:Array kn->Array kn}{t':Nat}(I:Inv X y σ H s)(k:H l=kx (.lst xs))
  (e:s.1.get? l=kx { cls:=.type "list",data:=.seq its.toArray n }) (w:f its.toArray=its'.toArray) (hv:oA ys its') (h:ys.9<=kb) :
  Inv X y σ (CA H l (.lst ys)) { s with heap:=s.1.update l (Q6 f),toks:=t' }:=by
 have q:=PySem.IsL.update e f;rw[w]at q;refine I.write (x:=l) (e:=l) (by rw[k];exact trivial) (.inl rfl) (λa u hb z=>(QAq s.1 (Q6 f) (Q8 hb)).trans z) #[_,q] ?_;exact#[h,its',_,hv,q]
theorem Inv.lnew{its:LW}{t':Nat}(I:Inv X y σ H s)(hv:oA ys its)(h:ys.9<=kb) :
  Inv X y σ (CA H s.1.1.size (.lst ys)) { s with heap:=s.1.push { cls:=.type "list",data:=.seq its.toArray },toks:=t' } :=
 I.laid (λ_ _ q=>QH _ q) (Qc _) #[h,its,0,hv,QV _ rfl]
theorem Inv.fresh(I:Inv X y σ H s):H s.1.1.size=none:=I.hok.fresh (Qc _)
theorem Inv.lstM(I:Inv X y σ H s)(h:H l=kx (.lst xs)):xs.9<=kb/\∃(its:LW) (n:Nat),oA xs its/\xs.9=its.9/\s.1.get? l=kx { cls:=.type "list",data:=.seq its.toArray n }:=by let#[z,its,n,r,e]:=I.hok l _ h;exact#[z,its,n,r,r.9,e]
theorem k7{n:Nat}(h:n<=kb):WI n=false:=by unfold WI;exact dF ()
end
section
variable{X:Cx}
def tL:V->LV->Hp->VK->Prop:=λx z H Q=>∃l h y,x=.ref l/\z=[y]/\H l=kx (.lst h)/\h.9<kb/\Q .non (CA H l (.lst (h++[y])))
theorem L1:Dt X "list.append" tL:=by intro k s i H x m v o Q I b f h;let#[l,j,y,rfl,rfl,a,p,q]:=h;cases b;let#[u,rfl,g]:=f.one;let#[z,w,n,r,hl,e]:=I.lstM a;refine WZ F.slot_list_append #[_,e,rfl] F.entry_list_append (F.args_list_append_2 _ _) (PySem.list_append l w.toArray n u (by rw[QO];omega)) #[e,?_];refine#[.non,_,I.lset (its':=w++[u]) a e (by simp) (r.append (.cons g .nil)) ?_,rfl,q];rw[QI,Qi];omega
def Ra:V->LV->Hp->VK->Prop:=λx z H Q=>∃l b y h,x=.ref l/\z=[.ref b]/\H l=kx (.lst y)/\H b=kx (.lst h)/\y.9+h.9<=kb/\Q .non (CA H l (.lst (y++h)))
theorem G1:Dt X "list.extend" Ra:=by
 intro f s K H x E v G Q I i j h;let#[l,b,C,A,rfl,rfl,g,Z,J,q]:=h;cases i;let#[u,rfl,m]:=j.one;cases m;let#[z,w,n,r,hl,e]:=I.lstM g;let#[B,y,p,o,Y,W]:=I.lstM Z;have a:w.toArray.size+y.toArray.size<=sizeLine:=by rw[QO,QO];omega
 have k:¬ (!w.toArray.isEmpty&&WI (w.toArray.size+y.toArray.size))=true:=by rw[k7 a,QBF];exact QD
 refine WZ F.slot_list_extend #[_,e,rfl] F.entry_list_extend (F.args_list_extend_2 _ _)
  (AutoSeq1.list_extend_list_list_0 l w.toArray n b y.toArray p k (by rw[QO];omega) ()) #[e,W,?_]
 refine#[.non,_,I.lset (its':=w++y) g e (by simp) (r.append o) ?_,rfl,q];rw[QI];omega
def uv:V->LV->Hp->VK->Prop:=λx z H Q=>∃l h y,x=.ref l/\z=[]/\H l=kx (.lst h)/\h[h.9 - 1]?=kx y/\Q y (CA H l (.lst h.dropLast))
theorem uk:Dt X "list.pop" uv:=by
 intro b s p H x Z v W Q I g i h;let#[l,Y,y,rfl,rfl,f,m,q]:=h;cases g;have a:=i.zero;subst a;let#[z,w,n,r,hl,e]:=I.lstM f;let#[u,o,j]:=r.get m;have k:w.toArray[w.toArray.size - 1]?=kx u:=by show w.toArray[w.9 - 1]?=kx u;rw[<- wq,<- hl];exact o
 refine WZ QCM #[_,e,rfl] QCF (F.args_list_pop_1 _) (MeetsSeq.list_pop_last l w.toArray n u k (by rw[QO];omega)) #[e,?_];refine#[y,_,I.lset (its':=w.dropLast) f e ?_ r.dropLast ?_,j,q];show w.toArray.eraseIdxIfInBounds (w.toArray.size - 1)=w.dropLast.toArray;rw[QO,Wa,cX];rw[List.length_dropLast];omega
def Ni:V->LV->Hp->VK->Prop:=λx z H Q=>∃l h i k y,x=.ref l/\z=[.int i]/\H l=kx (.lst h)/\-(2 ^ 63)<=i/\i<2 ^ 63/\seqIndex? i h.9=kx k/\h[k]?=kx y/\Q y (CA H l (.lst (h.eraseIdx k)))
theorem D7:Dt X "list.pop" Ni:=by
 intro f s A H x B v C Q I m o h;let#[l,j,i,k,y,rfl,rfl,g,K,W,hk,Y,q]:=h;cases m;let#[u,rfl,p]:=o.one;let#[t,rfl]:=p;let#[z,a,n,r,hl,e]:=I.lstM g;let#[w,Z,b]:=r.get Y;refine WZ QCM #[_,e,rfl] QCF (F.args_list_pop_2 _ _)
  (MeetsSeq.list_pop_at l a.toArray n i t k w (fitsIndex_both K W) (by rw[QO,<- hl];exact hk) (by rw[<- wq];exact Z) (by rw[QO];omega)) #[e,?_]
 refine#[y,_,I.lset (its':=a.eraseIdx k) g e ?_ (r.eraseIdx k) ?_,b,q];show a.toArray.eraseIdxIfInBounds k=(a.eraseIdx k).toArray;rw[Wa];have:=pP j k;omega
end
end L2
namespace Att
open PySem PySem.W PySem.Calls PyProof.Rows
theorem kL{P:Params}{h:x0}:∀(ns:LJ) (vs:LW),WellAll P h vs (ns.map WData.int)->ro vs ns:=by
 intro ns;induction ns with
 |nil=>intro vs w;rw[wV]at w;cases w;exact .nil|cons n ns x =>
  intro vs w;rw[QT]at w;cases w with|cons a b=>cases a;exact .cons _ _ (x _ b)
theorem script_of{l:OpenLaw}{n:Nat}(j:l.most=kx n){P:Params}{h:x0}{args:List WData}{x:LW}
  (y:l.row.toRowW.claim.pre args=kf) (k:WellAll P h x args) :
  ∃a vs ns,x=[j2 a]/\args=[WData.list (ns.map WData.int)]/\h.get? a=kx { cls:=.type "list",data:=.seq vs.toArray }/\ro vs ns/\ns.9<=n:=by
 have b:WShape.hasAll [] args [.list .int]=true:=(pre_splitW y).1;have hc:l.pre.holds [] { args:=args }=true:=(pre_splitW y).2;let#[d,r,rfl,p,o]:=hasAllW_cons b;obtain rfl:=hasAllW_nil o;let#[s,rfl,m]:=hasW_list p;let#[ns,rfl]:=items_int m;have z:ns.9<=n:=by
  unfold OpenLaw.pre at hc;have w:(WTm.not (.lt (.lit (.int (n:Int))) (.len (.arg 0)))).holds [] { args:=[.list (ns.map .int)] }=true:=by have w:=(holds_andW hc).1;rw[j]at w;exact w
  have v:=condW_of w (w_not (w_lt w_lit (w_len_list (w_arg rfl))));rw[QC]at v;refine Nat.le_of_not_lt λq=>?_;have g:(n:Int)<((ns.9:Nat):Int):=()
  first
   | (rw[dT g]at v;exact ti v (by decide))
   | (simp at v;omega)
 cases k with
 |cons f e =>
  cases e;cases f with|list i u=>exact#[_,_,ns,rfl,rfl,i,kL ns _ u,z]
theorem post_true(l:OpenLaw)(args:List WData):l.row.toRowW.claim.post args (.bool kf) args=kf :=
 postW_of (r:=l.row.toRowW) (X:=(kf==kf))
  (show WShape.has [] (.bool kf) .bool=kf by first|rfl|decide|simp[WShape.has,WShape.arms,WShape.armsAll])
  (show(WTm.eq .res (.lit (.bool kf))).value [] { args:=args,res:=kx (.bool kf),after:=args }=kx (.bool (kf==kf)) from w_eq_bool (w_res rfl) w_lit) rfl
end Att
namespace L2
open PySem PySem.Spec PyProof.Rows
theorem LO:∀{vs:LW}{ns:LJ},ro vs ns->oA (ns.map V.int) vs
 |_,_,.nil=>.nil|_,_,.cons n t h=>.cons #[t,rfl] (LO h)
def Ks(H:Hp):Prop:=∀b,H b=kv∨(∃o h,H b=kx (.frz o (.lst h)))∨∃q,H b=kx (.tbl q)
theorem S7{P:vu}{w:x2}{K:QA}{mg mb:Str->Option kn}{CX:M9}{k:Nat}{fa a:ko}{fd:gl}{x:Str}{sp:Sp}{y:kt}{vs:LW}{ns:LJ}{T c:ko}{X:Str}(hT:∀f:x0,K.In f->∀P q,DP mg f P q->P=T/\q=X)(j:y.1.TableAt c T #[])(hKT:K.lookup T=kv)
  (KX:K.In y.1) (Q:y.1.Ns vx mg) (hb:y.1.Ns d3 mb) (hbb:∀x:Str,x≠"__name__"->mb x=H0 x) (R:y.1.NoLimit) (hg:y.gens=#[])
  (J:y.1.get? a=kx { cls:=.type "list",data:=.seq vs.toArray }) (hi:ro vs ns) (hl:ns.9<=kb) (hr:Room k ll)
  (F:∀f:x0,K.In f->f.Ns vx mg->FnOk P w K mg f CX k fa fd [x] sp) (B:∀(s:kt) (u:kn),lb s fd #[[u],[]] [(x,u)])
  (hsp:∀H:Hp,Ks H->RC K H a (ns.map V.int)->sp [.ref a] H (λv _=>v=.bl kf) λ_ _ _=>False)
  (hCX:∀H e s',CX [] H y (λ_ _ _=>False) e s'->False) :
  l0 (k4 P w) ll (.call (.ref fa) #[[.ref a],[]]) (λr s'=>r=.ok (.ret (.bool kf))/\OldK y.1 s'.1/\s'.os=y.os/\RB s'.gens) y:=by
 have rv:=LO hi;have O:=hi.9;have W:∀H:Hp,Ks H->RC K H a (ns.map V.int)->kO P w H y.1->(∀b,H b≠kv->b=a∨b=T)->(H a≠kv->K.lookup a=kv)->H T=kx (.tbl X) ->
   l0 (k4 P w) ll (.call (.ref fa) #[[.ref a],[]]) (λr s'=>r=.ok (.ret (.bool kf))/\OldK y.1 s'.1/\s'.os=y.os/\RB s'.gens) y:=by
  intro H hO hS A hA hK hP;have l:∀{b:ko}{o:Obj},y.1.get? b=kx o->H b=kv->(ZR y.1 H).get? b=kx o:=λe n=>r8 e n;have noA:∀{b:ko}{o:Obj}{L:Array dt}{M:Nat},y.1.get? b=kx o->o.data=.dict L M->H b=none:=λ{b o L M} e d=>by
   cases q:H b with|none=>rfl|some u=>rcases hA b (by rw[q];simp) with e'|e';subst e';rw[J]at e;cases e;have d':Data.seq vs.toArray _=Data.dict L M:=d;cases d';subst e';rw[j.2]at e;cases e;have d':Data.fields #[]=Data.dict L M:=d;cases d'
  have Y:∀{b:ko}{m:Str->Option kn},y.1.Ns b m->(ZR y.1 H).Ns b m:=λ{b m} #[o,L,M,e,d,r]=>#[o,L,M,l e (noA e d),d,r]
  have G:K.In (ZR y.1 H):=λb o e=>l (KX b o e) (by
   cases q:H b with|none=>rfl|some u=>rcases hA b (by rw[q];simp) with e'|e';subst e';rw[hK (by rw[q];simp)]at e;cases e;subst e';rw[hKT]at e;cases e)
  have hM:Mod K mg (ZR y.1 H):=#[G,Y Q,#[mb,Y hb,hbb],let#[mc,h1,h2]:=R;#[mc,Y h1,h2]]
  have e0:Env0 P w K mg (ZR y.1 H) ll [] y H:=#[rfl,hM,λb o e=>rc e,wW (B2 _ _),trivial,λb hb=>ti (show b∈([]:List ko) from hb) (by simp),λP q t=>(by let#[rfl,rfl]:=hT _ G P q t;exact hP),A,.of_eq hg]
  refine QB4 ((F _ G (Y Q)).run ll [] y H #[[.ref a],[]] [.ref a] [.ref a] _ _ hr e0 (B y (.ref a)) (.cons rfl .nil) (hsp H hO hS)) λr s' h=>?_;cases r with
  |error e=>exact(hCX H e s' h).elim|ok fl =>
   cases fl with
   |next=>exact Qd h|brk=>exact Qd h|cont=>exact Qd h|ret u =>
    let#[v,H',os,bare,un,Z,r',q]:=h;have q':v=.bl true:=q;subst q';obtain rfl:u=Value.bool true:=r';have nx:∀b,b∉dZ []:=λb z=>ti (show b∈([]:List ko) from z) (by simp);refine#[rfl,#[λb o e=>?_,λb o e=>un.there b o e (by simp)],os,bare];rcases hO b with z|⟨ob,xs,z⟩| ⟨tq',z⟩
    exact .inl (un.keep b o e z (nx b) (by simp));let#[S,_]:=A b _ z;let#[e2,_]:=Z b _ (un.frzs b ob _ z);rw[e]at S;cases S;exact .inl e2;have hb:b=T:=by rcases hA b (by rw[z];simp) with rfl|h;let#[ps,S,_]:=A b _ z;rw[J]at S;cases S;exact h
    subst hb;let#[ps,e2,_]:=Z b _ (un.tbls b _ z);have e0:=e.symm.trans j.2;cases e0;exact .inr (.inl #[j.isCodeTable,rfl,#[],ps,rfl,by simpa using e2])
 have aT:a≠T:=λz=>by have e:=j.2;rw[<- z,J]at e;cases e
 have N:∀H:Hp,gB P w H y.1 T (.tbl X):=λH=>#[#[],j.2,trivial,λpos cv g=>by cases g]
 cases hk:K.lookup a with
 |some o =>
  have e:=KX a o hk;rw[J]at e;cases e;refine W (λb=>if b=T then kx (.tbl X) else kv) (λb=>?_) (.inr #[_,vs.toArray,_,hk,rfl,rfl,rfl,by rw[QO,O];exact hl,by simpa using rv]) (λb u z=>?_) (λb z=>?_) (λz=>ti (th aT) z) (tt rfl);by_cases hb:b=T
  ·exact .inr (.inr #[_,tt hb])
  exact .inl (th hb);by_cases hb:b=T
  ·have p:=(tt hb).symm.trans z
   cases p;subst hb;exact N _
  have p:=(th hb).symm.trans z;cases p;by_cases hb:b=T
  ·exact .inr hb
  exact ti (th hb) z
 |none =>
  have C:∀b,b=T->(if b=T then kx (.tbl X) else if b=a then kx (.frz { cls:=.type "list",data:=.seq vs.toArray } (.lst (ns.map V.int))) else none:Option HO)=kx (.tbl X):=λb h=>tt h;have I:∀b,b=a->(if b=T then kx (.tbl X) else if b=a then kx (.frz { cls:=.type "list",data:=.seq vs.toArray } (.lst (ns.map V.int))) else none:Option HO)=kx (.frz { cls:=.type "list",data:=.seq vs.toArray } (.lst (ns.map V.int))):=λb h=>(th (h▸aT)).trans (tt h);have E:∀b,b≠T->b≠a->(if b=T then kx (.tbl X) else if b=a then kx (.frz { cls:=.type "list",data:=.seq vs.toArray } (.lst (ns.map V.int))) else none:Option HO)=none:=λb h h2=>(th h).trans (th h2);refine W (λb=>if b=T then kx (.tbl X) else if b=a then kx (.frz { cls:=.type "list",data:=.seq vs.toArray } (.lst (ns.map V.int))) else kv) (λb=>?_) (.inl (.inr #[{ cls:=.type "list",data:=.seq vs.toArray },I a rfl])) (λb u z=>?_) (λb z=>?_) (λ_=>hk) (C T rfl);by_cases hb:b=T
  ·exact .inr (.inr #[_,C b hb])
  by_cases i:b=a
  ·exact .inr (.inl #[_,_,I b i])
  exact .inl (E b hb i);by_cases hb:b=T
  ·have p:=(C b hb).symm.trans z
   cases p;subst hb;exact N _
  by_cases i:b=a
  ·have p:=(I b i).symm.trans z
   cases p;subst i;exact#[J,by rw[QC];exact hl,vs,_,rv,J]
  have p:=(E b hb i).symm.trans z;cases p;by_cases hb:b=T
  ·exact .inr hb
  by_cases i:b=a
  ·exact .inl i
  exact ti (E b hb i) z
noncomputable def uD(s:gp):Arguments:=match s with
 | .FunctionDef _ a _ _ _ _ _ _ _ _=>a|_=>{ posonlyargs:=[],args:=[],vararg:=kv,kwonlyargs:=[],kw_defaults:=[],kwarg:=kv,defaults:=[] }
noncomputable def JC(s:gp):List Stmt:=match s with
 | .FunctionDef _ _ b _ _ _ _ _ _ _=>b|_=>[]
noncomputable def NA(s:gp):Scope:=match s with
 | .FunctionDef _ _ _ _ _ _ sc _ _ _=>sc|_=>{ kind:=.function,names:=[],isGenerator:=kd,isCoroutine:=kd }
noncomputable abbrev i4:M9:=λ_ _ _ _ _ _=>False
noncomputable abbrev E0:XK:=λ_ _ _=>False
theorem Cp{X:Cx}:NN i4 X E0:=λ_ _ _ _ _ _ _ h=>h.elim
structure Fun(K:QA)(x qual:Str)(st:gp)(f:ko)(fd:gl):Prop where
 ex:∃(oc:kn) (od:Option ko) (kV doc pm:kn) (an:Option ko) (cdv ct:kn) (osl:Array (Option kn)),
  fd=qp x qual (uD st) (JC st) (NA st) .none kV doc pm an cdv ct/\K.lookup f=kx #[oc,od,.func fd,osl]/\Wf K cdv qual=kf
 kp:wM K (.ref f)=kf
section
variable{P:vu}{w:x2}{K:QA}{mg:Str->Option kn}{base:x0}
section
variable{x y:Str}{st:gp}{f:ko}{u:gl}{z:LS}
theorem Fun.ok{N:LS}{k:Nat}{b:Sp}(F:Fun K x y st f u)(S:FnScope N z (NA st))(len:∀vs H Q E,b vs H Q E->vs.9=z.9)
  (a:∀(v:kn) (A:y1) (outer:List Env) (s:kt) (H:Hp) (vs:LV) (Q:VK) (E:XK),Room k (A.deeper (Rt y (NA st) s.1.1.size f v))->b vs H Q E ->
   ∃t,NX (gX i4 P w K mg base N y (NA st) f v A outer s H E).nox (JC st) t/\t { nx:=λ_ m=>Q .non m,rt:=Q } (gD N vs) H):FnOk P w K mg base i4 (k+1) f u z b:=by
 let#[p,o,kV,l,n,X,v,r,i,rfl,lk,g]:=F.ex;refine Tf lk g S len λA outer s H vs Q E j e=>?_;let#[t,h,q]:=a v A outer s H vs Q E j e;exact#[t,h.nox,q]
theorem Fun.binds(F:Fun K x y st f u)
  (h:∀(kV v a:kn) (b:Option ko) (k ct:kn) (us:LW),us.9=z.9->c5 (qp x y (uD st) (JC st) (NA st) .none kV v a b k ct) #[us,[]]=p7 (z.zip us)):XJ K u z []:=by
 let#[j,i,kV,v,a,b,k,ct,e,rfl,lk,g]:=F.ex;exact .all (h kV v a b k ct)
theorem ul{i:kn}{g e:Option ko}{a:Array (Option kn)}{kV v b h ct:kn}(l:K.lookup f=kx #[i,g,.func (qp x y (uD st) (JC st) (NA st) .none kV v b e h ct),a])
  (c:Wf K h y=kf) (k:wM K (.ref f)=kf):Fun K x y st f (qp x y (uD st) (JC st) (NA st) .none kV v b e h ct):=#[#[i,g,kV,v,b,e,h,ct,a,rfl,l,c],k]
end
end
def Same(H h:Hp):Prop:=∀b o,H b=kx o->h b=kx o
theorem Same.refl(H:Hp):Same H H:=λ_ _ h=>h
theorem Same.trans{H y x:Hp}(a:Same H y)(b:Same y x):Same H x:=λc o h=>b c o (a c o h)
theorem Same.free{H x:Hp}(e:Same H x){l:ko}(h:x l=Option.none):H l=Option.none:=by
 cases q:H l with|none=>rfl|some o=>rw[e l o q]at h;cases h
theorem Same.seq{K:QA}{H x:Hp}{a:ko}{xs:LV}(e:Same H x)(h:RC K H a xs):RC K x a xs:=by rcases h with(h|⟨o,h⟩)|h;exact .inl (.inl (e _ _ h));exact .inl (.inr #[o,e _ _ h]);exact .inr h
noncomputable def aO(env:Env):List (Str×fk)->List (Str×ko)->List (Str×ko)
 |[],cs=>cs|(n,k)::r,cs=>aO env r (if k==.free then(n,(env.cells.lookup n).getD 0)::cs else cs)
theorem nX{u:hZ}{env:Env}(h:∀y∈u.names,y.2=.free->∃c,env.cells.lookup y.1=kx c):Lz u env=p7 (aO env u.names []):=by
 have key:∀(l:List (Str×fk)) (v:List (Str×ko)),(∀y∈l,y.2=.free->∃c,env.cells.lookup y.1=kx c) ->
   (forIn l v λ(x:Str×fk) (r:List (Str×ko))=>(if(x.2==NameKind.free)=kf then(do let c <- cellOf env x.1;p7 (ForInStep.yield ((x.1,c)::r))) else p7 (ForInStep.yield r):Sem (ForInStep (List (Str×ko)))))=p7 (aO env l v):=by
  intro l;induction l with
  |nil=>intro v _;rfl|cons y l a =>
   intro v hl;let#[n,k]:=y;rw[Wv];by_cases hk:k=.free;subst hk;let#[c,hc]:=hl (n,.free) QF rfl;have hc:env.cells.lookup n=kx c:=hc;simp only[beq_self_eq_true,if_true,cellOf,hc,pure_bind,aO,QCG];exact a _ λz w=>hl z (QG _ w);have hb:(k==NameKind.free)=false:=by simpa using hk
   simp only[hb,Qr,if_false,pure_bind,aO];exact a _ λz w=>hl z (QG _ w)
 have e:=key u.names [] h;unfold Lz;exact(aj (· >>= p7) e).trans (pure_bind _ _)
theorem iP{env:Env}{x:Str}{c:ko}:∀(l:List (Str×fk)) (cs:List (Str×ko)),(∀y∈l,y.2=.free->∃c,env.cells.lookup y.1=kx c)->(∀c,cs.lookup x=kx c->env.cells.lookup x=kx c) ->
  (aO env l cs).lookup x=kx c->env.cells.lookup x=kx c
 |[],cs,_,hc,h=>hc c h|(n,k)::r,cs,hl,hc,h=>by
  refine iP r _ (λz a=>hl z (QG _ a)) (λd u=>?_) h;by_cases hk:k=.free;subst hk;let#[e,v]:=hl (n,.free) QF rfl;have v:env.cells.lookup n=kx e:=v;simp only[beq_self_eq_true,if_true,v,QCG,we]at u;cases w:x==n with|true=>rw[w]at u;cases u;rw[qV w];exact v|false=>rw[w]at u;exact hc d u
  have hb:(k==NameKind.free)=false:=by simpa using hk
  simp only[hb,Qr,if_false]at u;exact hc d u
theorem pN{env:Env}{x:Str}:∀(l:List (Str×fk)) (cs:List (Str×ko)),((∃c,cs.lookup x=kx c)∨(x,NameKind.free)∈l)->∃c,(aO env l cs).lookup x=kx c
 |[],cs,h=>by rcases h with h|h;exact h;cases h
 | (n,k)::r,cs,h=>by
  refine pN r _ ?_;rcases h with⟨c,h⟩| h;refine .inl ?_;split;rw[we];split;exact#[_,rfl];exact#[c,h];exact#[c,h];rcases QL.mp h with h|h
  ·cases h
   refine .inl ?_;simp
  exact .inr h
noncomputable def GB:List Bool->Nat->LS->LS
 |b::m,j,x::N=>(if b then#[(qB [46,j])] else x)::GB m (j+1) N|_,_,N=>N
noncomputable def XB:List Bool->St->St
 |b::m,v::σ=>(if b then kv else v)::XB m σ|_,σ=>σ
theorem jH:∀(m:List Bool) (σ:St),(XB m σ).9=σ.9
 |[],σ=>by unfold XB;rfl|_::_,[]=>by unfold XB;rfl|b::m,v::σ=>by unfold XB;rw[QK,QK,jH m σ]
theorem tP:∀(m:List Bool) (j:Nat) (N:LS),(GB m j N).9=N.9
 |[],_,N=>by unfold GB;rfl|_::_,_,[]=>by unfold GB;rfl|b::m,j,x::N=>by unfold GB;rw[QK,QK,tP m (j+1) N]
theorem EM:∀(m:List Bool) (j:Nat) (N:LS) (σ:St) (i:Nat) (v:V),(XB m σ)[i]?=kx (kx v)->σ[i]?=kx (kx v)/\(GB m j N)[i]?=N[i]?
 |[],_,N,σ,i,v,h=>by unfold XB at h;unfold GB;exact#[h,rfl]|_::_,_,N,[],i,v,h=>by unfold XB at h;simp at h|b::m,j,[],w::σ,i,v,h=>by
  unfold XB at h;cases i with
  |zero =>
   cases b with|true=>simp at h|false=>simp at h;subst h;exact#[by simp,by unfold GB;rfl]
  |succ i=>have q:=(EM m (j+1) [] σ i v (by simpa using h)).1;exact#[by simpa using q,by unfold GB;rfl]
 |b::m,j,x::N,w::σ,0,v,h=>by
  unfold XB at h;cases b with|true=>simp at h|false=>simp at h;subst h;exact#[by simp,by unfold GB;simp]
 |b::m,j,x::N,w::σ,i+1,v,h=>by unfold XB at h;have q:=EM m (j+1) N σ i v (by simpa using h);unfold GB;exact#[by simpa using q.1,by simpa using q.2]
noncomputable def pM(h sc:hZ):hZ :=
  { h with names:=h.names.map λ(n,k)=>if(k==.free&&sc.kind==.function&&sc.names.lookup n==kx .cell) then(n,.cell) else(n,k) }
theorem MC(sc:hZ)(x:Str):∀(l:List (Str×fk)),
  (l.map λ(n,k)=>if(k==NameKind.free&&sc.kind==.function&&sc.names.lookup n==kx .cell) then(n,NameKind.cell) else(n,k)).lookup x =
   (l.lookup x).map λk=>if(k==NameKind.free&&sc.kind==.function&&sc.names.lookup x==kx .cell) then NameKind.cell else k
 |[]=>rfl|(n,k)::r=>by
  rw[QT];have e:(if(k==NameKind.free&&sc.kind==.function&&sc.names.lookup n==kx .cell)=kf then(n,NameKind.cell) else(n,k)) =
    (n,if(k==NameKind.free&&sc.kind==.function&&sc.names.lookup n==kx .cell)=kf then NameKind.cell else k):=by split<;>rfl
  show QCN x ((if(k==NameKind.free&&sc.kind==.function&&sc.names.lookup n==kx .cell)=kf then(n,NameKind.cell) else(n,k))::_)=_;rw[e,we,we];cases h:x==n with|true=>rw[qV h];simp|false=>exact MC sc x r
structure CompSt(N:LS)(sc scope:hZ)(tgs:LS)(mask:List Bool):Prop where
 kind:scope.kind=.function
 nocell:∀y∈scope.names,y.2≠.cell
 names:∀y∈scope.names,y.2=.local->scope.names.lookup y.1=kx .local
 free:∀y∈scope.names,y.2=.free->sc.names.lookup y.1=kx .cell∨sc.names.lookup y.1=kx .free
 loc:∀y∈scope.names,y.2=.local->y.1∈tgs∨y.1=(".0":Str)
 nd:(tgs++GB mask 0 N).Nodup
 no0:(".0":Str)∉tgs++GB mask 0 N
def OA(X:Cx)(h:hZ)(x:LS)(mask:List Bool)(s:kt)(H:Hp)(ex:List ko):Cx :=
  { X with N:=x++GB mask 0 X.N,s₀:=s,H₀:=H,env:=compEnvC h (aO X.env h.names []) s.1.1.size X.env,outer:=X.stack,stack:=X.stack,ex:=ex,fn:=λ_=>kd,pn:=[],xe:=λ_ _=>False }
def HE(k:Nat)(mask:List Bool)(σ:St):St:=wE k kv++XB mask σ
section
variable{X:Cx}{f:yC}{σ:St}{H:Hp}{s:kt}{w:hZ}{d:LS}{a:List Bool}{ex:List ko}
theorem CompSt.cells(C:CompSt X.N X.env.scope w d a)(ok:X.Ok):∀y∈w.names,y.2=.free->∃c,X.env.cells.lookup y.1=kx c:=λy h x =>
 ok.has y.1 (C.free y h x)
theorem CompSt.kindCF(C:CompSt X.N X.env.scope w d a){x:Str}(h:(ej w X.env).names.lookup x=kx .cell∨(ej w X.env).names.lookup x=kx .free):(x,NameKind.free)∈w.names:=by
 have e:=MC X.env.scope x w.names;have u:(ej w X.env).names.lookup x=(w.names.lookup x).map λk=>if(k==NameKind.free&&X.env.scope.kind==.function&&X.env.scope.names.lookup x==kx .cell) then NameKind.cell else k:=e
 rw[u]at h;cases q:w.names.lookup x with
 |none=>rw[q]at h;simp at h|some k =>
  have y:=qL q;have z:=C.nocell _ y;cases k with|free=>exact y|cell=>exact ti rfl z|«local»=>rw[q]at h;simp at h|_=>rw[q]at h;simp at h
theorem hX(I:Inv X f σ H s)(C:CompSt X.N X.env.scope w d a)(n:∀b∈ex,VJ X f H b/\b<s.1.1.size){h':x0}{t':Nat}
  (hn:h'.Ns s.1.1.size (λ_=>kv)) (hs:qU s.1.1.size (s.1.push { cls:=.type "dict",data:=.dict #[] }) h') :
  Inv (OA X w d a s H ex) [] (HE d.9 a σ) H { s with heap:=h',toks:=t' }:=by
 have kept:∀b u,s.1.get? b=kx u->h'.get? b=kx u:=λb u e=>hs.extBut b u (Qk (Qa e)) (QH _ e);have look:∀x c,(aO X.env w.names []).lookup x=kx c->X.env.cells.lookup x=kx c:=λx c e=>iP w.names [] (C.cells I.ok) (λc z=>by simp at z) e;have nofs:∀b∈ex,b∉dZ X.stack:=λb hb z=>by let#[#[_,f1,f2,_],_]:=n b hb;rcases QL.mp (I.stkSub b z) with e|e;exact f1 e;exact f2 e
 refine#[#[I.ok.mod,C.kind,I.ok.glob,I.ok.blt,Qc _,λx y c E j=>I.ok.inj x y c (look x c E) (look y c j),λx hx=>?_,λx c hf _=>ti (show kd=kf from hf) QD,I.ok.hd,I.ok.frames,.inl rfl,λb hb=>?_,I.bs,QZ I.ok.bsz I.sz,λb o e hb=>?_,nofs,I.stack,I.stkFree,I.tb],
  rfl,I.bare,Un.kept kept,#[_,hn,λi x v E j h3=>?_],λx c h=>?_,I.hok.fresh (Qc _),λx c h=>I.freeC x c (look x c h),λp hp=>ti (show p∈([]:yC) from hp) (by simp),I.hok.kept kept,?_]
 exact pN w.names [] (.inr (C.kindCF hx));let#[#[_,_,_,_,f4,_],lt]:=n b hb;exact#[Qk lt,λx c e=>f4 x c (look x c e)];let#[#[_,_,_,f3,_],_]:=n b hb;rcases f3 with z|z;exact I.ok.noex b o e z;exact ti (Qn (Qa (I.ok.bs b o e).1) z) (qj _)
 ·
  have S:d.9<=i:=by rcases QAB i d.9 with z|z;unfold HE at j;rw[qI (by simpa using z),wB]at j;split at j<;>cases j;exact z
  have Z:(GB a 0 X.N)[i - d.9]?=kx x:=by have:(d++GB a 0 X.N)[i]?=kx x:=E;rw[Qv S]at this;exact this
  have O:(XB a σ)[i - d.9]?=kx (kx v):=by unfold HE at j;rw[Qv (by simpa using S)]at j;simpa using j
  let#[g1,g2]:=EM a 0 X.N σ _ v O;rw[g2]at Z;have A:x∈d++GB a 0 X.N:=Qw (show(d++GB a 0 X.N)[i]?=kx x from E);have K:x∉d:=λz=>by have nd:=C.nd;rw[qP]at nd;exact nd.2.2 x z x (Qw (by rw[g2];exact Z)) rfl
  have g:(x,NameKind.free)∈w.names:=by
   rcases h3 with z|z|z;exfalso;have e:(ej w X.env).names.lookup x=kx .local:=z;have P:=MC X.env.scope x w.names;have e3:(ej w X.env).names.lookup x=(w.names.lookup x).map λk=>if(k==NameKind.free&&X.env.scope.kind==.function&&X.env.scope.names.lookup x==kx .cell) then NameKind.cell else k:=P
   rw[e3]at e;cases q:w.names.lookup x with
   |none=>rw[q]at e;cases e|some k =>
    rw[q]at e;have L:=qL q;have G:k=.local:=by
     cases k with|«local»=>rfl|free=>simp at e;split at e<;>cases e|_=>simp at e
    subst G;rcases C.loc _ L rfl with z|z;exact K z;exact C.no0 (z▸A)
   exact C.kindCF (.inl z);exact C.kindCF (.inr z)
  let#[m,hnm,hl]:=I.loc;have F:Pr X.env.scope x:=.inr (C.free _ g rfl);let#[u,r,l]:=hl _ x v Z g1 F;refine#[u,r,?_];rcases l with⟨k,_⟩| ⟨_,c,hc,Y⟩
  exfalso;have R:X.env.scope.names.lookup x=kx .local:=k;rcases C.free _ g rfl with z|z;have W:X.env.scope.names.lookup x=kx .cell:=z;rw[R]at W;cases W;have W:X.env.scope.names.lookup x=kx .free:=z;rw[R]at W;cases W;let#[Q,B]:=pN (env:=X.env) w.names [] (.inr g);have:Q=c:=by have:=look x Q B;rw[hc]at this;exact(Qp this).symm
  subst this;refine .inr #[?_,Q,B,?_];rcases h3 with z|z|z
  ·exfalso
   have e:(ej w X.env).names.lookup x=kx .local:=z;have P:=MC X.env.scope x w.names;have e3:(ej w X.env).names.lookup x=(w.names.lookup x).map λk=>if(k==NameKind.free&&X.env.scope.kind==.function&&X.env.scope.names.lookup x==kx .cell) then NameKind.cell else k:=P
   rw[e3]at e;cases q:w.names.lookup x with
   |none=>rw[q]at e;cases e|some k =>
    rw[q]at e;have L:=qL q;have G:k=.local:=by
     cases k with|«local»=>rfl|free=>simp at e;split at e<;>cases e|_=>simp at e
    subst G;rcases C.loc _ L rfl with z|z;exact K z;exact C.no0 (z▸A)
  exact .inl z;exact .inr z;let#[o,J,M]:=Y;exact#[o,kept _ _ J,M]
 let#[v,o,J,M]:=I.cell x c (look x c h);exact#[v,o,kept _ _ J,M];show(HE d.9 a σ).9=(d++GB a 0 X.N).9;unfold HE;rw[QI,QI,qq,jH,tP,I.len]
end
section
variable{X:Cx}{h:yC}{σ a:St}{H k:Hp}{s s':kt}{x:hZ}{d:LS}{w:List Bool}{ex:List ko}{D:ko}{y:LV}{its:LW}
theorem lX(I:Inv X h σ H s)(l:∀b∈ex,VJ X h H b/\b<s.1.1.size)(W:D∈ex)(J:Inv (OA X x d w s H ex) [] a k s')(f:k D=kv)(hv:oA y its)(B:y.9<=kb)
  (hl:s'.1.PlainList D its.toArray) {g:x0}(hs:qU s.1.1.size s'.1 g):Inv X h σ (CA k D (.lst y)) { s' with heap:=g }:=by
 have un:Un (dZ X.stack) ex H k s.1 s'.heap:=J.base;have j:∀b o,s.1.get? b=kx o->b≠s.1.1.size:=λb o e=>Qk (Qa e);have C:=l D W;have Z:k s.1.1.size=none:=J.free;have M:D≠s.1.1.size:=Qk C.2;have m:∀b u,b≠s.1.1.size->s'.1.get? b=kx u->g.get? b=kx u:=λb u A e=>hs.extBut b u A e;refine I.call' (s':={ s' with heap:=g }) (ch:=ex) J.os #[λb o e n hb i=>?_,λb o e n hb i=>?_,λb o e n i=>?_,λb o e i=>?_,λb p e=>?_,λb o u e=>?_,λb r e=>?_] ?_ J.bare λb hb=>?_;exact m b o (j b o e) (un.keep b o e n hb i);let#[K,q]:=un.slot b o e n hb i;exact#[K,m b _ (j b o e) q];have q:=un.free b o e n i;rw[uA (λ(z:b=D)=>i (by rw[z];exact W))];exact q;let#[Y,q]:=un.there b o e i;exact#[Y,m b Y (j b o e) q];rw[uA (sA (un.tups b p e) f)];exact un.tups b p e;rw[uA (sA (un.frzs b o u e) f)];exact un.frzs b o u e;rw[uA (sA (un.tbls b r e) f)];exact un.tbls b r e;intro b u e;by_cases hb:b=D;subst hb;rw[iA]at e;cases e;let#[n,q]:=hl;exact#[B,its,n,hv,m _ _ M q];rw[uA hb]at e;refine(J.hok b u e).stay (λc v hc q=>m c v ?_ q) (λc q=>?_) λc p q=>?_;rintro rfl;rcases hc with z|z;subst z;rw[Z]at e;cases e;rw[Z]at z;cases z;rw[uA (sA q f)];exact q;rw[uA (sA q f)];exact q;let#[#[O,L,N,G,F,E],_]:=l b hb;exact#[G,L,F,E]
end
section
variable{X:Cx}{s:kt}{V Z K:Expr}{U:List Expr}{d:hZ}{pos:Pos}{B:TI}{g:TG}{tc:TT}{te:TE}{Y:LS}{j:List Bool}{l:yC}
def Zs(X:Cx)(U:List Expr)(t:TT):Prop:=∀(l:yC) (s:kt) (h:St) (H:Hp) (Q:Bool->Hp->Prop),Inv X l h H s->t h H Q ->
 ku (k4 X.prog X.w) X.A (forIn U kf λc r=>if r=kf then do let ok <- isTrue c X.env (hE c X.env);p7 (ForInStep.yield ok) else p7 (ForInStep.yield r)) (TP X l h Q) X.xe s
theorem iY:Zs X [] (λ_ H Q=>Q kf H):=λl s x H Q I h=>by rw[QBH];exact QM #[H,I,h]
theorem eY{c:Expr}{t:TT}(hc:PT X c t):Zs X [c] t:=λl s x H Q I h=>by rw[Wv];simp only[if_true];refine QE (QE (IB (hc l s x H Q I h) λb y q=>QM ?_));dsimp only;rw[QBH];exact QM q
theorem nH{prog:vu}{w:x2}{A:y1}{R:Result->kt->Prop}{y:Expr}{it q:kn}{env:Env}(I:Nat->kt->Prop)
  (W:∀n s,I n s->ku (k4 prog w) A (la it) (λr k=>match r with
   |none=>R (.ok .next) k|some v=>ku (k4 prog w) A (Dz y it v) (λ_ u=>ku (k4 prog w) A (Cz y env v) (λ_ f =>
     ku (k4 prog w) A (forIn U kf λc r=>if r=kf then do let ok <- isTrue c env (hE c env);p7 (ForInStep.yield ok) else p7 (ForInStep.yield r)) (λok z =>
      if ok=kf then ku (k4 prog w) A (hE V env) (λx e =>
       ku (k4 prog w) A (bb (.builtin "list.append") [q,x]) (λ_ b=>∃m,m<n/\I m b) (λ_ _=>False) e) (λ_ _=>False) z
      else ∃m,m<n/\I m z) (λ_ _=>False) f) (λ_ _=>False) u) (λ_ _=>False) k) (λ_ _=>False) s)
  (n:Nat) (h:I n s) :
  l0 (k4 prog w) A (.compLoop (.ListComp V [#[y,Z,U,0]] d pos) 0 it q env) R s:=by
 refine codeAny_loop rfl I (λn s G=>?_) n h;show ku _ A ((compTurn (.ListComp V [#[y,Z,U,0]] d pos) 0 it q env).onRaise (λx=>do noteFrame x env;theTreesLotGoes x)) _ _ s;refine wpAny_noted ?_;rw[compTurn_list];refine QE (QBe (QE (qt (W n s G) (λr k o=>?_) λ_ _ a=>a.elim)));cases r with
 |none=>exact QM o|some v =>
  refine QE (qt o (λ_ u p=>?_) λ_ _ a=>a.elim);refine QE (qt p (λ_ f F=>QE (qt F (λok z i=>?_) λ_ _ a=>a.elim)) λ_ _ a=>a.elim);cases ok with|false=>exact QM #[rfl,i]|true=>exact QE (QE (qt i (λx e E=>QE (qt E (λ_ b C=>QM (QM #[rfl,C])) λ_ _ a=>a.elim)) λ_ _ a=>a.elim))
def P4(B:TI)(g:TG)(tc:TT)(te:TE)(k:Nat)(j:List Bool):TE:=λa H Q=>B a H λJ q=>∃W:Nat->Nat->LV->St->Hp->Prop,(∃m,W 0 m [] (HE k j a) q) /\
 ∀i m h v u,W i m h v u->(J.stop i u/\h.9<=kb/\∀p,u p=kv->Q (.ref p) (CA u p (.lst h))) ∨
  (J.go i u/\∀x f,J.yld i u x f->g x v f λz o=>tc z o λb e=>if b=kf then te z e λy n=>h.9<kb/\∃w,w < m/\W (i+1) w (h++[y]) z n else ∃w,w < m/\W (i+1) w h z e)
def Ps(X:Cx)(l:yC)(H:Hp)(s:kt)(C:ko):Prop :=
 H C=kv/\C≠X.env.locals/\X.s₀.1.1.size<=C/\(∀x c,X.env.cells.lookup x=kx c->c≠C)/\(∀p∈X.pn++l,p.1≠C)/\∃m,s.1.Ns C m
theorem KU{pos':Pos}{use:Option (kn->Sem Unit)}(hc:X.calm=kf)(hi:PI X K Z B)(C:CompSt X.N X.env.scope d Y j)
  (inner:∀s H ex,PG (OA X d Y j s H ex) K g/\Zs (OA X d Y j s H ex) U tc/\PE (OA X d Y j s H ex) V te)
  (hs:∀x,hB Z X.env x=p7 x) {σ:St}{H:Hp}{Q:VK}{QQ:ZC}(I:Inv X l σ H s) (h:P4 B g tc te Y.9 j σ H Q)
  (fin:∀(D:ko) (f:Hp) (s6:kt) (F:ko),Inv X l σ f s6->Ps X l f s6 F->Q (.ref D) f->compPost (k4 X.prog X.w) X.A X.xe use QQ (.ref D) F (.ok .next) s6) :
  ku (k4 X.prog X.w) X.A (nL (.ListComp V [#[K,Z,U,0]] d pos) d X.env pos' (newList []) kd (hE Z X.env) use) QQ X.xe s:=by
 refine wpAny_comprehension_free (use:=use) rfl hs (nX (C.cells I.ok)) C.kind C.names (IB (hi l s σ H _ I h) λv s1 h1=>IB h1 λitv s2 h2=>?_);let#[it,a,tn,J,E,e,I2,T,st2,f2,W,#[m0,w0],turn]:=h2;subst e;refine qJ ?_;have I3:Inv X l σ E { s2 with heap:=s2.1.push { cls:=.type "list",data:=.seq ([]:LW).toArray } }:=I2.kept (t':=s2.toks) λb o e=>QH _ e;generalize hS:({ s2 with heap:=s2.1.push { cls:=.type "list",data:=.seq ([]:LW).toArray } }:kt)=s3 at I3;have sz3:s3.1.1.size=s2.1.1.size+1:=by rw[<- hS];exact QAH ..
 have lst3:s3.1.PlainList s2.1.1.size ([]:LW).toArray:=#[0,by rw[<- hS];exact QV _ rfl]
 have old3:∀b o,s2.1.get? b=kx o->s3.1.get? b=kx o:=λb o e=>by rw[<- hS];exact QH _ e
 generalize hDd:s2.1.1.size=D at sz3 lst3;have fD:VJ X l E D:=by rw[<- hDd];exact I2.fpOk (Qc _) (I2.hok.fresh (Qc _))
 have fpl:∀b∈a,b<D:=λb hb=>by let#[o,e,_]:=T.obj _ _ st2 b hb;rw[<- hDd];exact Qa e
 have hex:∀b∈D::a,VJ X l E b/\b<s3.1.1.size:=λb hb=>by rcases QL.mp hb with z|z;subst z;exact#[fD,by rw[sz3];exact Nat.lt_succ_self _];exact#[f2 b z,by rw[sz3];exact wv (fpl b z)]
 refine QA8 C.nocell (by intro y hy;simp at hy) (λh' hn hsb=>?_) C.kind;have J0:Inv (OA X d Y j s3 E (D::a)) [] (HE Y.9 j σ) E { s3 with heap:=h',toks:=s3.toks+([]:List (Str×kn)).9 }:=hX I3 C hex hn hsb;have kept:∀b u,s3.1.get? b=kx u->h'.get? b=kx u:=λb u e=>hsb.extBut b u (Qk (Qa e)) (QH _ e);let#[pg,pf,pl]:=inner s3 E (D::a);have loop:∀s4:kt,s4={ s3 with heap:=h',toks:=s3.toks+([]:List (Str×kn)).9 } ->
   l0 (k4 X.prog X.w) X.A (.compLoop (.ListComp V [#[K,Z,U,0]] d pos) 0 (.ref it) (.ref D) (compEnvC d (aO X.env d.names []) s3.1.1.size X.env))
    (compPost (k4 X.prog X.w) X.A X.xe use QQ (.ref D) s3.1.1.size) s4:=by
  rintro s4 rfl;have exok:∀{f:Hp},(∀b∈D::a,f b=kv)->∀(pp:yC),(∀p∈pp,p.1∉a)->∀b∈a,VJ (OA X d Y j s3 E (D::a)) pp f b:=λ{f} hn pp hpp b hb=>by have g:=J0.ok.exf b (QG _ hb);exact#[hn b (QG _ hb),g.1,J0.ok.exfs b (QG _ hb),.inl (QG _ hb),g.2,λp G z=>hpp p (by simpa[OA]using G) (z▸hb)]
  have DX:=J0.ok.exf D QF;have Dfp:D∉a:=λz=>qj _ (fpl D z);refine nH (λn M=>∃i m f L k,Inv (OA X d Y j s3 E (D::a)) [] m f M/\tn i M.1/\(∀b∈D::a,f b=kv)/\oA L k/\M.1.PlainList D k.toArray/\W i n L m f) ?_ m0
   #[0,_,E,[],[],J0,T.keep _ _ _ (T.keep _ _ _ st2 λb hb o e=>old3 b o e) λb hb o e=>kept b o e,λb hb=>((hex b hb).1).1,.nil,lst3.at λo e=>kept _ _ e,w0]
  rintro n s5 ⟨i,P,H5,L,k,I5,st5,fr5,va5,ls5,w5⟩;let#[R,lo]:=id ls5;have pinD:∀{m:St}{f:Hp}{M:kt},Inv (OA X d Y j s3 E (D::a)) [] m f M->(∀b∈D::a,f b=kv)->M.1.get? D=kx { cls:=.type "list",dict:=kv,data:=.seq k.toArray R } ->
    Inv (OA X d Y j s3 E (D::a)) [(D,{ cls:=.type "list",dict:=kv,data:=.seq k.toArray R })] m f M:=λ{m f M} I' fr' e' =>
   I'.pins_of λp G=>by
    have e:p=(D,{ cls:=.type "list",dict:=kv,data:=.seq k.toArray R }):=by simpa using G
    subst e;exact#[e',fr' D QF,DX.1,J0.ok.exfs D QF,λv z=>by cases z]
  have S:∀p∈[(D,({ cls:=.type "list",dict:=kv,data:=.seq k.toArray R }:Obj))],p.1∉a:=λp G=>by
   have e:p=(D,{ cls:=.type "list",dict:=kv,data:=.seq k.toArray R }):=by simpa using G
   subst e;exact Dfp
  have I5':=pinD I5 fr5 lo;rcases turn i n L P H5 w5 with⟨stop,hz,qn⟩| ⟨go,step⟩
  refine IB (T.done (OA X d Y j s3 E (D::a)) rfl rfl rfl hc i _ s5 P H5 (λ_ _=>False) I5' (exok fr5 _ S) st5 stop) λr s6 #[hr,I6]=>?_;subst hr;let#[m6,hn6,_]:=I6.loc;have l6:s6.1.PlainList D k.toArray:=#[R,(I6.pin _ (QW _ (QJ.mpr rfl))).1]
  have I6':Inv (OA X d Y j s3 E (D::a)) [] P H5 s6:=I6.pins_of λp G=>by simp at G
  have Iout:Inv X l σ (CA H5 D (.lst L)) s6:=lX I3 hex QF I6' (fr5 D QF) va5 hz l6 (qU.refl _ _);have lC:H5 s3.1.1.size=none:=I6'.free;refine fin D _ s6 s3.1.1.size Iout #[?_,wk I3.lt,I3.sz,λx c e z=>?_,λp G z=>?_,m6,hn6] (qn D (fr5 D QF));rw[uA (λ(z:s3.1.1.size=D)=>ti (hex D QF).2 (by rw[z];exact qj _))];exact lC;let#[v,q]:=I3.cell x c e;exact ti q.lt (by rw[z];exact qj _);exact ti (Qa (I3.pin p G).1) (by rw[z];exact qj _);refine IB (T.item (OA X d Y j s3 E (D::a)) rfl rfl rfl hc i _ s5 P H5 (λ_ _=>False) I5' (exok fr5 _ S) st5 go) λr s6 #[u,hr,h6]=>?_;subst hr;refine IB h6 λ_ s7 #[x,H7,I7,r7,y7,st7,fr7]=>?_;have hD7:=(I7.pin _ (QW _ (QJ.mpr rfl)))
  have fr7':∀b∈D::a,H7 b=none:=λb hb=>by rcases QL.mp hb with z|z;subst z;exact hD7.2.1;exact fr7 b z
  have I7':=I7.pinned (exok fr7' _ S) (T.obj _ _ st7);have bk:∀{m:St}{f:Hp}{M:kt},Inv (OA X d Y j s3 E (D::a)) ([(D,{ cls:=.type "list",dict:=kv,data:=.seq k.toArray R })]++CM a s7.1) m f M ->
    M.1.get? D=kx { cls:=.type "list",dict:=kv,data:=.seq k.toArray R }/\tn (i+1) M.1/\(∀b∈D::a,f b=kv):=λ{m f M} I'=>by
   have hD:=I'.pin (D,{ cls:=.type "list",dict:=kv,data:=.seq k.toArray R }) (QW _ (Ql _ (QJ.mpr rfl)));refine#[hD.1,T.keep _ _ _ st7 λb hb o e=>(I'.pin (b,o) (QW _ (QW _ (bF hb e)))).1,λb hb=>?_];rcases QL.mp hb with z|z;subst z;exact hD.2.1;let#[o,e,_]:=T.obj _ _ st7 b z;exact(I'.pin (b,o) (QW _ (QW _ (bF z e)))).2.1
  refine IB (pg _ s7 P H7 x u _ I7' r7 (step x H7 y7)) λ_ s8 #[O,H8,I8,q8]=>?_;refine IB (pf _ s8 O H8 _ I8 q8) λok s9 #[H9,I9,q9]=>?_;cases ok with
  |false=>let#[m',hm,w']:=q9;let#[b1,b2,b3]:=bk I9;exact#[m',hm,i+1,O,H9,L,k,I9.pins_of λp G=>by simp at G,b2,b3,va5,#[R,b1],w']|true =>
   refine IB (pl _ s9 O H9 _ I9 q9) λy s10 #[yv,H10,I10,r10,hz,m',hm,w']=>?_;let#[b1,b2,b3]:=bk I10;have hlen:=va5.9;refine wpAny_list_append_plain (hsz:=by rw[QO];omega) (show s10.1.PlainList D k.toArray from#[R,b1]) λh11 hl11 hs11=>?_;refine#[m',hm,i+1,O,H10,L++[yv],k++[y],?_,T.keep _ _ _ b2 λb hb o e=>(hs11.2 b (λz=>Dfp (z▸hb))).trans e,b3,va5.append (.cons r10 .nil),by simpa using hl11,w'];have I10':Inv (OA X d Y j s3 E (D::a)) [] O H10 s10:=I10.pins_of λp G=>by simp at G
   exact I10'.turned (t':=s10.toks) (λb o hb e=>(hs11.2 b hb).trans e) (b3 D QF) DX.1 (.inl QF) DX.2 λp G=>by simp[OA]at G
 refine codeAny_compStart_list (loop _ rfl) (T.self X.A 0 _ _ _ (T.keep _ _ _ (T.keep _ _ _ st2 λb hb o e=>old3 b o e) λb hb o e=>kept b o e) (loop _ rfl))
theorem bN{σ:St}{H:Hp}{F:ko}(I:Inv X l σ H s)(f:Ps X l H s F){h':x0}(hs:qU F s.1 h'):Inv X l σ H { s with heap:=h' }:=by let#[u,z,y,x,h,_]:=f;exact I.turned (t':=s.toks) (λb o hb e=>(hs.2 b hb).trans e) u z (.inr y) x h
theorem Yb(hc:X.calm=kf)(v:PI X K Z B)(C:CompSt X.N X.env.scope d Y j)
  (y:∀s H ex,PG (OA X d Y j s H ex) K g/\Zs (OA X d Y j s H ex) U tc/\PE (OA X d Y j s H ex) V te)
  (hs:∀x,hB Z X.env x=p7 x:=by intro _;rfl):PE X (.ListComp V [#[K,Z,U,0]] d pos) (P4 B g tc te Y.9 j):=by
 intro l s a H Q I h;rw[eval_ListComp];refine KU hc v C y hs I h λD k b F w f q=>?_;let#[m,u]:=f.2.2.2.2.2;exact#[m,u,λe z=>#[.ref D,k,bN w f z,rfl,q]]
theorem Ea{cpos u:Pos}{i:Nat}{x:Str}(hc:X.calm=kf)(R:X.N.Nodup)(n:X.N[i]?=kx x)(p:X.env.scope.names.lookup x=kx .local)
  (P:PI X K Z B) (C:CompSt X.N X.env.scope d Y j)
  (y:∀s H ex,PG (OA X d Y j s H ex) K g/\Zs (OA X d Y j s H ex) U tc/\PE (OA X d Y j s H ex) V te)
  (hs:∀x,hB Z X.env x=p7 x) (k:dv (.ListComp V [#[K,Z,U,0]] d cpos) (kx (.Name x u)) pos.line X.env=p7 kf) :
  PS X (.Assign [.Name x u] (.ListComp V [#[K,Z,U,0]] d cpos) pos) (ji (P4 B g tc te Y.9 j) (uZ i)):=by
 intro l s σ H D0 I h;rw[exec_Assign_Name_used _ _ _ _ k];refine QE (QBe (QE ?_));show ku _ X.A (do let _ <- nL (.ListComp V [#[K,Z,U,0]] d cpos) d X.env _ (newList []) kd (hE Z X.env) (kx (Cz (.Name x u) X.env))) _ _ s;refine QE (qt (KU (use:=kx (Cz (.Name x u) X.env)) (QQ:=λ_ o=>SP X l D0 .next o) hc P C y hs I h λD H' J F I6 f q=>?_) (λ_ o M=>QM (QM M)) λ_ _ e=>e);show ku _ X.A (Cz (.Name x u) X.env (.ref D)) _ _ J;refine QBp (MO I6 R n (.inl p) (v:=.ref D) rfl (λG I7 #[a,E,Q]=>?_) (.inr p));let#[f0,W,f2,r,S,m,O]:=f;have L:F≠a:=by rcases Q with z|z;rw[z];exact W;exact λe=>r x a z e.symm
 have w:G.1.Ns F m:=O.sameBut E L;exact#[m,w,λh' b=>#[_,H',bN I7 #[f0,W,f2,r,S,m,w] b,q]]
end
end L2
namespace L2.L3
open PySem PySem.Spec PyProof.Rows
def Yp(K:QA):R2:=λx y H Q=>match x,y with
 | .int i,.int j=>Q (.int (i+j)) H|.str a,.str b=>a.9+b.9<=kb/\Q (.str (a++b)) H|.ref a,.ref b=>(∃z h,RC K H a z/\RC K H b h/\z.9+h.9<=kb/\∀p,H p=kv->Q (.ref p) (CA H p (.lst (z++h))))∨jf K (.ref a) (.ref b) H Q|_,_=>False
noncomputable def Ao:R2:=λx y H Q=>match x,y with
 | .int i,.int j=>Q (.int (i - j)) H|_,_=>False
def Li(x:Str)(n:Int):Str:=Txt.mul x n
noncomputable def jp(K:QA):R2:=λx y H Q=>match x,y with
 | .int i,.int j=>lv i j/\Q (.int (i * j)) H|.str a,.int k=>(-(2 ^ 31)<=k/\k<2 ^ 31/\a.9 * k.toNat<=kb)/\Q (.str (Li a k)) H|_,_=>False
noncomputable def Ee:R2:=λx y H Q=>match x,y with
 | .int i,.int j=>(0<j/\j<2 ^ 200)/\Q (.int (i / j)) H|_,_=>False
noncomputable def yp:R2:=λx y H Q=>match x,y with
 | .int i,.int j=>0<j/\Q (.int (i % j)) H|_,_=>False
noncomputable def vv:R2:=λx y H Q=>match x,y with
 | .int i,.int j=>Es i j/\Q (.int (i ^ j.toNat)) H|_,_=>False
section
variable{X:Cx}
theorem op_add:sE X (g6 .Add) (Yp X.K):=by
 intro z s g H x y v u Q I f e h;cases x with
 |int i =>
  cases y with|int j=>exact _root_.L2.op_add z s g H _ _ v u Q I f e #[i,j,rfl,rfl,h]|_=>exact Qd h
 |str a =>
  cases y with|str b=>exact bW z s g H _ _ v u Q I f e #[a,b,rfl,rfl,h.1,h.2]|_=>exact Qd h
 |ref a =>
  cases y with
  |ref b =>
   rcases h with⟨xs,ys,N,M,hz,q⟩| h;cases f;cases e;let#[k,r,#[#[S,R,A,G],L,W,E,d1,p],z1]:=I.list N;let#[w,Y,#[#[B,m,n,l],J,Z,C,d2,o],z2]:=I.list M;simp only at E p C o;subst E p C o;have hl:=r.9;have O:=Y.9;refine QB5 #[_,W,rfl] #[_,Z,rfl] noFill_list_add seq_list_add PySem.F.slot_list_add PySem.F.entry_list_add (PySem.F.args_list_add_2 _ _) (list_addW a b k.toArray w.toArray L J R m G l (by simp;omega)) #[W,Z,?_];have P:k.toArray++w.toArray=(k++w).toArray:=by simp
   rw[P];exact#[.ref _,_,I.lnew (t':=s.toks) (r.append Y) (by rw[QI];omega),rfl,q _ I.fresh];exact Fb z s g H _ _ v u Q I f e h
  |_=>exact Qd h
 |_=>exact Qd h
theorem op_sub:sE X (g6 .Sub) Ao:=by
 intro z s w H x y v u Q I a k h;cases x with
 |int i =>
  cases y with|int j=>exact _root_.L2.op_sub z s w H _ _ v u Q I a k #[i,j,rfl,rfl,h]|_=>exact Qd h
 |_=>exact Qd h
theorem Db:sE X (g6 .FloorDiv) Ee:=by
 intro z s a H x y v u Q I k w h;cases x with
 |int i =>
  cases y with
  |int j =>
   let#[t,rfl]:=k;let#[b,rfl]:=w;let#[#[f,e],q]:=h;refine floordiv_int () ?_ (.inl (PyProof.noPylong_of_log2 ?_));rw[Int.fdiv_eq_ediv_of_nonneg i ()];exact#[.int _,H,I.tok _,#[_,rfl],q];have:j.natAbs<2 ^ 200:=()
   have:=(Nat.log2_lt (show j.natAbs≠0 by omega)).mpr this;omega
  |_=>exact Qd h
 |_=>exact Qd h
theorem op_mod:sE X (g6 .Mod) yp:=by
 intro z s w H x y v u Q I a k h;cases x with
 |int i =>
  cases y with|int j=>exact _root_.L2.op_mod z s w H _ _ v u Q I a k #[i,j,rfl,rfl,h.1,h.2]|_=>exact Qd h
 |_=>exact Qd h
theorem op_pow:sE X (g6 .Pow) vv:=by
 intro z s w H x y v u Q I a k h;cases x with
 |int i =>
  cases y with|int j=>exact _root_.L2.op_pow z s w H _ _ v u Q I a k #[i,j,rfl,rfl,h.1,h.2]|_=>exact Qd h
 |_=>exact Qd h
theorem mj:sE X (g6 .Mult) (jp X.K):=by
 intro g s n H x y v u Q I f w h;cases x with
 |int i =>
  cases y with|int j=>let#[t,rfl]:=f;let#[z,rfl]:=w;exact mul_int #[.int _,H,I.tok _,#[_,rfl],h.2] h.1|_=>exact Qd h
 |str a =>
  cases y with
  |int k =>
   let#[t,rfl]:=f;let#[z,rfl]:=w;let#[#[Y,r,p],q]:=h;refine SB.mul #[?_,λ_ _=>?_,λ_ _=>?_] λz o=>#[.str (Li a k),H,I.tok _,#[_,rfl],q]
   have m:decide (k < -(2 ^ 63:Int))=false:=dF ();have l:decide (k ≥ 2 ^ 63)=false:=dF ();rw[m,l];rfl;have e:(a.9:Int) * k=((a.9 * k.toNat:Nat):Int):=by rw[Int.natCast_mul,Int.toNat_of_nonneg ()]
   have:=Int.le_ediv_of_mul_le (a:=(a.9:Int)) (b:=2 ^ 63 - 1) (c:=k) () (by rw[e];omega);omega;unfold Builtin.Str.tooLong;exact dF ()
  |_=>exact Qd h
 |_=>exact Qd h
end
end L2.L3
namespace L2
open PySem PySem.Spec PyProof.Rows
section
variable{x:Type}[DecidableEq x]
section
variable{p:x×V}{r kvs:List (x×V)}{vs:List (x×kn)}{u:kn}
noncomputable def AL(kvs:List (x×V))(k:x):Option V:=(kvs.find? λh=>decide (h.1=k)).map (·.2)
noncomputable def vW(kvs:List (x×V))(k:x)(v:V):List (x×V) :=
 if(kvs.any λh=>decide (h.1=k))=kf then kvs.map (λh=>if h.1=k then(h.1,v) else h) else kvs++[(k,v)]
theorem SL{k:x}(e:p.1=k):AL (p::r) k=kx p.2:=by simp[AL,wH,e]
theorem TL{k:x}(e:¬ p.1=k):AL (p::r) k=AL r k:=by simp[AL,wH,e]
theorem KS(k:x):∀kvs:List (x×V),(kvs.any λh=>decide (h.1=k))=(AL kvs k).isSome
 |[]=>rfl|p::r=>by rw[wu];by_cases e:p.1=k;simp only[SL e,dT e,QB3,Option.isSome_some];rw[TL e,dF e,QAZ];exact KS k r
theorem AT(kvs:List (x×V))(k:x)(v:V):(vW kvs k v).9<=kvs.9+1:=by unfold vW;split;rw[QC];omega;rw[QI,QK,qK];omega
theorem MX.isSome_eq{o:Option V}{u:Option kn}(r:MX o u):o.isSome=u.isSome:=by
 cases o with
 |none=>cases u with|none=>rfl|some _=>exact(show False from r).elim
 |some _=>cases u with|none=>exact(show False from r).elim|some _=>rfl
theorem KV.val(r:KV kvs vs)(k:x):MX (AL kvs k) (eH vs k):=by
 unfold KV at r;induction r with
 |nil=>exact True.intro|@cons p q g y h t a =>
  let#[w,f]:=h;by_cases e:p.1=k;have v:q.1=k:=w.symm.trans e;have b:eH (q::y) k=kx q.2:=by simp[eH,wH,v]
  rw[SL e,b];exact f;have v:¬ q.1=k:=λz=>e (w.trans z);have b:eH (q::y) k=eH y k:=by simp[eH,wH,v]
  rw[TL e,b];exact a
theorem KV.any(r:KV kvs vs)(k:x):(kvs.any λy=>decide (y.1=k))=vs.any λy=>decide (y.1=k):=by
 unfold KV at r;induction r with|nil=>rfl|cons h t z=>rw[wu,wu,z,h.1]
theorem KV.repl(r:KV kvs vs)(k:x){y:V}(a:ZA y u) :
  KV (kvs.map λv=>if v.1=k then(v.1,y) else v) (vs.map λv=>if v.1=k then(v.1,u) else v):=by
 unfold KV at r ⊢;induction r with|nil=>exact .nil|@cons p q i g h t b=>rw[QT,QT];refine .cons ?_ b;let#[w,f]:=h;by_cases e:p.1=k;rw[tt e,tt (w.symm.trans e)];exact#[w,a];rw[th e,th (λz=>e (w.trans z))];exact#[w,f]
theorem KV.put(r:KV kvs vs)(k:x){y:V}(h:ZA y u):KV (vW kvs k y) (stored vs k u):=by unfold vW stored;rw[r.any k];by_cases e:(vs.any λz=>decide (z.1=k))=kf;rw[tt e,tt e];exact r.repl k h;rw[th e,th e];exact Paired.snoc r #[rfl,h]
theorem KV.length(r:KV kvs vs):kvs.9=vs.length:=qC r
end
end
theorem kN{P:vu}{w:x2}{k:Key}{u:kn}(r:ZA (kV k) u):(TD P w).is k u=true:=by
 cases k with|inl i=>let#[t,e]:=(show ∃t,u=Value.int i t from r);subst e;exact CT P w i t|inr x=>let#[t,e]:=(show ∃t,u=Value.str x t from r);subst e;exact UT P w x t
end L2
namespace L2.L3
open PySem PySem.Spec PyProof.Rows
section
variable{r kvs:List KE}{xs:List (NK×ko×kn)}
noncomputable abbrev KE:=NK×ko×V
noncomputable def dH(kvs:List KE)(k:NK):Option V:=(kvs.find? λp=>decide (p.1=k)).map (·.2.2)
def sM(kvs:List KE)(k:NK)(b:ko)(v:V):List KE :=
 if(dH kvs k).isSome=kf then kvs.map (λp=>if p.1=k then(p.1,p.2.1,v) else p) else kvs++[(k,b,v)]
noncomputable abbrev KD:List KE->List (NK×ko×kn)->Prop:=yn λ(p:NK×ko×V) (q:NK×ko×kn)=>p.1=q.1/\p.2.1=q.2.1/\ZA p.2.2 q.2.2
theorem VS{p:KE}{k:NK}(e:p.1=k):dH (p::r) k=kx p.2.2:=by simp[dH,wH,e]
theorem XS{p:KE}{k:NK}(e:¬ p.1=k):dH (p::r) k=dH r k:=by simp[dH,wH,e]
theorem KD.val(r:KD kvs xs)(k:NK):MX (dH kvs k) ((Bz xs k).map (·.2)):=by
 induction r with
 |nil=>exact True.intro|@cons p q a x h t v =>
  let#[u,_,w]:=h;by_cases e:p.1=k;have y:q.1=k:=u.symm.trans e;have b:Bz (q::x) k=kx q.2:=by simp[Bz,wH,y]
  rw[VS e,b];exact w;have y:¬ q.1=k:=λz=>e (u.trans z);have b:Bz (q::x) k=Bz x k:=by simp[Bz,wH,y]
  rw[XS e,b];exact v
theorem KD.put(r:KD kvs xs)(k:NK)(b:ko){y:V}{u:kn}(v:ZA y u):KD (sM kvs k b y) (pL xs k b u):=by
 have e:(dH kvs k).isSome=(Bz xs k).isSome:=by rw[(r.val k).isSome_eq,QAS]
 unfold sM pL;rw[e];by_cases q:(Bz xs k).isSome=kf;rw[tt q,tt q];clear e q;induction r with|nil=>exact .nil|@cons p q i g h t a=>rw[QT,QT];refine .cons ?_ a;let#[x,w,f]:=h;unfold putAt;by_cases e:p.1=k;rw[tt e,tt (x.symm.trans e)];exact#[x,w,v];rw[th e,th (λz=>e (x.trans z))];exact#[x,w,f]
 rw[th q,th q];exact Paired.snoc r #[rfl,rfl,v]
theorem ET(kvs:List KE)(k:NK)(b:ko)(v:V):(sM kvs k b v).9<=kvs.9+1:=by unfold sM;split;rw[QC];omega;rw[QI,QK,qK];omega
end
mutual
def Cm(K:QA)(H:Hp):NK->V->Prop
 | .s x,v=>v=.str x|.t ks,v=>∃a h,v=.ref a/\jE K H a h/\KyVs K H ks h
def KyVs(K:QA)(H:Hp):List NK->LV->Prop
 |[],xs=>xs=[]|k::ks,xs=>∃x r,xs=x::r/\Cm K H k x/\KyVs K H ks r
end
def UO(K:QA)(H:Hp)(b:ko)(k:NK):Prop:=Cm K H k (.ref b)/\c7 k<=6
theorem MI{P:vu}{w:x2}{A:y1}(h:A.units+60<g7):(vF P w).room A.in1:=by show A.in1.units+8<g7;rw[QAi];omega
def BG(K:QA)(H:Hp)(kvs:List KE):Prop:=∀p∈kvs,UO K H p.2.1 p.1
theorem Inv.big{X:Cx}{x:yC}{σ:St}{H:Hp}{s:kt}(I:Inv X x σ H s):gV<s.1.1.size:=by have h:vx<s.1.1.size:=(I.mod.glob.keeps I.bk).lt;exact Nat.lt_trans (by decide) h
section
variable{X:Cx}{y:yC}{σ:St}{H:Hp}{s:kt}{a b:ko}
mutual
theorem Kq(I:Inv X y σ H s):∀{k:NK}{x:V}{u:kn},Cm X.K H k x->ZA x u->x4 s.1 k u
 | .s z,x,u,e,r=>by cases(show x=.str z from e);exact r|.t ks,x,u,#[a,xs,e,q,p],r=>by subst e;cases r;let#[h,v,#[o,g,f,n,w],_]:=I.tuple q;exact#[a,h.toArray,rfl,#[o,g,f,n,w],by simpa using ky_vs I p v]
theorem ky_vs(I:Inv X y σ H s):∀{ks:List NK}{xs:LV}{us:LW},KyVs X.K H ks xs->oA xs us->NKvs s.1 ks us
 |[],xs,us,e,r=>by cases(show xs=[] from e);cases r;rfl|k::ks,xs,us,#[x,r,e,p,q],rv=>by
  subst e;cases rv with|cons h t=>exact#[_,_,rfl,Kq I p h,ky_vs I q t]
end
theorem zU{k:NK}(I:Inv X pins σ H s)(h:UO X.K H b k):(vF X.prog X.w).is s.1 k b:=#[Kq I h.1 rfl,h.2]
theorem OK{ep:Nat}{kvs:List KE}(I:Inv X pins σ H s)(e:H a=kx (.dT ep kvs))(hk:BG X.K H kvs):kvs.9<=kb/\(a==gV)=kd/\∃xs,KD kvs xs/\s.1.DictOfH (vF X.prog X.w) a xs:=by
 let#[z,y,xs,r,o,l,j,i,g,k,v]:=(show gB X.prog X.w H s.1 a (.dT ep kvs) from I.hok a _ e)
 refine#[z,y,xs,r,o,l,ep,j,i,g,k,?_,v];clear k v z e;induction r with
 |nil=>intro x h;exact nomatch h
 |@cons p q n m u t b=>intro x h;rcases QL.mp h with e|h;subst e;rw[<- u.1,<- u.2.1];exact zU I (hk p QF);exact b (λp f=>hk p (QG _ f)) x h
theorem JU{kvs:List (Key×V)}(I:Inv X pins σ H s)(e:H a=kx (.dK kvs)):kvs.9<=kb/\(a==gV)=kd/\∃vs,KV kvs vs/\s.1.DictOf (TD X.prog X.w) a vs :=
 show gB X.prog X.w H s.1 a (.dK kvs) from I.hok a _ e
end
theorem P8{X:Cx}{h:yC}{σ:St}{H:Hp}{s:kt}{a:ko}{ep:Nat}(I:Inv X h σ H s)(e:H a=kx (.dT ep [])):(a==gV)=kd/\s.1.DictOf (TD X.prog X.w) a []:=by
 let#[z,y,g,r,o,f,b,k,v,u,i]:=(show gB X.prog X.w H s.1 a (.dT ep []) from I.hok a _ e)
 cases r;have x:f=#[]:=by apply WA.mp;simpa using u
 subst x;exact#[y,o,#[],ep,b,k,v,λe x=>by simp at x,.nil,Qx]
def kD:Key->Gz
 | .inl i=>.int i|.inr x=>.str x
mutual
def tD:NK->Gz
 | .s x=>.str x|.t h=>.tuple (tDs h)
def tDs:List NK->List Gz
 |[]=>[]|k::ks=>tD k::tDs ks
end
theorem k8{a b:Key}(e:kD a=kD b):a=b:=by
 cases a with
 |inl i=>cases b with|inl j=>injection e with e;rw[e]|inr y=>exact nomatch (show j0 i=jk y from e)
 |inr x=>cases b with
  |inl j=>exact nomatch (show jk x=j0 j from e)
  |inr y=>injection e with e;rw[e]
mutual
theorem MV:∀{a b:NK},tD a=tD b->a=b
 | .s x,.s y,e=>by rw[PyData.str.inj e]|.s x,.t l,e=>QBi e|.t k,.s y,e=>QBi e|.t k,.t l,e=>by rw[tDs_inj (PyData.tuple.inj e)]
theorem tDs_inj:∀{a b:List NK},tDs a=tDs b->a=b
 |[],[],_=>rfl|[],_::_,e=>(nomatch e)
 |_::_,[],e=>(nomatch e)
 |x::xs,y::ys,e=>by have e:tD x::tDs xs=tD y::tDs ys:=e;injection e with e1 e2;rw[MV e1,tDs_inj e2]
end
def mI(K:QA)(H:Hp)(b:Bool)(o:HO)(ks:List Gz)(vs:LV):Prop:=match b with
 |true=>∃x,∃h:List KE,o=.dT x h/\ks=h.map (λp=>tD p.1)/\vs=h.map (·.2.2)/\BG K H h/\(h.map (·.1)).Nodup|false=>(∃h:List (Key×V),h≠[]/\o=.dK h/\ks=h.map (λp=>kD p.1)/\vs=h.map (·.2)/\(h.map (·.1)).Nodup)∨∃x,o=.dT x []/\ks=[]/\vs=[]
theorem mI.len{K:QA}{H:Hp}{b:Bool}{o:HO}{ks:List Gz}{vs:LV}(h:mI K H b o ks vs):ks.9=vs.length:=by
 cases b with|true=>let#[y,x,_,rfl,rfl,_]:=h;simp|false=>rcases h with⟨x,_,_,rfl,rfl,_⟩| ⟨_,_,rfl,rfl⟩<;>simp
def CO(K:QA)(H:Hp)(a:ko)(y:V)(r:Option V):Prop:=match y with
 | .str z=>(∃h,H a=kx (.dK h)/\r=AL h (.inr z))∨∃x,H a=kx (.dT x [])/\r=kv|.ref b=>∃x h k,H a=kx (.dT x h)/\BG K H h/\UO K H b k/\r=dH h k|_=>False
def Am(K:QA)(H:Hp)(a:ko)(y v:V)(Q:Hp->Prop):Prop:=match y with
 | .str z=>(∃h,H a=kx (.dK h)/\h.9<kb/\Q (CA H a (.dK (vW h (.inr z) v))))∨∃u,H a=kx (.dT u [])/\Q (CA H a (.dK [(.inr z,v)]))|.ref b=>∃u h k,H a=kx (.dT u h)/\BG K H h/\UO K H b k/\h.9<kb/\∀x,Q (CA H a (.dT x (sM h k b v)))|_=>False
theorem yP{v:V}{o:Option kn}(r:MX (kx v) o):∃w,o=kx w/\ZA v w:=by
 cases o with|none=>exact(show False from r).elim|some w=>exact#[w,rfl,r]
section
variable{X:Cx}
section
variable{c:yC}{s:kt}{σ:St}{H:Hp}{a:ko}{u:kn}{o:Option V}{h':x0}{pos:Pos}
theorem Tc(P:X.A.units+66<g7):C9 X (λx y H Q=>∃a v,x=.ref a/\CO X.K H a y (kx v)/\Q v H):=by
 intro n Y c s σ H x y v u Q I J C h E;let#[a,r,rfl,g,q]:=h;cases J;cases y with
 |str z =>
  rcases g with⟨W,e,l⟩| ⟨N,e,l⟩
  rotate_left
  cases l;let#[_,M,G,f,m]:=JU I e;let#[i,B,w]:=yP (v:=r) (o:=eH G (.inr z)) (by rw[l];exact f.val _);exact qf (x:=i) m.typeIs QAI.lookup
   (wpAny_getItem_of (Q:=λr Z=>r=i/\EP X c σ Q r Z) (kN (k:=.inr z) C) m.mapOf B #[rfl,r,H,I.tok _,w,q]) E
 |ref b =>
  let#[N,W,k,e,hk,O,l]:=g;cases C;let#[_,M,F,f,m]:=OK I e hk;let#[i,B,w]:=yP (v:=r) (o:=(Bz F k).map (·.2)) (by rw[l];exact f.val _);let#[p,L,j]:=Option.map_eq_some_iff.mp B;refine qf (x:=i) m.typeIs QAI.lookup
   (wpAny_getItem_heap (Q:=λr Z=>r=i/\EP X c σ Q r Z) (MI ()) (zU I O) m L ?_) E
  exact#[j,r,H,I.tok _,by rw[j];exact w,q]
 |_=>exact Qd g
theorem yd(r:X.A.units+66<g7){y:V}{Q:VK}(I:Inv X c σ H s)(f:ZA y u)(g:CO X.K H a y o)(q:Q (.bl o.isSome) H) :
  ku (k4 X.prog X.w) X.A (xk .In u (.ref a)) (EP X c σ Q) X.xe s:=by
 cases y with
 |str z =>
  rcases g with⟨i,e,l⟩| ⟨j,e,l⟩
  rotate_left
  subst l;let#[x,v]:=P8 I e;exact wpAny_in_of (kN (k:=.inr z) f) x v.mapOf #[.bl kd,H,I.tok _,rfl,q];let#[_,x,p,h,v]:=JU I e;refine wpAny_in_of (kN (k:=.inr z) f) x v.mapOf #[.bl o.isSome,H,I.tok _,?_,q];rw[<- (h.val (.inr z)).isSome_eq,<- l];rfl
 |ref b=>let#[j,i,k,e,hk,m,l]:=g;cases f;let#[_,x,n,h,v]:=OK I e hk;refine wpAny_in_heap (MI ()) (zU I m) x v #[.bl o.isSome,H,I.tok _,?_,q];have q:=(h.val k).isSome_eq;rw[QAS]at q;rw[<- q,<- l];rfl|_=>exact Qd g
theorem nW(r:X.A.units+66<g7){y:V}{Q:VK}(I:Inv X c σ H s)(f:ZA y u)(g:CO X.K H a y o)(q:Q (.bl (!o.isSome)) H) :
  ku (k4 X.prog X.w) X.A (xk .NotIn u (.ref a)) (EP X c σ Q) X.xe s:=by
 cases y with
 |str z =>
  rcases g with⟨i,e,l⟩| ⟨j,e,l⟩
  rotate_left
  subst l;let#[x,v]:=P8 I e;exact my (kN (k:=.inr z) f) x v.mapOf #[.bl kf,H,I.tok _,rfl,q];let#[_,x,p,h,v]:=JU I e;refine my (kN (k:=.inr z) f) x v.mapOf #[.bl (!o.isSome),H,I.tok _,?_,q];rw[<- (h.val (.inr z)).isSome_eq,<- l];rfl
 |ref b=>let#[j,i,k,e,hk,m,l]:=g;cases f;let#[_,x,n,h,v]:=OK I e hk;refine wpAny_notIn_heap (MI ()) (zU I m) x v #[.bl (!o.isSome),H,I.tok _,?_,q];have q:=(h.val k).isSome_eq;rw[QAS]at q;rw[<- q,<- l];rfl|_=>exact Qd g
theorem NR{t':Nat}{ob:HO}(I:Inv X c σ H s)(h:Fn (H a))(hs:qU a s.1 h')(y:∃q,h'.get? a=kx q)(new:gB X.prog X.w (CA H a ob) h' a ob) :
  Inv X c σ (CA H a ob) { s with heap:=h',toks:=t' } :=
 I.write (x:=a) (e:=a) h (.inl rfl) (λb q hb z=>(hs.2 b hb).trans z) y new
theorem mN{t':Nat}{kvs:List KE}{xs:List (NK×ko×kn)}(I:Inv X c σ H s)(y:Fn (H a))(v:(a==gV)=kd)(z:kvs.9<=kb)(h:KD kvs xs)
  (i:h'.DictOfH (vF X.prog X.w) a xs) (hs:qU a s.1 h'):∃ep,Inv X c σ (CA H a (.dT ep kvs)) { s with heap:=h',toks:=t' }:=by
 let#[q,g,ep,x,f,e,b,_,k]:=i;exact#[ep,NR I y hs #[q,x] #[z,v,xs,h,q,g,x,f,e,b,k]]
def setD(K:QA)(o y v:V)(H:Hp)(Q:Hp->Prop):Prop:=match o with
 | .ref a=>Am K H a y v Q|_=>False
theorem SS(M:X.A.units+66<g7):fe X (setD X.K):=by
 intro c s σ H o y v J L u Q I W n m h;cases o with
 |ref a =>
  cases W;cases y with
  |str z =>
   rcases h with⟨f,e,l,q⟩| ⟨B,e,q⟩
   rotate_left
   let#[i,j]:=P8 I e;refine QBO (hsz:=Qs _) (kN (k:=.inr z) n) j λh' x g=>#[_,?_,q]
   have Y:∃q,h'.get? a=kx q:=let#[q,_,_,r,_]:=x;#[q,r]
   exact NR I (by rw[e];exact True.intro) g Y #[by simp;decide,i,_,.cons #[rfl,m] .nil,x];let#[p,i,G,w,j]:=JU I e;have hl:(vW f (.inr z) v).9<=sizeLine:=by have:=AT f (.inr z) v;omega
   refine QBO (hsz:=by rw[<- w.9];exact p) (kN (k:=.inr z) n) j λh' x g=>#[_,?_,q]
   have Y:∃q,h'.get? a=kx q:=let#[q,_,_,r,_]:=x;#[q,r]
   exact NR I (by rw[e];exact True.intro) g Y #[hl,i,_,w.put _ m,x]
  |ref b =>
   let#[B,f,k,e,hk,C,l,q]:=h;cases n;let#[p,i,F,w,j]:=OK I e hk;have hl:(sM f k b v).9<=sizeLine:=by have:=ET f k b v;omega
   refine wpAny_setItem_heap (hsz:=by rw[<- qC w];exact p) (MI ()) (zU I C) j λh' x g=>?_;let#[Z,E]:=mN (t':=_) I (by rw[e];exact True.intro) i hl (w.put k b m) x g;exact#[_,E,q Z]
  |_=>exact Qd h
 |_=>exact Qd h
theorem xg{P:vu}{w:x2}(h:x0)(hb:gV<h.1.size):gB P w H (h.push { cls:=.type "dict",data:=.dict #[] }) h.1.size (.dT 0 []) :=
 #[Qs _,beq_eq_false_iff_ne.mpr (Q8 (Qk hb)),[],.nil,_,#[],QV _ rfl,#[rfl,rfl,rfl],rfl,rfl,Qx]
theorem Jb:PE X (.Dict [] [] pos) (λ_ H Q=>∀p,H p=kv->Q (.ref p) (CA H p (.dT 0 []))):=λc s σ H Q I h =>
 wpAny_Dict_empty #[.ref s.1.1.size,_,I.laid (a:=s.1.1.size) (o:=.dT 0 []) (t':=s.toks) (λ_ _ q=>QH _ q) (Qc _) (xg s.1 (Inv.big I)),rfl,h _ (I.hok.fresh (Qc _))]
theorem gb(hu:X.A.units+66<g7){k v:Expr}{l j:TE}(hk:PE X k l)(hv:PE X v j) :
  PE X (.Dict [kx k] [v] pos) (λσ H Q=>∀p,H p=kv->l σ (CA H p (.dT 0 [])) λy i=>j σ i λv h=>h p=kx (.dT 0 [])/\∃b ks,y=.ref b/\UO X.K h b ks/\∀ep,Q (.ref p) (CA h p (.dT ep [(ks,b,v)]))):=by
 intro c s σ H Q I q;have E:=I.hok.fresh (Qc s.1.1.size);have N:=I.laid (a:=s.1.1.size) (o:=.dT 0 []) (h':=s.1.push { cls:=.type "dict",data:=.dict #[] }) (t':=s.toks) (λ_ _ q=>QH _ q) (Qc _) (xg s.1 (Inv.big I));refine wpAny_Dict_any rfl rfl (by simp) (by simp) (pairTrees_cons_walk (IB (hk c _ σ _ _ N (q _ E)) λu n #[y,i,M,Y,W]=>IB (hv c n σ i _ M W) λm R #[z,h,g,r,e,b,ks,G,J,Z]=>pairTrees_nil_walk ?_));subst G;cases Y;let#[S,F,P,x,L]:=OK g e (λp C=>nomatch C);cases x;show ku _ _ (forIn [(j2 b,m)] PUnit.unit _) _ _ _;rw[Wv];refine QE (QE (wpAny_dictSet_heap (hsz:=Qs _) (show X.A.units+8<g7 by omega) (zU g J) L λh' f B=>QM ?_));show ku _ _ (forIn ([]:List (kn×kn)) _ _) _ _ _;rw[QBH];let#[w,O]:=mN (t':=_) (kvs:=[(ks,b,z)]) g (by rw[e];exact True.intro) F (by simp;decide) (.cons #[rfl,rfl,r] .nil) f B;exact QM #[.ref _,_,O,rfl,Z w]
end
end
mutual
inductive Rep(K:QA)(H:Hp):V->Gz->Prop where
 |non:Rep K H .non .none
 |bl (b:Bool):Rep K H (.bl b) (.bool b)
 |int (i:Int):Rep K H (.int i) (.int i)
 |str (x:Str):Rep K H (.str x) (.str x)
 |lst {a:ko}{xs:LV}{ds:List Gz}:RC K H a xs->Reps K H xs ds->Rep K H (.ref a) (.list ds)
 |tup {a:ko}{xs:LV}{ds:List Gz}:jE K H a xs->Reps K H xs ds->Rep K H (.ref a) (.tuple ds)
 |dct {b:Bool}{a:ko}{o:HO}{ks:List Gz}{xs:LV}{ds:List Gz}:H a=kx o->mI K H b o ks xs->Reps K H xs ds->Rep K H (.ref a) (.dict (ks.zip ds))
inductive Reps(K:QA)(H:Hp):LV->List Gz->Prop where
 |nil:Reps K H [] []
 |cons {x:V}{d:Gz}{xs:LV}{ds:List Gz}:Rep K H x d->Reps K H xs ds->Reps K H (x::xs) (d::ds)
end
section
variable{K:QA}{H:Hp}{R:LV->List Gz->Prop}{xs:LV}{ds:List Gz}
theorem Rep.both{P:V->Gz->Prop}(z:P .non .none)(v:∀b,P (.bl b) (.bool b))(int:∀i,P (.int i) (.int i))(str:∀x,P (.str x) (.str x))
    (lst:∀{a:ko}{xs:LV}{ds:List Gz},RC K H a xs->Reps K H xs ds->R xs ds->P (.ref a) (.list ds))
    (tup:∀{a:ko}{xs:LV}{ds:List Gz},jE K H a xs->Reps K H xs ds->R xs ds->P (.ref a) (.tuple ds))
    (dct:∀{b:Bool}{a:ko}{o:HO}{ks:List Gz}{xs:LV}{ds:List Gz},H a=kx o->mI K H b o ks xs->Reps K H xs ds->R xs ds->P (.ref a) (.dict (ks.zip ds)))
    (u:R [] []) (y:∀{x:V}{d:Gz}{xs:LV}{ds:List Gz},Rep K H x d->Reps K H xs ds->P x d->R xs ds->R (x::xs) (d::ds)) :
    (∀{x:V}{d:Gz},Rep K H x d->P x d)/\∀{xs:LV}{ds:List Gz},Reps K H xs ds->R xs ds :=
  #[λh=>Rep.rec (motive_1:=λx d _=>P x d) (motive_2:=λx d _=>R x d) z v int str @lst @tup @dct u @y h,
   λh=>Reps.rec (motive_1:=λx d _=>P x d) (motive_2:=λx d _=>R x d) z v int str @lst @tup @dct u @y h]
theorem Reps.ind(z:R [] [])(y:∀{x:V}{d:Gz}{xs:LV}{ds:List Gz},Rep K H x d->R xs ds->R (x::xs) (d::ds))(h:Reps K H xs ds):R xs ds :=
 (Rep.both (P:=λ_ _=>True) trivial (λ_=>trivial) (λ_=>trivial) (λ_=>trivial) (λ_ _ _=>trivial) (λ_ _ _=>trivial) (λ_ _ _ _=>trivial) z λh _ _ r=>y h r).2 h
theorem Reps.length(h:Reps K H xs ds):xs.9=ds.length:=Reps.ind (R:=λxs ds=>xs.9=ds.9) rfl (λ_ e=>aj Nat.succ e) h
end
section
variable{X:Cx}{y:yC}{σ:St}{H:Hp}{s:kt}
mutual
theorem JT{h:x0}:∀{k:NK}{u:kn},x4 h k u->∃z,Reads h u (tD k) z
 | .s x,u,#[t,e]=>by subst e;exact#[_,.str x t]|.t ks,u,#[a,its,e,#[o,e1,c,n,d],q]=>by subst e;let#[z,v]:=nks_reads q;exact#[_,.tuple e1 c d v]
theorem nks_reads{h:x0}:∀{ks:List NK}{us:LW},NKvs h ks us->∃x,c9 h us (tDs ks) x
 |[],us,e=>by cases(show us=[] from e);exact#[_,.nil]|k::ks,us,#[v,r,e,p,q]=>by subst e;let#[x,u]:=JT p;let#[bs,z]:=nks_reads q;exact#[_,.cons u z]
end
section
variable{kvs:List (Key×V)}{xs:List (NK×ko×kn)}{vs:List (Key×kn)}
theorem N5(I:Inv X pins σ H s){kvs:List KE}(r:KD kvs xs)(hk:BG X.K H kvs):∃z,c9 s.1 (xs.map λx=>.ref x.2.1) (kvs.map λp=>tD p.1) z:=by
 induction r with|nil=>exact#[_,.nil]|@cons p x _ _ h t u=>let#[z,q]:=u λp v=>hk p (QG _ v);let#[bs,y]:=JT (zU I (hk p QF)).1;rw[h.2.1]at y;exact#[_,.cons y q]
theorem yT{P:vu}{w:x2}{es:List dt}(hk:KV kvs vs)(u:Pairs (TD P w) es vs):(∃v,c9 s.1 (es.map (·.key)) (kvs.map λp=>kD p.1) v)/\es.map (·.val)=vs.map (·.2):=by
 unfold KV at hk;induction hk generalizing es with
 |nil=>cases u;exact#[#[_,.nil],rfl]|cons h t e =>
  cases u with
  |cons a b c =>
   let#[#[v,q],k]:=e c;refine#[?_,by rw[QT,QT,k,b]];rw[QT,QT];rw[<- h.1]at a;rcases RA a with⟨i,t,z,y⟩| ⟨x,t,z,y⟩
   rw[z,y];exact#[_,.cons (.int i t) q];rw[z,y];exact#[_,.cons (.str x t) q]
theorem ga{kvs:List KE}(r:KD kvs xs):oA (kvs.map (·.2.2)) (xs.map (·.2.2)):=by
 induction r with|nil=>exact .nil|cons h _ x=>exact .cons h.2.2 x
theorem da(r:KV kvs vs):oA (kvs.map (·.2)) (vs.map (·.2)):=by
 induction r with|nil=>exact .nil|cons h _ x=>exact .cons h.2 x
theorem E2(I:Inv X pins σ H s){b:Bool}{a:ko}{o:HO}{ks:List Gz}{xs:LV}(h:H a=kx o)(q:mI X.K H b o ks xs):∃ob es ep us,s.1.get? a=kx ob/\ob.cls=.type "dict"/\ob.dict=kv/\ob.data=.dict es ep/\(a==gV)=kd /\
  (∃j,c9 s.1 (es.toList.map (·.key)) ks j)/\oA xs us/\es.toList.map (·.val)=us:=by
 cases b with
 |true=>let#[e,kvs,rfl,rfl,rfl,hk,_]:=q;let#[_,v,f,x,ob,es,ep,k,y,w,u,_]:=OK I h hk;refine#[ob,es,ep,_,k,y.1,y.2.1,w,v,?_,ga x,?_];rw[u,QU];exact N5 I x hk;rw[u,QU];rfl|false =>
  rcases q with⟨kvs,_,rfl,rfl,rfl,_⟩| ⟨e,rfl,rfl,rfl⟩
  rotate_left
  let#[_,v,f,x,ob,es,ep,k,y,w,u,_]:=OK I h λ_ z=>nomatch z;cases x;exact#[ob,es,ep,[],k,y.1,y.2.1,w,v,#[_,by rw[u];exact .nil],.nil,by rw[u];rfl];let#[_,v,vs,x,ob,es,ep,k,y,w,_,u,_]:=JU I h;let#[i,g]:=yT (s:=s) x u;exact#[ob,es,ep,_,k,y.1,y.2.1,w,v,i,da x,g]
theorem Rep.reads2(I:Inv X pins σ H s):(∀{x:V}{d:Gz},Rep X.K H x d->∀u,ZA x u->∃y,Reads s.1 u d y)/\∀{xs:LV}{ds:List Gz},Reps X.K H xs ds->∀us,oA xs us->∃y,c9 s.1 us ds y:=by
 refine Rep.both (P:=λx d=>∀u,ZA x u->∃y,Reads s.1 u d y) (R:=λxs ds=>∀us,oA xs us->∃y,c9 s.1 us ds y) (λu r=>?_) (λb u r=>?_) (λi u r=>?_) (λx u r=>?_) (λh q v u r=>?_) (λh q v u r=>?_) (λ{b a o w xs ds} h q r v u l=>?_) (λus r=>?_) λ_ _ p m us r=>?_;cases r;exact#[_,.none];cases r;exact#[_,.bool b];let#[t,rfl]:=r;exact#[_,.int i t];let#[t,rfl]:=r;exact#[_,.str x t];cases r;let#[g,k,#[o,n,e,c,_,d],_]:=I.list h;let#[y,z]:=v _ k;exact#[_,.list e c d (by simpa using z)];cases r;let#[g,k,#[o,e,c,n,d],_]:=I.tuple h;let#[y,z]:=v _ k;exact#[_,.tuple e c d (by simpa using z)];cases l;let#[ob,L,M,us,C,B,J,A,G,#[y,W],Z,Y]:=E2 I h q;let#[bs,f]:=v _ Z;have hl:w.9=ds.length:=by rw[q.len,Reps.length r]
 have F:(w.zip ds).map (λx=>x.1)=w:=WB (wW hl);have E:(w.zip ds).map (λx=>x.2)=ds:=WC (wW hl.symm);exact#[_,.dict C B A (by rw[F];exact W) (by rw[E,Y];exact f)];cases r;exact#[_,.nil];cases r with|cons r j=>let#[y,z]:=p _ r;let#[bs,f]:=m _ j;exact#[_,.cons z f]
theorem Rep.reads(I:Inv X pins σ H s){x:V}{d:Gz}{u:kn}(h:Rep X.K H x d)(r:ZA x u):∃y,Reads s.1 u d y:=(Rep.reads2 I).1 h u r
def FF(d:Gz):Prop:=d.canLay0=kf/\d.depth<=64
noncomputable def rEq(K:QA)(neg:Bool):R2:=λx y H Q=>match x,y with
 | .int i,.int j=>Q (.bl (if neg then !decide (i=j) else decide (i=j))) H|.str a,.str b=>Q (.bl (if neg then !decide (a=b) else decide (a=b))) H|.bl a,.bl b=>Q (.bl (if neg then !decide (a=b) else decide (a=b))) H|x,y=>∃z h,Rep K H x z/\Rep K H y h/\FF z/\FF h/\Q (.bl (if neg then !PyData.eqv z h else Qt z h)) H
theorem op_eq(C:X.A.units+64<g7):sE X (xk .Eq) (rEq X.K kd):=by
 intro z s g H x y v u Q I o n h;have k:(∃f e,Rep X.K H x f/\Rep X.K H y e/\FF f/\FF e/\Q (.bl (if kd=kf then !PyData.eqv f e else Qt f e)) H)->ku (k4 X.prog X.w) X.A (xk .Eq v u) (EP X z g Q) X.xe s:=by rintro⟨f,e,m,l,⟨Z,B⟩,⟨Y,W⟩,q⟩;let#[E,r]:=m.reads I o;let#[bs,p]:=l.reads I n;exact SeqAt.compareEq_reads r p Z Y () #[.bl _,H,I,rfl,q]
 have sc:Ma x y=kf->Q (.bl (decide (x=y))) H->ku (k4 X.prog X.w) X.A (xk .Eq v u) (EP X z g Q) X.xe s:=λm l=>_root_.L2.op_eq z s g H x y v u Q I o n #[m,l];cases x with
 |int i =>
  cases y with|int j=>exact sc rfl (by simpa[rEq]using h)|_=>exact k h
 |str a =>
  cases y with|str b=>exact sc rfl (by simpa[rEq]using h)|_=>exact k h
 |bl a =>
  cases y with|bl b=>exact sc rfl (by simpa[rEq]using h)|_=>exact k h
 |_=>exact k h
theorem op_ne(C:X.A.units+64<g7):sE X (xk .NotEq) (rEq X.K kf):=by
 intro z s g H x y v u Q I o n h;have k:(∃f e,Rep X.K H x f/\Rep X.K H y e/\FF f/\FF e/\Q (.bl (if kf=kf then !PyData.eqv f e else Qt f e)) H)->ku (k4 X.prog X.w) X.A (xk .NotEq v u) (EP X z g Q) X.xe s:=by rintro⟨f,e,m,l,⟨Z,B⟩,⟨Y,W⟩,q⟩;let#[E,r]:=m.reads I o;let#[bs,p]:=l.reads I n;exact SeqAt.compareNe_reads r p Z Y () #[.bl _,H,I,rfl,q]
 have sc:Ma x y=kf->Q (.bl (!decide (x=y))) H->ku (k4 X.prog X.w) X.A (xk .NotEq v u) (EP X z g Q) X.xe s:=λm l=>_root_.L2.op_ne z s g H x y v u Q I o n #[m,l];cases x with
 |int i =>
  cases y with|int j=>exact sc rfl (by simpa[rEq]using h)|_=>exact k h
 |str a =>
  cases y with|str b=>exact sc rfl (by simpa[rEq]using h)|_=>exact k h
 |bl a =>
  cases y with|bl b=>exact sc rfl (by simpa[rEq]using h)|_=>exact k h
 |_=>exact k h
noncomputable def z0(f:Int->Int->Bool):R2:=λx y H Q=>match x,y with
 | .int i,.int j=>Q (.bl (f i j)) H|_,_=>False
theorem GQ{w:fv}{f:Int->Int->Bool}(e:sE X (xk w) (Pa λi j=>.bl (f i j))):sE X (xk w) (z0 f):=by
 intro z s k H x y v u Q I b a h;cases x with
 |int i =>
  cases y with|int j=>exact e z s k H _ _ v u Q I b a #[i,j,rfl,rfl,h]|_=>exact Qd h
 |_=>exact Qd h
noncomputable def inStr(b a:Str):Bool:=match a.cps.toList with
 |[c]=>decide (c∈b.cps.toList)|_=>!(qZ b a 0 b.9 1).isEmpty
theorem dU(b a:Str):inStr b a=!(qZ b a 0 b.9 1).isEmpty:=by
 unfold inStr;split;rename_i c e;have x:a=#[(qB [c])]:=by
  let#[h]:=a;have:h=(qB [c]):=by apply WA.mp;simpa using e
  rw[this]
 rw[x];exact(StrLaws.found_one b c).symm;rfl
def kT(K:QA)(neg:Bool):R2:=λx y H Q=>match y with
 | .str b=>match x with
  | .str a=>Q (.bl (if neg then !inStr b a else inStr b a)) H|_=>False
 | .ref p=>bv K neg x (.ref p) H Q∨(∃d h,Rep K H x d/\(Rep K H (.ref p) (.list h)∨Rep K H (.ref p) (.tuple h))/\FF d/\FF (.list h)/\Q (.bl (if neg then !(h.any λy=>Qt y d) else h.any λy=>Qt y d)) H)∨(∃o,CO K H p x o/\Q (.bl (if neg then !o.isSome else o.isSome)) H)|_=>False
theorem fP{ds:List Gz}(h:FF (.list ds)):qi ds=kf/\wQ ds<=63:=by let#[x,y]:=h;simp only[QAJ]at x;simp only[QA0]at y;exact#[x,()]
theorem Gp(Y:X.A.units+66<g7):sE X (xk .In) (kT X.K kd):=by
 intro z s i H x y v u Q I e w h;cases y with
 |str b =>
  cases x with|str a=>refine V0 z s i H _ _ v u Q I e w #[a,b,rfl,rfl,?_];rw[<- dU];simpa[kT]using h|_=>exact Qd h
 |ref p =>
  rcases h with h|⟨d,Z,r,k,l,n,q⟩| ⟨o,g,q⟩
  rotate_left 2
  cases w;exact yd Y I e g q;exact U0 z s i H _ _ v u Q I e w h;let#[B,j]:=r.reads I e;let#[m,W]:=fP n;rcases k with k|k;let#[bs,f]:=k.reads I w;exact SeqAt.in_list_reads f j m l.1 () #[.bl _,H,I,rfl,q];let#[bs,f]:=k.reads I w;exact SeqAt.in_tuple_reads f j m l.1 () #[.bl _,H,I,rfl,q]
 |_=>exact Qd h
theorem Y6(Y:X.A.units+66<g7):sE X (xk .NotIn) (kT X.K kf):=by
 intro z s i H x y v u Q I e w h;cases y with
 |str b =>
  cases x with|str a=>refine HQ z s i H _ _ v u Q I e w #[a,b,rfl,rfl,?_];rw[<- dU];simpa[kT]using h|_=>exact Qd h
 |ref p =>
  rcases h with h|⟨d,Z,r,k,l,n,q⟩| ⟨o,g,q⟩
  rotate_left 2
  cases w;exact nW Y I e g q;exact LQ z s i H _ _ v u Q I e w h;let#[B,j]:=r.reads I e;let#[m,W]:=fP n;rcases k with k|k;let#[bs,f]:=k.reads I w;exact SeqAt.notIn_list_reads f j m l.1 () #[.bl _,H,I,rfl,q];let#[bs,f]:=k.reads I w;exact SeqAt.notIn_tuple_reads f j m l.1 () #[.bl _,H,I,rfl,q]
 |_=>exact Qd h
end
end
section
variable{X:Cx}
theorem AU:∀{bs:List Bool}{us:LW},oA (bs.map V.bl) us->∀(i:Nat) (v:kn),us[i]?=kx v->∃b,bs[i]?=kx b/\v=Value.bool b
 |[],_,.nil,i,v,h=>by simp at h|b::bs,_,.cons r t,0,v,h=>by simp at h;subst h;exact#[b,by simp,r]|b::bs,_,.cons r t,i+1,v,h=>by let#[c,y,x]:=AU (bs:=bs) t i v (by simpa using h);exact#[c,by simpa using y,x]
theorem y0(bs:List Bool):(Qo bs.9).any (λi=>bs.getD i kd)=bs.any id:=by
 rw[qG,wJ,wJ];constructor;rintro⟨i,x,e⟩;have h:i<bs.length:=by simpa using x
 exact#[bs[i],wf h,by simpa[QCZ,h]using e];rintro⟨b,hb,e⟩;let#[i,x,y]:=List.getElem_of_mem hb;exact#[i,by simpa using x,by simp[QCZ,x,y];simpa using e]
def Jp(K:QA):LV->Hp->VK->Prop:=λh H Q=>match h with
 |[.ref a]=>∃bs:List Bool,RC K H a (bs.map V.bl)/\Q (.bl (bs.any id)) H|_=>False
theorem z9(l:X.calm=kf):XC X (.builtin "any") (Jp X.K):=by
 intro k s Z H f W Q I r h
 match f,h with
 |[.ref a],#[bs,hq,q] =>
  let#[u,rfl,j]:=RF r;cases j;let#[x,w,p,C]:=I.list hq;have hl:=w.9;rw[QC]at hl;refine call_any_walk (QAT p.isList ?_);have y:a<s.1.1.size:=by let#[o,n,e,_]:=p;exact Qa e
  refine#[s.1.1.size,_,_,_,_,_,λi=>bs.getD i kd,rfl,Walks.list (A:=X.A.in1) (I.ok.hd l) s.1.1.size a (Qk y) x.toArray,#[#[_,QV _ rfl,rfl,rfl],?_],?_,?_];let#[o,n,e,c,d,sq]:=p;exact#[o,QH _ e,c,n,sq];intro i v B F G m z;let#[b,hb,rfl]:=AU w i v (by simpa using m);refine wO ?_;have:bs.getD i kd=b:=by simp[QCZ,hb]
  rw[<- this];exact z;intro E g hk;have Y:(Qo x.toArray.size).any (λi=>bs.getD i kd)=bs.any id:=by rw[QO,<- hl,y0]
  rw[Y];exact#[.bl _,H,I.kept (t':=g) (λb o e=>hk b o (by simp;exact Qk (Qa e)) (QH _ e)),rfl,q]
def zp(K:QA):LV->Hp->VK->Prop:=λx H Q=>(∃z,x=[.str z]/\z.9<=kb/\Q (.int z.9) H)∨∃a h,x=[.ref a]/\(RC K H a h∨jE K H a h)/\Q (.int h.9) H
theorem y9:XC X (.builtin "len") (zp X.K):=λx s y H z u Q I r h=>h.elim (jS x s y H z u Q I r) (gJ x s y H z u Q I r)
def Iu(K:QA):V->Option Int->Option Int->Hp->VK->Prop:=λx h y H Q=>match x with
 | .str z=>z.9<=kb/\Q (.str (Wh z h y)) H|.ref a=>Eo K (.ref a) h y H Q|_=>False
theorem Zi:Um X (Iu X.K):=by
 intro y s p H x v G E W C g Q I Y B Z m h;cases x with
 |str z =>
  let#[t,rfl]:=Y;let#[J,q]:=h;refine#["str",_,F.slot_str_getitem.lookup,QAR _ _ _,?_];have fin:∀l u:Option (Int×Tok),l.map (·.1)=W->u.map (·.1)=C->s.1.IsSlice g l u kv->ku (k4 X.prog X.w) X.A (pd (.str z t) (.ref g)) (EP X y p Q) X.xe s:=λl u M L n=>by refine wpAny_getItem_str_slice n rfl ?_;subst M L;exact post_val_or_str #[QZ (Txt.slice_le z _ _) J,λN k=>#[.str (Wh z _ _),H,I.tok k,#[_,rfl],q]]
  let#[o,b,hc,e]:=B;cases Z with
  |none =>
   cases m with|none=>exact fin kv kv rfl rfl #[o,b,hc,e]|int j f=>exact fin kv (kx (j,f)) rfl rfl #[o,b,hc,e]
  |int i r =>
   cases m with|none=>exact fin (kx (i,r)) kv rfl rfl #[o,b,hc,e]|int j f=>exact fin (kx (i,r)) (kx (j,f)) rfl rfl #[o,b,hc,e]
 |ref a=>exact Ha y s p H _ v G E W C g Q I Y B Z m h|_=>exact Qd h
theorem GO:∀{l:List (Str×Tok)},oA (l.map λp=>V.str p.1) (strValues l)
 |[]=>.nil|p::r=>.cons #[p.2,rfl] GO
theorem ZV{l:List (Str×Tok)}{ts:LS}(e:l.map (·.1)=ts):oA (ts.map V.str) (strValues l):=by subst e;rw[QU];exact GO
def R5:V->LV->Hp->VK->Prop:=λx h H Q=>match x,h with
 | .str z,[.str y]=>z.9<=kb/\0<y.9/\(w4 z y).9<=kb/\∀p,H p=kv->Q (.ref p) (CA H p (.lst ((w4 z y).map V.str)))|_,_=>False
theorem C7:u4 X "str.split" R5:=by
 intro b s j H x f v l Q I g i h
 match x,f,h with
 | .str z,[.str y],#[hz,hy,hn,q] =>
  let#[t,rfl]:=g;let#[u,rfl,t',rfl]:=RF i;have k:(y.9==0)=false:=by simp;omega
  cases w:(decide (z.9<y.9)||decide (QBP z<QBP y));cases a:(qZ z y 0 z.9 (z.9+1)).isEmpty
  ·have e:w4 z y=Builtin.Str.partsBetween z (qZ z y 0 z.9 (z.9+1)) y.length:=(th (ne_true_of_eq_false w)).trans (th (ne_true_of_eq_false a))
   rw[e]at hn q;refine WZ QAl (QAR s z t) QAU (QAC _ _) (meets_str_split_sep z y t t' w k a hz hn) ?_;rw[strsFrom_eq];exact#[.ref _,_,I.lnew (t':=_) (ZV (numbered_texts _ _)) (by rw[QC];exact hn),rfl,q _ I.fresh]
  have e:w4 z y=[z]:=(th (ne_true_of_eq_false w)).trans (tt a);rw[e]at hn q;refine WZ QAl (QAR s z t) QAU (QAC _ _) (meets_str_split_not_found z y t t' w k a) ?_;exact#[.ref _,_,I.lnew (t':=s.toks) (ys:=[V.str z]) (its:=[.str z t]) (.cons #[t,rfl] .nil) hn,rfl,q _ I.fresh];have e:w4 z y=[z]:=tt w;rw[e]at hn q;refine WZ QAl (QAR s z t) QAU (QAC _ _) (meets_str_split_cannot_occur z y t t' w) ?_;exact#[.ref _,_,I.lnew (t':=s.toks) (ys:=[V.str z]) (its:=[.str z t]) (.cons #[t,rfl] .nil) hn,rfl,q _ I.fresh]
end
section
variable{h h':x0}{j:ko}{z:Src}{k:Nat}{xs:Array kn}
inductive Src where
 |l (a:ko)|t (a:ko)
def Src.adr:Src->ko
 | .l a=>a|.t a=>a
def ID(h:x0)(j:ko):Src->Nat->Prop
 | .l a,k=>h.IsListIter j a k|.t a,k=>h.IsTupleIter j a k
def EB(h:x0):Src->Array kn->Prop
 | .l a,xs=>h.IsList a xs|.t a,xs=>h.IsTuple a xs
theorem ID.keep(x:ID h j z k)(e:∀o,h.get? j=kx o->h'.get? j=kx o):ID h' j z k:=by
 cases z with|l a=>let#[o,u,y]:=x;exact#[o,e o u,y]|t a=>let#[o,u,y]:=x;exact#[o,e o u,y]
theorem ID.obj(x:ID h j z k):∃o,h.get? j=kx o/\∀v,o.data≠.cell v:=by
 cases z with|l a=>let#[o,u,w,y]:=x;exact#[o,u,λv q=>by rw[y]at q;cases q]|t a=>let#[o,u,w,y]:=x;exact#[o,u,λv q=>by rw[y]at q;cases q]
theorem EB.ext{b:ko}(x:EB h z xs)(e:Wx b h h')(n:z.adr≠b):EB h' z xs:=by
 cases z with|l a=>exact QCO.extBut x e n|t a=>exact Heap.IsTuple.extBut x e n
theorem EB.lt(x:EB h z xs):z.adr<h.1.size:=by
 cases z with|l a=>let#[o,y,_]:=x;exact Qa y|t a=>let#[o,y,_]:=x;exact Qa y
theorem ID.lt(x:ID h j z k):j<h.1.size:=by let#[o,y,_]:=x.obj;exact Qa y
end
section
variable{prog:vu}{w:x2}{A:y1}{E:ZC}{s:kt}
section
variable{j t:ko}{k:Nat}{xs:Array kn}{x:kn}{Q:ZC}{z:Src}
theorem Ej(p:s.1.IsTupleIter j t k)(pt:s.1.IsTuple t xs)(a:xs[k]?=kx x)
  (q:∀h',h'.IsTupleIter j t (k+1)->qU j s.1 h'->Q x { s with heap:=h' }):ku (k4 prog w) A (qS (.ref j)) Q E s:=by
 let#[ob,y,b,h]:=id p;let#[e,v,_,f,u]:=pt;unfold qS;refine QE (qb (name:=QY "__next__") p.typeIs qd (qN qd p.typeIs WO ?_ (WJ _)));show ku _ _ (p0 (.ref j) 0 >>= _) _ _ _;refine QE (WG y h (x:=.ref t) rfl ?_);show ku _ _ (if(j2 t==j1)=kf then _ else _) _ _ _;rw[th (show ¬ (j2 t==j1)=kf from QD)];show ku _ _ (p0 (.ref j) 1 >>= _) _ _ _;refine QE (WG y h (x:=.int k 0) rfl ?_);show ku _ _ (seqItems? (.ref t) >>= _) _ _ _;refine QE (QBG v u ?_);simp only[wR,a];refine QE (QAK y h (by simp) (QM #[x,rfl,QM (q _ ?_ (Q5 ..))]));refine#[_,wm _ y (QA1 (WP h _)),(QBs ..).trans b,?_];rw[WP h];simp[h7]
theorem mW(u:A.handled=kv)(p:s.1.IsTupleIter j t k)(pt:s.1.IsTuple t xs)(f:xs[k]?=kv)
  (q:∀h' e,Wx j s.1 h'->(∃o,h'.get? e=kx o/\o.cls=.type "StopIteration")->E (.ref e) { s with heap:=h' }):ku (k4 prog w) A (qS (.ref j)) Q E s:=by
 let#[ob,y,l,h]:=id p;let#[g,b,_,i,v]:=pt;unfold qS;refine QE (qb (name:=QY "__next__") p.typeIs qd (qN qd p.typeIs WO ?_ (WJ _)));show ku _ _ (p0 (.ref j) 0 >>= _) _ _ _;refine QE (WG y h (x:=.ref t) rfl ?_);show ku _ _ (if(j2 t==j1)=kf then _ else _) _ _ _;rw[th (show ¬ (j2 t==j1)=kf from QD)];show ku _ _ (p0 (.ref j) 1 >>= _) _ _ _;refine QE (WG y h (x:=.int k 0) rfl ?_);show ku _ _ (seqItems? (.ref t) >>= _) _ _ _;refine QE (QBG b v ?_);simp only[wR,f];refine QE (QBt (QE (QAK y h (by simp) ?_)));refine QE (m:=me (.type "StopIteration") []) ?_;simp only[me,mm];refine QE (qJ ?made (by size_fits));refine QE (m:=h8 _ _) (QCP (a:=j1) (by first|rfl | (rw[h8];rfl)) ?arg);refine qJ ?made2 (by size_fits);simp only[p6];refine QE (QBj ?_);first|rw[show A.in1.handled=kv from u]|rw[u]
 refine QE (QM (QCQ (q _ _ (((Q5 ..).extBut.push _).push _) #[_,QV _ rfl,rfl])))
theorem Zc(p:ID s.1 j z k)(pt:EB s.1 z xs)(h:xs[k]?=kx x)
  (q:∀h',ID h' j z (k+1)->qU j s.1 h'->Q x { s with heap:=h' }):ku (k4 prog w) A (qS (.ref j)) Q E s:=by
 cases z with|l a=>exact wpAny_nextOf_list_item p pt h q|t a=>exact Ej p pt h q
theorem T6(y:A.handled=kv)(p:ID s.1 j z k)(pt:EB s.1 z xs)(h:xs[k]?=kv)
  (q:∀h' e,Wx j s.1 h'->(∃o,h'.get? e=kx o/\o.cls=.type "StopIteration")->E (.ref e) { s with heap:=h' }):ku (k4 prog w) A (qS (.ref j)) Q E s:=by
 cases z with|l a=>exact wpAny_nextOf_list_end y p pt h q|t a=>exact mW y p pt h q
noncomputable def Src.it:Src->Obj
 | .l a=>{ cls:=.type "list_iterator",data:=.fields (qB [.ref a,.int 0 0]) }|.t a=>{ cls:=.type "tuple_iterator",data:=.fields (qB [.ref a,.int 0 0]) }
theorem HS(pt:EB s.1 z xs)(q:Q (.ref s.1.1.size) { s with heap:=s.1.push z.it }):ku (k4 prog w) A (ee (.ref z.adr)) Q E s:=by
 cases z with|l a=>exact QAT pt q|t a=>exact QBk pt q
theorem Ca(h:x0)(z:Src):ID (h.push z.it) h.1.size z 0:=by
 cases z with|l a=>exact#[_,QV _ rfl,rfl,rfl]|t a=>exact#[_,QV _ rfl,rfl,rfl]
end
end
section
variable{prog:vu}{w:x2}{A:y1}{E:ZC}{s:kt}
theorem Di{h h':x0}{b:ko}{z:Src}{xs:Array kn}(x:EB h z xs)(e:qU b h h')(n:z.adr≠b):EB h' z xs:=x.ext e.extBut n
end
section
variable{X:Cx}{w:yC}{σ:St}{H:Hp}{s:kt}{h':x0}
theorem _root_.L2.Inv.turnedL{t':Nat}{ch:List ko}(I:Inv X w σ H s)(k:∀b o,b∉ch->s.1.get? b=kx o->h'.get? b=kx o)(f:∀b∈ch,VJ X w H b):Inv X w σ H { s with heap:=h',toks:=t' }:=by
 have h:∀b u,H b=kx u->b∉ch:=λb u e z=>by rw[(f b z).1]at e;cases e
 have a:X.env.locals∉ch:=λz=>(f _ z).2.1 rfl;refine I.step (g':=s.gens) (d':=s.drawn) (ch:=ch) (λb hb=>?_) (λb o _ _ hc e _=>k b o hc e) (λb o _ _ hc e _=>#[o.slots,k b o hc e]) (λ_ _ _ _ n=>n)
  (λb o hc e=>#[o,k b o hc e]) (λ_ _ e=>e) (λ_ _ _ e=>e) (λ_ _ e=>e) (λm y=>?_) (λb u e=>?_) I.bare
 let#[_,l,_,j,i,g]:=f b hb;exact#[j,l,i,g];let#[o,p,Y,x,r]:=y;exact#[o,p,Y,k _ o a x,r];refine(I.hok b u e).stay (λc v hc q=>k c v ?_ q) (λ_ q=>q) λ_ _ q=>q;rcases hc with z|z;rw[z];exact h b u e;exact h c _ z
def v4(K:QA)(H:Hp):Src->LV->Prop
 | .l a,xs=>RC K H a xs|.t a,xs=>jE K H a xs
theorem _root_.L2.Inv.src(I:Inv X w σ H s){z:Src}{xs:LV}(h:v4 X.K H z xs):∃its:LW,oA xs its/\EB s.1 z its.toArray/\xs.9<=sizeLine:=by
 cases z with|l a=>let#[its,x,p,y]:=I.list h;exact#[its,x,p.isList,y]|t a=>let#[its,x,p,y]:=I.tuple h;exact#[its,x,p,y]
theorem _root_.L2.Inv.src_inj(I:Inv X w σ H s){z:Src}{xs ys:LV}(h:v4 X.K H z xs)(h':v4 X.K H z ys):xs=ys:=by
 cases z with|l a=>exact I.list_inj h h'|t a=>exact I.tuple_inj h h'
theorem _root_.L2.Inv.pair{p:ko}{a b:kn}{x y:V}{t':Nat}(I:Inv X w σ H s)(k:∀b u,s.1.get? b=kx u->h'.get? b=kx u)(v:s.1.1.size<=p)(e:h'.get? p=kx { cls:=.type "tuple",data:=.seq (qB [a,b]) })(z:ZA x a)(h:ZA y b) :
  Inv X w σ (CA H p (.tup [x,y])) { s with heap:=h',toks:=t' } :=
 I.laid k v #[by rw[Q7];show 2<=_;decide,[a,b],.cons z (.cons h .nil),_,e,rfl,_,rfl]
end
section
variable{prog:vu}{w:x2}{A:y1}{E:ZC}{s:kt}
section
variable{it d:ko}{z:Obj}{es:Array dt}{i ep:Nat}{c u:kn}{Q:Option kn->kt->Prop}
theorem oD:Ws "dict_itemiterator"=true:=by decide +kernel
theorem RJ(l:List String)(h:(l.contains "dict_itemiterator" || l.contains "object")=kd):(l.any λt=>[Value.type "dict_itemiterator",Value.type "object"].contains (.type t))=false:=by
 rw[List.any_eq_false];intro t x;rw[Bool.or_eq_false_iff]at h;have v:t≠"dict_itemiterator":=λe=>by subst e;rw[Q9.mpr x]at h;cases h.1
 have y:t≠"object":=λe=>by subst e;rw[Q9.mpr x]at h;cases h.2
 simp[v,y]
theorem S6{e:dt}
  (m:d7 s.1 it d i es.size ep c u) (X:s.1.get? d=kx z) (B:z.data=.dict es ep) (I:es[i]?=kx e)
  (q:∀h',nl h' it d (i+1) es.size ep e.key e.val s.1.1.size->h'.get? s.1.1.size=kx { cls:=.type "tuple",data:=.seq (qB [e.key,e.val]) } ->
   h'.1.size=s.1.1.size+1->(∀b o,b≠it->s.1.get? b=kx o->h'.get? b=kx o)->Q (kx (.ref s.1.1.size)) { s with heap:=h' }) :
  ku (k4 prog w) A (la (.ref it)) Q E s:=by
 have F:s.TypeIs (.ref it) "dict_itemiterator":=#[_,m,rfl]
 show ku _ _ (bind _ _) _ _ _;refine QE (Wt (qb F qT (qN qT F Wi ?_ (Wb _))));show ku _ _ (bind _ _) _ _ _;refine QE (QM (QE (QE (QE (qr F (QM (QE (QAL m rfl ?_))))))));rw[oD];show ku _ _ (if(j2 d==j1)=kf then _ else _) _ _ _;rw[th (show ¬ (j2 d==j1)=kf from QD)];show ku _ _ (wN (.ref d) >>= _) _ _ _;refine QE (QM (QE (wG X B ?_)));rw[th (show ¬ (((es.size:Nat):Int) != ((es.size:Nat):Int))=kf by simp)];refine QE (QM (QE (wt X B ?_)));rw[th (show ¬ (((ep:Nat):Int) != ((ep:Nat):Int))=kf by simp)];refine QM ?_;have J:(if((i:Nat):Int)<0 then kv else es[((i:Nat):Int).toNat]?)=kx e:=by rw[th (),wR];exact I
 simp only[J];refine QE ?_;show ku _ _ (DC (.ref it) >>= _) _ _ _;refine QE (qr F (QM (QE (WX F ?_))));rw[oD,tt rfl];rw[show(List.any _ λt=>[Value.type "dict_itemiterator",Value.type "object"].contains (.type t))=kd from RJ _ (by decide +kernel),th QD];refine QE (wL m (by simp) λa h r=>?_);have h:d7 a it d (i+1) es.size ep c u:=h;refine QE (wA ?_);have C:({ s with heap:=a }:kt).TypeIs (.ref it) "dict_itemiterator":=#[_,h,rfl]
 show ku _ _ (Builtin.Dict_items.isOneOf (.ref it) _ >>= _) _ _ _;refine QE (WX C ?_);rw[RJ _ (by decide +kernel),th QD];refine QE (WX C ?_);rw[RJ _ (by decide +kernel),th QD];show ku _ _ (mm [e.key,e.val] >>= _) _ _ _;refine QE (QBI ?_);have p:a.1.size=s.1.1.size:=r.1;have y:d7 (a.push { cls:=.type "tuple",data:=.seq (qB [e.key,e.val]) }) it d (i+1) es.size ep c u:=QH _ h;show ku _ _ (Builtin.Dict_items.ownedTupleIsFree (.ref it) >>= _) _ _ _;refine QE ?_;show ku _ _ (p0 (.ref it) 0 >>= _) _ _ _;refine QE (WG y rfl (x:=.none) rfl (QM ?_));rw[tt rfl];show ku _ _ (p0 (.ref it) 6 >>= _) _ _ _;refine QE (WG y rfl (x:=c) rfl ?_);refine QE (WG y rfl (x:=u) rfl ?_);refine QE (wL y (by simp) λN K l=>?_);refine QE (wL K (by simp) λM W j=>?_);refine QE (wL W (by simp) λL Z g=>?_);refine QE (wL Z (by simp) λG Y f=>?_);refine QE (wpAny_letGo (QM ?_));refine QM #[_,rfl,QM ?_];have k:it<a.1.size:=Qa h;have pt:G.get? a.1.size=kx { cls:=.type "tuple",data:=.seq (qB [e.key,e.val]) } :=
  f.extBut _ _ (wk k) (g.extBut _ _ (wk k) (j.extBut _ _ (wk k) (l.extBut _ _ (wk k) (QV _ rfl))))
 have n:G.1.size=a.1.size+1:=by rw[f.1,g.1,j.1,l.1,QAH]
 have v:nl G it d (i+1) es.size ep e.key e.val a.1.size:=Y;rw[p]at pt n v;have:=q G v pt n λb o hb x=>f.extBut _ _ hb (g.extBut _ _ hb (j.extBut _ _ hb (l.extBut _ _ hb (QH _ (r.extBut _ _ hb x)))));show Q (kx (.ref a.1.size)) _;rw[p];exact this
theorem RQ(f:A.handled=kv)
  (h:d7 s.1 it d i es.size ep c u) (x:s.1.get? d=kx z) (y:z.data=.dict es ep) (g:es[i]?=kv)
  (q:∀h',Wx it s.1 h'->Q kv { s with heap:=h' }) :
  ku (k4 prog w) A (la (.ref it)) Q E s:=by
 have v:s.TypeIs (.ref it) "dict_itemiterator":=#[_,h,rfl]
 show ku _ _ (bind _ _) _ _ _;refine QE (Wt (qb v qT (qN qT v Wi ?_ (Wb _))));show ku _ _ (bind _ _) _ _ _;refine QE (QM (QE (QE (QE (qr v (QM (QE (QAL h rfl ?_))))))));rw[oD];show ku _ _ (if(j2 d==j1)=kf then _ else _) _ _ _;rw[th (show ¬ (j2 d==j1)=kf from QD)];show ku _ _ (wN (.ref d) >>= _) _ _ _;refine QE (QM (QE (wG x y ?_)));rw[th (show ¬ (((es.size:Nat):Int) != ((es.size:Nat):Int))=kf by simp)];refine QE (QM (QE (wt x y ?_)));rw[th (show ¬ (((ep:Nat):Int) != ((ep:Nat):Int))=kf by simp)];refine QM ?_;have j:(if((i:Nat):Int)<0 then kv else es[((i:Nat):Int).toNat]?)=none:=by rw[th (),wR];exact g
 simp only[j];refine QE ?_;show ku _ _ (DC (.ref it) >>= _) _ _ _;refine QE (qr v (QM ?_));rw[oD,tt rfl];refine QE (wL h (by simp) λl e k=>?_);refine QE (m:=me (.type "StopIteration") []) ?_;simp only[me,mm];refine QE (qJ ?made (by size_fits));refine QE (m:=h8 _ _) (QCP (a:=j1) (by first|rfl | (rw[h8];rfl)) ?arg);refine qJ ?made2 (by size_fits);simp only[p6];refine QE (QBj ?_);first|rw[show A.in1.handled=kv from f]|rw[f]
 refine QE (QM (QCQ ?_));refine QE (QAj (T:="StopIteration") (b:=kf) #[_,QV _ rfl,rfl] (by kernel_rfl) ?_);rw[tt rfl];exact QM (q _ ((k.extBut.push _).push _))
theorem d8{v:ko}{Q:ZC}(hv:s.1.IsItemsView v d)(h:s.1.get? d=kx z)(x:z.data=.dict es ep)
  (q:Q (.ref s.1.1.size) { s with heap:=s.1.push { cls:=.type "dict_itemiterator",data:=.fields (qB [.none,.bool kd,.ref d,.int 0 0,.int es.size 0,.int ep 0,.none,.none]) } }) :
  ku (k4 prog w) A (ee (.ref v)) Q E s:=by
 have a:=Heap.IsItemsView.typeIs hv;let#[u,y,b,k]:=id hv;refine QBu a QAr (qN QAr a F.entry_dict_items_iter ?_ (F.args_dict_items_iter_1 _));show ku _ _ (bind _ _) _ _ _;refine QE (QM (QE ?_));show ku _ _ (bind _ _) _ _ _;refine QE (WG y k rfl (QM (QE ?_)));show ku _ _ (bind _ _) _ _ _;refine QE (wG h x (QE (wt h x ?_)));simp only[oD,if_true];refine qJ (QM #[_,rfl,"dict_itemiterator",_,#[_,QV _ rfl,rfl],qT.lookup,q]) (show _<=kb+2 by simp[Builtin.Dict_items.ownedTupleFields,Q7])
theorem VX{Q:ZC}(h:s.1.get? d=kx z)(x:z.cls=.type "dict")(v:(d==gV)=kd)
  (q:Q (.ref s.1.1.size) { s with heap:=s.1.push { cls:=.type "dict_items",data:=.fields (qB [.ref d]) } }):ku (k4 prog w) A (bb (.builtin "dict.items") [.ref d]) Q E s:=by
 have y:s.TypeIs (.ref d) "dict":=#[_,h,x]
 refine qN F.slot_dict_items y F.entry_dict_items ?_ (F.args_dict_items_1 _);show ku _ _ (bind _ _) _ _ _;refine QE ?_;show ku _ _ (bind _ _) _ _ _;refine QE (Wj y ?_);refine QM ?_;show ku _ _ ((if(d==gV)=kf then _ else _) >>= _) _ _ _;rw[v,th QD];exact QE (QM (QE (qJ (QM #[_,rfl,q]) (show _<=kb+2 by simp[Q7]))))
theorem HZ{X:Type}[DecidableEq X]{h:pu prog w X}{d a:ko}{xs:List (X×ko×kn)}{k:X}{v:kn}{Q:ZC}(K:h.room A)(f:h.is s.1 k a)(C:s.1.DictOfH h d xs)(hsz:xs.9<=kb)
  (G:∀p,Bz xs k=kx p->Q p.2 { s with toks:=s.toks+h.draws k })
  (F:Bz xs k=kv->∀h',h'.DictOfH h d (pL xs k a v)->qU d s.1 h'->Q v { s with heap:=h',toks:=s.toks+h.draws k }) :
  ku (k4 prog w) A (mu d (.ref a) v) Q E s:=by
 let#[o,es,ep,m,hc,l,Y,r,Z]:=id C;have I:es.size=xs.length:=by have:=aj qD Y;simpa using this
 unfold mu;refine wA (QE (h.pyHash K f (QE (wpAny_dictFind_heap K f m l Y r Z (λq=>?_) λj p B=>?_))));have b:=atKey_none_of_get q;have n:=not_mem_keys_of_get q;refine QE (QBt (QE (wpAny_updateDictKeys m l (QM (F b _ ?_ (Q5 ..))) () (by simp))));refine#[_,_,ep+1,wm _ m (Obj.isFreed_of_dict (QA9 l _)),Obj.ExactDict.mapDictKeys hc _,QA9 l _,?_,?_,?_];rw[QCR b];simp[Y,Fz];rw[QCR b];intro x g;rcases Qe.mp g with g|g;exact h.keeps (r x g) m l (Q5 ..);rw[QJ.mp g];exact h.keeps f m l (Q5 ..);rw[QCR b,QR];exact qP.mpr #[Z,by simp,λx g y W e=>by rw[QT,wV,QJ]at W;rw[e,W]at g;exact n g];have b:=atKey_of_get Z B;have J:es[j]?=kx (Fz h (k,p)):=by
  have:es.toList[j]?=kx (Fz h (k,p)):=by rw[Y,QX,B];rfl
  simpa using this
 refine QE (wG m l ?_);rw[J];exact QE (QBt (QM (G p b)))
theorem SU{y:Type}[DecidableEq y]{h:pu prog w y}{d a:ko}{xs:List (y×ko×kn)}{k:y}{v:kn}{Q:ZC}(f:h.room A.in1)(x:h.is s.1 k a)(b:s.1.DictOfH h d xs)(hsz:xs.9<=kb)(l:(d==gV)=kd)
  (n:∀p,Bz xs k=kx p->Q p.2 { s with toks:=s.toks+h.draws k })
  (m:Bz xs k=kv->∀h',h'.DictOfH h d (pL xs k a v)->qU d s.1 h'->Q v { s with heap:=h',toks:=s.toks+h.draws k }) :
  ku (k4 prog w) A (bb (.builtin "dict.setdefault") [.ref d,.ref a,v]) Q E s:=by
 have e:s.TypeIs (.ref d) "dict":=Heap.DictOfH.typeIs b;refine qN F.slot_dict_setdefault e F.entry_dict_setdefault ?_ (F.args_dict_setdefault_3 _ _ _);show ku _ _ (bind _ _) _ _ _;refine QE ?_;show ku _ _ (bind _ _) _ _ _;refine QE (Wj e ?_);refine QM ?_;show ku _ _ (if(d==gV)=kf then _ else _) _ _ _;rw[l,th QD];exact QE (HZ f x b hsz (λp g=>QM #[_,rfl,n p g]) λj h' q o=>QM #[_,rfl,m j h' q o])
end
end
def rL(K:QA):V->LV->Hp->VK->Prop:=λx z H Q=>∃a b v w h k,x=.ref a/\z=[.ref b,v]/\H a=kx (.dT w h)/\BG K H h/\UO K H b k/\h.9<kb /\
   (∀u,dH h k=kx u->Q u H)/\(dH h k=kv->∀y,Q v (CA H a (.dT y (sM h k b v))))
theorem D1{X:Cx}(R:X.A.units+66<g7):u4 X "dict.setdefault" (rL X.K):=by
 intro m s L H x N v P Q I o r h;let#[a,b,y,ep,f,k,rfl,rfl,e,hk,F,l,Z,Y]:=h;cases o;let#[u,O,rfl,q,g]:=Xe r;cases q;let#[W,n,M,w,G]:=OK I e hk;have hl:(sM f k b y).9<=sizeLine:=by have:=ET f k b y;omega
 refine SU (MI ()) (zU I F) G (by rw[<- qC w];exact W) n (λp C=>?_) λE S j B=>?_;have z:=w.val k;rw[C]at z;cases ev:dH f k with|none=>rw[ev]at z;exact(show False from z).elim|some u=>rw[ev]at z;exact#[u,H,I.tok _,z,Z u ev]
 have z:=w.val k;rw[E]at z;cases ev:dH f k with|some u=>rw[ev]at z;exact(show False from z).elim|none=>let#[i,J]:=mN (t':=_) I (by rw[e];exact True.intro) n hl (w.put k b g) j B;exact#[y,_,J,g,Y ev i]
def Hy(ep n:Nat)(a:ko):It :=
  #[λi H=>∃h p,H a=kx (.dT ep h)/\h.9=n/\h[i]?=kx p,
   λi H v x=>∃q p,H q=kv/\v=.ref q/\x=CA H q (.tup [.ref p.2.1,p.2.2])/\∀h,H a=kx (.dT ep h)->h[i]?=kx p,
   λi H=>∃h,H a=kx (.dT ep h)/\h.9=n/\n<=i]
theorem PH{α h:Type}{R:α->h->Prop}:∀{l:List α}{m:List h}{i:Nat}{x:α},yn R l m->l[i]?=kx x->∃y,m[i]?=kx y/\R x y
 |_,_,i,_,.nil,e=>by simp at e|_,_,0,_,.cons r _,e=>by simp at e;subst e;exact#[_,rfl,r]|_,_,i+1,x,.cons _ t,e=>by let#[y,u,z]:=PH (i:=i) (x:=x) t (by simpa using e);exact#[y,by simpa using u,z]
theorem CV{P:vu}{w:x2}{K:QA}{es:List Expr}{kk:Nat}{pp:Pos}{a it:ko}{n ep:Nat}:Turn0 P w K (.Tuple es kk pp) (Hy ep n a) [it] it (λi h=>∃ok Y,d7 h it a i n ep ok Y) where
 mem:=by simp
 obj:=λi h st b hb=>by let#[ok,Y,st]:=st;rw[QJ]at hb;subst hb;exact#[_,st,λv q=>by cases(show Data.fields _=Data.cell v from q)]
 keep:=λi h h' st k=>by let#[ok,Y,st]:=st;exact#[ok,Y,k it (by simp) _ st]
 item:=by
  intro X J C L hc i Z s σ H E I A st G;subst J C L;let#[j,p,e,F,ep]:=G;let#[ok,Y,st]:=st;let#[z,y,xs,r,o,u,N,h2,M,B,h5]:=(show gB X.prog X.w H s.1 a (.dT _ j) from I.hok a _ e)
  have l:u.size=n:=by have:=aj qD B;rw[QC,Q1]at this;rw[this,<- qC r,F]
  let#[q,hq,rq]:=PH r ep;have he:u[i]?=kx (Fz (vF X.prog X.w) q):=by
   have:u.toList[i]?=kx (Fz (vF X.prog X.w) q):=by rw[B,QX,hq];rfl
   simpa using this
  subst l;refine S6 st N M he λh' b1 b3 b4 b5=>#[_,rfl,wpAny_letOwnedTupleGo_items b1 λm c1 sb=>?_]
  have hp:=I.hok.fresh (Qc s.1.1.size);have W:it<s.1.1.size:=Qa st;have g:∀b∈[it],b<s.1.1.size:=λb hb=>by rw[QJ]at hb;subst hb;exact W
  have kept:∀b o,b∉[it]->s.1.get? b=kx o->m.get? b=kx o:=λb o hb q=>by rw[QJ]at hb;exact(sb.2 b hb).trans (b5 b o hb q)
  have f:m.get? s.1.1.size=kx { cls:=.type "tuple",data:=.seq (qB [.ref q.2.1,q.2.2]) }:=(sb.2 _ (wk W)).trans b3;have I1:=I.pair (x:=.ref p.2.1) (y:=p.2.2) (h':=s.1.push { cls:=.type "tuple",data:=.seq (qB [.ref q.2.1,q.2.2]) }) (t':=s.toks) (λb o e=>QH _ e) (Qc _) (QV _ rfl) (show j2 q.2.1=j2 p.2.1 by rw[rq.2.1]) rq.2.2;have I2:=I1.turnedL (h':=m) (t':=s.toks) (ch:=[it]) (λb o hb e=>by
   rcases QBA e with⟨q1,q2⟩| q;subst q1 q2;exact f;exact kept b o hb q) λb hb=>by
   let#[f0,S,f2,R,Q,O]:=A b hb;exact#[by rw[uA (Qk (g b hb))];exact f0,S,f2,R,Q,O]
  refine#[.ref s.1.1.size,_,I2,rfl,#[s.1.1.size,p,hp,rfl,rfl,λkvs' g1=>?_],#[_,_,c1],λb hb=>?_];rw[e]at g1;cases g1;exact ep;rw[uA (Qk (g b hb))];exact(A b hb).1
 done:=by
  intro X J C L hc i Z s σ H E I A st G;subst J C L;let#[j,e,F,ep]:=G;let#[ok,Y,st]:=st;let#[z,y,xs,r,o,u,N,h2,M,B,h5]:=(show gB X.prog X.w H s.1 a (.dT _ j) from I.hok a _ e)
  have l:u.size=n:=by have:=aj qD B;rw[QC,Q1]at this;rw[this,<- qC r,F]
  subst l;let#[f0,S,f2,R,Q,O]:=A it (by simp);exact RQ (I.ok.hd hc) st N M (QAs ep) λh' eb=>#[rfl,I.turned (t':=s.toks) (λb o hb e=>eb b o hb e) f0 S R Q O]
section
variable{prog:vu}{w:x2}{A:y1}{E:ZC}{s:kt}
section
variable{d it:ko}{h:Obj}{es:Array dt}{ep i:Nat}{Q:Option kn->kt->Prop}
theorem EG:Ws "dict_keyiterator"=false:=by decide +kernel
theorem Ec{Q:ZC}(u:(d==gV)=kd)(x:s.1.get? d=kx h)(hc:h.cls=.type "dict")(y:h.data=.dict es ep)
  (q:Q (.ref s.1.1.size) { s with heap:=s.1.push { cls:=.type "dict_keyiterator",data:=.fields (qB [.ref d,.int 0 0,.int es.size 0,.int ep 0]) } }) :
  ku (k4 prog w) A (ee (.ref d)) Q E s:=by
 have z:s.TypeIs (.ref d) "dict":=#[_,x,hc]
 refine QBu z QCH (qN QCH z F.entry_dict_iter ?body (F.args_dict_iter_1 _))
 case body =>
  show ku _ _ (bind _ _) _ _ _;refine QE ?sl
  case sl =>
   show ku _ _ (bind _ _) _ _ _;refine QE (Wj z (QM ?go))
   case go =>
    have e:Wk d=p7 PUnit.unit:=by unfold Wk;rw[u];rfl
    show ku _ _ (Wk d >>= _) _ _ _;rw[e];refine QE (QM (QE (wG x y (QE (wt x y (QE (qJ (QM #[_,rfl,"dict_keyiterator",_,#[_,QV _ rfl,rfl],qY.lookup,?_]))))))));simpa[h7]using q
theorem Yc{e:dt}
  (u:s.1.IsKeyIter it d i es.size ep) (z:s.1.get? d=kx h) (v:h.data=.dict es ep) (f:es[i]?=kx e)
  (q:∀h',h'.IsKeyIter it d (i+1) es.size ep->qU it s.1 h'->Q (kx e.key) { s with heap:=h' }) :
  ku (k4 prog w) A (la (.ref it)) Q E s:=by
 have k:=u.typeIs;let#[j,a,b,x]:=id u;show ku _ _ (bind _ _) _ _ _;refine QE (Wt (qb k qY (qN qY k Wn ?_ (Wl _))));show ku _ _ (bind _ _) _ _ _;refine QE (QM (QE (QE (QE (qy k (QM (QE (QAL a x ?_))))))));rw[EG];show ku _ _ (if(j2 d==j1)=kf then _ else _) _ _ _;rw[th (show ¬ (j2 d==j1)=kf from QD)];show ku _ _ (wN (.ref d) >>= _) _ _ _;refine QE (QM (QE (wG z v ?_)));rw[th (show ¬ (((es.size:Nat):Int) != ((es.size:Nat):Int))=kf by simp)];refine QE (QM (QE (wt z v ?_)));rw[th (show ¬ (((ep:Nat):Int) != ((ep:Nat):Int))=kf by simp)];refine QM ?_;have g:(if((i:Nat):Int)<0 then kv else es[((i:Nat):Int).toNat]?)=kx e:=by rw[th (),wR];exact f
 simp only[g];refine QE ?_;show ku _ _ (DC (.ref it) >>= _) _ _ _;refine QE (qy k (QM (QE (QA2 k ?_))));rw[EG];show ku _ _ (setField (.ref it) 1 _ >>= _) _ _ _;refine QE (QAK a x (by simp) ?_);have y:(s.1.update it (Obj.mapFields (·.setIfInBounds 1 (h7 ((i:Int)+1))))).IsKeyIter it d (i+1) es.size ep :=
  #[_,wm _ a (QA1 (WP x _)),(QBs ..).trans b,by rw[WP x];simp[h7]]
 refine QE (wA (QE (QA2 (s:={ s with heap:=s.1.update it (Obj.mapFields (·.setIfInBounds 1 (h7 ((i:Int)+1)))) }) y.typeIs ?_)));show ku _ _ (p7 e.key) _ _ _;exact QM (QM #[_,rfl,QM (q _ y (Q5 ..))])
theorem oT(e:A.handled=kv)
  (y:s.1.IsKeyIter it d i es.size ep) (x:s.1.get? d=kx h) (u:h.data=.dict es ep) (f:es[i]?=kv)
  (q:∀h',Wx it s.1 h'->Q kv { s with heap:=h' }) :
  ku (k4 prog w) A (la (.ref it)) Q E s:=by
 have v:=y.typeIs;let#[l,k,g,z]:=id y;show ku _ _ (bind _ _) _ _ _;refine QE (Wt (qb v qY (qN qY v Wn ?_ (Wl _))));show ku _ _ (bind _ _) _ _ _;refine QE (QM (QE (QE (QE (qy v (QM (QE (QAL k z ?_))))))));rw[EG];show ku _ _ (if(j2 d==j1)=kf then _ else _) _ _ _;rw[th (show ¬ (j2 d==j1)=kf from QD)];show ku _ _ (wN (.ref d) >>= _) _ _ _;refine QE (QM (QE (wG x u ?_)));rw[th (show ¬ (((es.size:Nat):Int) != ((es.size:Nat):Int))=kf by simp)];refine QE (QM (QE (wt x u ?_)));rw[th (show ¬ (((ep:Nat):Int) != ((ep:Nat):Int))=kf by simp)];refine QM ?_;have j:(if((i:Nat):Int)<0 then kv else es[((i:Nat):Int).toNat]?)=none:=by rw[th (),wR];exact f
 simp only[j];refine QE ?_;show ku _ _ (DC (.ref it) >>= _) _ _ _;refine QE (qy v (QM ?_));rw[EG];show ku _ _ (setField (.ref it) 0 .none >>= _) _ _ _;refine QE (QAK k z (by simp) ?_);refine QE (m:=me (.type "StopIteration") []) ?_;simp only[me,mm];refine QE (qJ ?made (by size_fits));refine QE (m:=h8 _ _) (QCP (a:=j1) (by first|rfl | (rw[h8];rfl)) ?arg);refine qJ ?made2 (by size_fits);simp only[p6];refine QE (QBj ?_);first|rw[show A.in1.handled=kv from e]|rw[e]
 refine QE (QM (QCQ ?_));refine QE (QAj (T:="StopIteration") (b:=kf) #[_,QV _ rfl,rfl] (by kernel_rfl) ?_);rw[tt rfl];exact QM (q _ (((Q5 ..).extBut.push _).push _))
end
end
noncomputable def My(ep n:Nat)(a:ko):It :=
  #[λi H=>∃h p,H a=kx (.dT ep h)/\h.9=n/\h[i]?=kx p,
   λi H v x=>x=H/\∀h,H a=kx (.dT ep h)->∃p,h[i]?=kx p/\v=.ref p.2.1,
   λi H=>∃h,H a=kx (.dT ep h)/\h.9=n/\n<=i]
theorem OZ{P:vu}{w:x2}{K:QA}{S:Expr}{a it:ko}{n ep:Nat}:Turn P w K S (My ep n a) [it] it (λi h=>h.IsKeyIter it a i n ep) where
 mem:=by simp
 obj:=λi h st b hb=>by let#[o,e,c,d]:=st;rw[QJ]at hb;subst hb;exact#[o,e,λv z=>by rw[d]at z;cases z]
 keep:=λi h Y st k=>st.at λo e=>k it (by simp) o e
 item:=by
  intro X B Z C hc i u s Q H E I l st A;subst B Z C;let#[f,p,e,W,ep]:=A;let#[z,y,R,r,o,x,G,h2,F,m,h5]:=(show gB X.prog X.w H s.1 a (.dT _ f) from I.hok a _ e)
  have g:x.size=n:=by have:=aj qD m;rw[QC,Q1]at this;rw[this,<- qC r,W]
  let#[q,hq,rq]:=PH r ep;have he:x[i]?=kx (Fz (vF X.prog X.w) q):=by
   have:x.toList[i]?=kx (Fz (vF X.prog X.w) q):=by rw[m,QX,hq];rfl
   simpa using this
  subst g;let#[O,N,f2,M,L,J]:=l it (by simp);refine Yc st G F he λY j sb=>?_;have I1:Inv X u Q H { s with heap:=Y }:=I.turned (t':=s.toks) (λb o hb e=>(sb.2 b hb).trans e) O N M L J;let#[oi,ei,ci,di]:=id j;exact#[_,rfl,go_of (s:={ s with heap:=Y }) ei ci di (by decide) #[.ref p.2.1,H,I1,show j2 q.2.1=j2 p.2.1 by rw[rq.2.1],#[rfl,λks hk=>by rw[e]at hk;cases hk;exact#[p,ep,rfl]],j,λb hb=>(l b hb).1]]
 done:=by
  intro X B Z C hc i u s Q H E I l st A;subst B Z C;let#[f,e,W,ep]:=A;let#[z,y,R,r,o,x,G,h2,F,m,h5]:=(show gB X.prog X.w H s.1 a (.dT _ f) from I.hok a _ e)
  have g:x.size=n:=by have:=aj qD m;rw[QC,Q1]at this;rw[this,<- qC r,W]
  subst g;let#[O,N,f2,M,L,J]:=l it (by simp);exact oT (I.ok.hd hc) st G F (QAs ep) λY eb=>#[rfl,I.turned (t':=s.toks) (λb o hb e=>eb b o hb e) O N M L J]
 self:=λ_ _ _ _ _ st h=>wpAny_pyIter_keyiter st h
open PySem.SeqAt
open AutoSeq1 (wpAny_loadPart')
open MeetsSeq MeetsSeq2 MeetsSeq3
noncomputable def Yn:LS->LS->Bool
 |[],[]=>kd|[],_::_=>kf|_::_,[]=>kd|x::a,y::b=>if(x==y)=kf then Yn a b else decide (x.cps.toList<y.cps.toList)
theorem xQ{vs:LW}{z:LS}(h:RD vs z):vs.9=z.9/\∀(i:Nat) (x:Str),z[i]?=kx x->∃t:Tok,vs[i]?=kx (Value.str x t):=by
 induction h with
 |nil=>exact#[rfl,λi x e=>by simp at e]|cons y t _ u =>
  refine#[by rw[QK,QK,u.1],λi x e=>?_];cases i with|zero=>simp at e;subst e;exact#[t,rfl]|succ i=>simp at e;simpa using u.2 i x e
theorem N1(l b:ko)(v x:Array kn)(n B:Nat)(L X:Option ko)(W o:Array (Option kn))(a ts:LS)(I:RD v.toList a)(G:RD x.toList ts)(k:Nat) :
  ∀i:Nat,v.size - i=k->i<=v.size->i<=x.size->Meets (Builtin.«list.__eq__.loop» #[[.ref l,.ref b,h7 i,h7 0],[]])
   (λA R s=>s.1.get? l=kx { cls:=.type "list",dict:=L,data:=.seq v n,slots:=W }/\s.1.get? b=kx { cls:=.type "list",dict:=X,data:=.seq x B,slots:=o } /\
    R (.ok (.ret (.bool (Yn (a.drop i) (ts.drop i))))) s):=by
 let#[S,Q]:=xQ I;let#[O,N]:=xQ G;rw[Q1]at S O;induction k with
 |zero =>
  intro i hk F p e w A R s h;let#[E,g,d,Z,K]:=s;let#[hl,hb,h]:=h;wp_walk using qE hl,qE hb;have m:v[((i:Nat):Int).toNat]?=none:=by simp;omega
  rw[m];wp_walk using qE hl,qE hb;have Y:a.drop i=[]:=by simp;omega
  rw[Y]at h;have f:Yn [] (ts.drop i)=decide (v.size<x.size):=by
   cases z:ts.drop i with
   |nil =>
    have:ts.9<=i:=by simpa using z
    exact(dF ()).symm
   |cons y r =>
    have:i<ts.length:=by by_cases c:i<ts.9;exact c;rw[WY ()]at z;cases z
    exact(dT ()).symm
  rw[f]at h;exact h
 |succ k C =>
  intro i hk F p e w A R s h;let#[E,g,d,Z,K]:=s;let#[hl,hb,h]:=h;wp_walk using qE hl,qE hb;have j:i<a.length:=()
  let#[t,ev]:=Q i a[i] (Qq j);have m:v[((i:Nat):Int).toNat]?=kx (.str a[i] t):=by simpa using ev
  rw[m];have Y:a.drop i=a[i]::a.drop (i+1):=QAM j;rw[Y]at h;by_cases c:i<ts.9;let#[u,J]:=N i ts[i] (Qq c);have f:x[((i:Nat):Int).toNat]?=kx (.str ts[i] u):=by simpa using J
  have M:ts.drop i=ts[i]::ts.drop (i+1):=QAM c;rw[M]at h;have h:R (.ok (.ret (.bool (if(a[i]==ts[i])=kf then Yn (a.drop (i+1)) (ts.drop (i+1)) else decide (a[i].cps.toList<ts[i].cps.toList))))) _:=h;rw[f];refine QE (EqAt.str_str a[i] t ts[i] u e w _ _ ?_);have hc:((i:Int)+1)=((i+1:Nat):Int):=by push_cast;rfl
  cases q:(a[i]==ts[i]) with|true=>rw[q,tt rfl]at h;wp_walk;rw[hc];exact#[QBl plain_eq_loop _,Wz entry_eq_loop (by rw[wx plain_eq_loop _];exact C (i+1) () () () e w A R _ #[hl,hb,h])]|false=>rw[q,th QD]at h;wp_walk using qE hl,qE hb;rw[m,f];show ku _ _ (xk .Lt (.str a[i] t) (.str ts[i] u) >>= _) _ _ _;refine QE (PySem.P.lt_str ?_);exact QM h
  have f:x[((i:Nat):Int).toNat]?=none:=by simp;omega
  rw[f];wp_walk using qE hl,qE hb;rw[WY (show ts.9<=i by omega)]at h;have:decide (v.size<x.size)=false:=dF ();have h:R (.ok (.ret (.bool kd))) _:=h;rw[<- this]at h;exact h
theorem T1(l b:ko)(y x:Array kn)(n e:Nat)(f v:Option ko)(a z:Array (Option kn))(k ts:LS)(j:RD y.toList k)(i:RD x.toList ts) :
  Meets (Builtin.«list.__lt__» #[[.ref l,.ref b],[]])
   (λA R s=>s.1.get? l=kx { cls:=.type "list",dict:=f,data:=.seq y n,slots:=a }/\s.1.get? b=kx { cls:=.type "list",dict:=v,data:=.seq x e,slots:=z } /\
    R (.ok (.ret (.bool (Yn k ts)))) s):=by
 intro u w A R s h;let#[p,g,d,m,o]:=s;let#[hl,hb,h]:=h;have q:=AutoSeq1.sub_list_list;wp_walk using qE hl,qE hb;exact#[QBl plain_eq_loop _,Wz entry_eq_loop (by rw[wx plain_eq_loop _];exact N1 l b y x n e f v a z k ts j i _ 0 rfl (Qs _) (Qs _) u w A R _ #[hl,hb,h])]
section
variable{prog:vu}{w:x2}{A:y1}{E:ZC}{s:kt}
theorem cW{l b:ko}{y x:Array kn}{n a:Nat}{e u:Option ko}{k z:Array (Option kn)}{v ts:LS}{Q:Bool->kt->Prop}(f:A.units<g7)(hl:s.1.get? l=kx { cls:=.type "list",dict:=e,data:=.seq y n,slots:=k })(hb:s.1.get? b=kx { cls:=.type "list",dict:=u,data:=.seq x a,slots:=z })
  (i:RD y.toList v) (g:RD x.toList ts) (h:Q (Yn v ts) s):ku (k4 prog w) A (keyLt' Rz (.ref l) (.ref b)) Q E s:=by
 rw[keyLt'_oneType,oneLt'_eq];simp only[if_true];refine QE (wpAny_cRoomFor f (QE (wpAny_callSpecialIfBound?_slot (T:="list") #[_,hl,rfl] F.slot_list_lt ?_)));refine WZ F.slot_list_lt #[_,hl,rfl] F.entry_list_lt (F.args_list_lt_2 _ _) (T1 l b y x n a e u k z v ts i g) #[hl,hb,?_];exact wO h
end
end L2.L3
namespace L2.L3
open PySem PySem.Spec PyProof.Rows PySem.W
def cC{α:Type}(n:Nat)(P:α->Prop):KasT α->Prop
 | .ret a=>P a|.ask i j k=>i<n/\j<n/\∀b,cC n P (k b)
theorem cC.bnd{α x:Type}{n:Nat}{P:α->Prop}{R:x->Prop}{f:α->KasT x}(y:∀a,P a->cC n R (f a)):∀{t:KasT α},cC n P t->cC n R (t.bind f)
 | .ret a,h=>y a h|.ask i j k,#[h1,h2,h]=>#[h1,h2,λb=>cC.bnd y (h b)]
theorem cC.wp{α:Type}{n:Nat}{P:α->Prop}{x:Nat->Nat->(Bool->kt->Prop)->kt->Prop}{Q:α->kt->Prop}{s:kt}(y:∀i j,i<n->j<n->∀C:Bool->kt->Prop,(∀b,C b s)->x i j C s)(z:∀a,P a->Q a s):∀{t:KasT α},cC n P t->t.kasWp x Q s
 | .ret a,h=>z a h|.ask i j k,#[h1,h2,h]=>y i j h1 h2 _ λb=>cC.wp y z (h b)
def Pm(n:Nat)(p:Array Nat):Prop:=p.Perm (qB (Qo n))
section
variable{n:Nat}
section
variable{p:Array Nat}
theorem Pm.lt(h:Pm n p)(x:0<n)(i:Nat):p.getD i 0<n:=by
 by_cases c:i<p.size;have e:p.getD i 0=p[i]:=by simp[Array.getD,c]
 rw[e];have m:p[i]∈p.toList:=by simp
 have:=(qQ.mp h).mem_iff.mp m;simpa using this;have e:p.getD i 0=0:=by simp[Array.getD,c]
 rw[e];exact x
theorem Pm.rev(h:Pm n p)(i j:Nat):Pm n (kas_rev p i j):=(mirror_perm _ _ _ _).trans h
theorem mS{p:Array Nat}(h:Pm n p)(x:0<n):∀(f m:Nat),cC n (λ_=>True) (kas_asc p f m)
 |0,m=>trivial|f+1,m=>#[h.lt x _,h.lt x _,λb=>by
  cases b with|true=>exact trivial|false=>exact mS h x f (m+1)]
theorem rJ(x:0<n):∀(f:Nat) {p:Array Nat}(h:Pm n p) (m q:Nat),cC n (λr=>Pm n r.1) (kas_desc f p m q)
 |0,p,h,m,q=>h|f+1,p,h,m,q=>#[h.lt x _,h.lt x _,λb=>by
  cases b with
  |true=>show cC n _ (if q > 0 then _ else _);split;exact rJ x f (h.rev _ _) _ _;exact rJ x f h _ _|false =>
   refine#[h.lt x _,h.lt x _,λb=>?_];cases b with|true=>exact h|false=>exact rJ x f h _ _]
theorem CP(x:0<n)(h:Pm n p)(a b:Nat):cC n (λr=>Pm n r.2) (kas_tail3 a b p):=by refine cC.bnd (f:=λm=>.ret (m,kas_rev p 0 a)) (λm _=>?_) (mS (h.rev _ _) x _ _);exact h.rev _ _
theorem pJ(x:0<n)(h:Pm n p)(a b:Nat):cC n (λr=>Pm n r.2) (kas_descPart a b p):=by refine cC.bnd (λr y=>?_) (rJ x _ h _ _);split;exact CP x (Pm.rev y _ _) _ _;exact CP x y _ _
theorem P3(x:0<n)(h:Pm n p)(b:Nat):cC n (λr=>Pm n r.2) (kas_count b p):=by
 refine cC.bnd (λm _=>?_) (mS h x _ _);split;exact h;split
 ·refine#[h.lt x _,h.lt x _,λc=>?_]
  cases c with|true=>exact h|false=>exact pJ x (h.rev _ _) _ _
 exact pJ x h _ _
theorem tK(x:0<n){p:Array Nat}(h:Pm n p)(k:Nat):∀(f l r:Nat),cC n (λ_=>True) (kas_place p k f l r)
 |0,l,r=>trivial|f+1,l,r=>by
  show cC n _ (if l ≥ r then _ else _);split;exact trivial;refine#[h.lt x _,h.lt x _,λb=>?_];cases b with|true=>exact tK x h k f _ _|false=>exact tK x h k f _ _
theorem JZ(x:0<n):∀(f:Nat) {p:Array Nat}(h:Pm n p) (k:Nat),cC n (Pm n) (kas_bin f p k)
 |0,p,h,k=>h|f+1,p,h,k=>cC.bnd (λl _=>JZ x f ((bubble_perm _ _ _).trans h) _) (tK x h _ _ _ _)
theorem DN(x:0<n):cC n (Pm n) (kas_sort n):=by refine cC.bnd (λr h=>?_) (P3 x (QCS _) _);split;exact JZ x _ h _;exact h
end
end
theorem zP{α:Type}(vs:List α)(d:α):(Qo vs.9).map (λi=>vs.getD i d)=vs:=by apply qO;intro i;rw[QX];by_cases c:i<vs.9;rw[WH c];simp[c];rw[Qz (by simp;omega),Qz ()];rfl
section
variable{prog:vu}{w:x2}{A:y1}{E:ZC}{s:kt}
theorem Xq{M:Model}{vs:LW}{Q:SortKind->kt->Prop}(k:2<=vs.9)(z:∀v∈vs,s.TypeIs v "list")(h:Q Rz s):ku M A (keyKind' vs.toArray) Q E s:=by
 cases vs with
 |nil=>simp at k|cons v r =>
  rw[keyKind'_eq,QBv,map_eq_pure_bind];refine QE (QE (kas_mapM (r:=kv) _ (λu y e q=>?_) (QM ?_)));rw[kas_first_eq];exact QE (wpAny_typeOf (z u y) (QM q));rw[th (by simp),th (by simp),oneTypeOnly'_eq,QBv,map_eq_pure_bind];refine QE (QE (QE (kas_mapM (r:=.type "list") _ (λu y e q=>wpAny_typeOf (z u y) q) (QM ?_))));have b:((v::r).map λ_=>Value.type "list").toArray[0]?=kx (.type "list"):=by simp
  have a:(((v::r).map λ_=>Value.type "list").toArray.all λx=>x==Value.type "list")=true:=by simp only[List.all_toArray,List.all_map,qH];intro _ _;rfl
  rw[b];simp only[a,if_true];exact QM (QM h)
theorem ak{a:ko}{vs:LW}{n:Nat}{P:PySem.Fin->kt->Prop}(Y:s.1.get? a=kx (p8 "list" vs.toArray n))(K:vs.9<64)(S:∀v∈vs,∃b o,v=.ref b/\b≠a/\s.1.get? b=kx o/\o.cls=.type "list")
  (G:∀B:x0,(∀b o,b≠a->s.1.get? b=kx o->B.get? b=kx o)->∀x∈vs,∀y∈vs,∀C:Bool->kt->Prop,(∀k,C k { s with heap:=B })->ku (k4 prog w) A (keyLt' Rz x y) C (λ_ _=>False) { s with heap:=B })
  (k:∀out:LW,out.Perm vs->P (.done (.ret .none)) { s with heap:=sortedHeap s.1 a vs out.toArray }):ku (k4 prog w) A (Builtin.«list.sort» #[[.ref a],[]]) P E s:=by
 have ha:a<s.1.1.size:=Qa Y;have J:=Q5 s.1 a (Q6 λ_=>(#[]:Array kn));obtain⟨Z,X⟩:∃Z,(s.1.update a (Q6 λ_=>(#[]:Array kn))).get? a=kx (p8 "list" #[] Z):=#[_,W4 Y λ_=>#[]]
 have r:(((s.1.update a (Q6 λ_=>(#[]:Array kn))).push (p8 "tuple" vs.toArray 0)).push (p8 "list" #[] 0)).get? a=kx (p8 "list" #[] Z):=QH _ (QH _ X);have kept:∀b o,b≠a->s.1.get? b=kx o->(((s.1.update a (Q6 λ_=>(#[]:Array kn))).push (p8 "tuple" vs.toArray 0)).push (p8 "list" #[] 0)).get? b=kx o:=λb o hb e=>QH _ (QH _ ((J.2 b hb).trans e));rw[list_sort_plain];refine QE (QB7 Y rfl (QE (WQ Y rfl ?_ (by rw[QO];omega) (Qs _))));refine QE (QBQ X rfl (QE (QBI ?_ (by show vs.9<=_;omega))));refine QE (QAd (wA ?_) (Qs _));show ku (k4 prog w) A _ P E { s with heap:=((s.1.update a (Q6 λ_=>(#[]:Array kn))).push (p8 "tuple" vs.toArray 0)).push (p8 "list" #[] 0) };dsimp only;have fin:∀out:LW,out.Perm vs->ku (k4 prog w) A (do
   let h:=(<- seqEpoch a) != Z
   Builtin.List.listUpdate (.ref a) λ_=>out.toArray
   if h then rule "list.sort.modified";raiseError "ValueError" "list modified during sort"
   ret .none) P E { s with heap:=((s.1.update a (Q6 λ_=>(#[]:Array kn))).push (p8 "tuple" vs.toArray 0)).push (p8 "list" #[] 0) }:=λout m=>by
  have hl:=m.length_eq;refine QE (QBQ r rfl (QE (WQ r rfl ?_ (Qs _) (by rw[QO];omega))));simp only[bne_self_eq_false,Qr,if_false];exact QM (k out m)
 by_cases I:vs.9<2;have u:vs.toArray.size<2:=by rw[QO];exact I
 rw[tt u,tt u];refine QE (QM ?_);rw[QCT];refine QE (QM ?_);have e:(arrOf (QBw general' (vs.toArray.zip vs.toArray) #[] 7 kv)).map (·.2)=vs.toArray:=by show(vs.toArray.zip vs.toArray).map (·.2)=_;apply WA.mp;simp[WC]
 dsimp only;rw[e];exact fin vs (QBJ _);have u:¬ vs.toArray.size<2:=by rw[QO];exact I
 rw[th u,th u];refine QE (Xq () (λv hv=>?_) ?_);let#[b,o,rfl,hb,e,c]:=S v hv;exact#[o,kept b o hb e,c];have F:QBw Rz (vs.toArray.zip vs.toArray) #[] 7 kv=kas_st Rz (rk vs) (qB (Qo vs.9)):=by have e:=kas_range (rk vs);rw[pairsOf_size]at e;show QBw Rz (rk vs) #[] 7 kv=QBw Rz ((qB (Qo vs.9)).map (kas_item (rk vs))) #[] 7 kv;rw[e]
 have all:=DN (n:=vs.9) ();have f:(kas_sort vs.9).kasWp (kas_cmp prog w A Rz (rk vs)) (λp g=>g={ s with heap:=((s.1.update a (Q6 λ_=>(#[]:Array kn))).push (p8 "tuple" vs.toArray 0)).push (p8 "list" #[] 0) }/\Pm vs.9 p) { s with heap:=((s.1.update a (Q6 λ_=>(#[]:Array kn))).push (p8 "tuple" vs.toArray 0)).push (p8 "list" #[] 0) }:=by
  rw[<- kas_ask_eq];refine cC.wp (λi j O N C H=>?_) (λp m=>#[rfl,m]) all;have gi:vs.getD i j1∈vs:=by
   have:vs.getD i j1=vs[i]:=by simp[O]
   rw[this];exact wf _
  have gj:vs.getD j j1∈vs:=by
   have:vs.getD j j1=vs[j]:=by simp[N]
   rw[this];exact wf _
  exact G _ kept _ gi _ gj C H
 have l:=kas_runs (prog:=prog) (w:=w) (A:=A) (E:=E) (Q:=λ_ z g=>∃p:Array Nat,p.size=vs.9/\arrOf z=p.map (kas_item (rk vs))/\tv z=kv/\g={ s with heap:=((s.1.update a (Q6 λ_=>(#[]:Array kn))).push (p8 "tuple" vs.toArray 0)).push (p8 "list" #[] 0) }/\Pm vs.9 p)
  () K (λM z g a1 a2 a3 a4=>#[M,a1,a2,a3,a4]) f
 rw[<- F]at l;refine QE (qt l ?_ λ_ _ e=>e);rintro⟨⟨⟩,z⟩ g ⟨p,m,W,R,rfl,L⟩;dsimp only;have q:(arrOf z).map (·.2)=qB (p.toList.map λi=>vs.getD i j1):=by apply WA.mp;rw[W,Array.map_map,Array.toList_map];exact wI λi _=>by show(kas_item (rk vs) i).2=_;rw[kas_item_eq]
 rw[q,R];refine fin _ ?_;have:=(qQ.mp L).map λi=>vs.getD i j1;refine this.trans ?_;show((Qo vs.9).map λi=>vs.getD i j1).Perm vs;rw[zP]
theorem Da{l:ko}{vs:LW}{Q:ZC}(hl:s.1.IsList l vs.toArray)(g:vs.9<64)(X:∀v∈vs,∃b o,v=.ref b/\s.1.get? b=kx o/\o.cls=.type "list")
  (i:∀f:x0,(∀b o,s.1.get? b=kx o->f.get? b=kx o)->∀x∈vs,∀y∈vs,∀C:Bool->kt->Prop,(∀k,C k { s with heap:=f })->ku (k4 prog w) A.in1.in1 (keyLt' Rz x y) C (λ_ _=>False) { s with heap:=f })
  (k:∀out:LW,out.Perm vs->Q (.ref (s.1.1.size+1)) { s with heap:=sortedAll s.1 vs out.toArray }):ku (k4 prog w) A (bb (.builtin "sorted") [.ref l]) Q E s:=by
 refine Calls.call_function_entry kind_sorted plain_sorted entry_sorted (args_sorted1 _) ?_;unfold Builtin.«sorted»;refine QE (m:=checkCount "sorted" 1 1 _) (QM (QE (collect_list hl ?_ ())));refine QE (QAd ?_ (by show vs.9<=_;omega));have u:((s.1.push (p8 "list" #[] 0)).update s.1.1.size (Q6 (·++vs.toArray))).1.size=s.1.1.size+1:=by rw[QCI,size_push']
 have a:(((s.1.push (p8 "list" #[] 0)).update s.1.1.size (Q6 (·++vs.toArray))).push (p8 "list" vs.toArray 0)).get? (s.1.1.size+1)=kx (p8 "list" vs.toArray 0):=by rw[<- u];exact QV _ rfl
 have z:∀b o,s.1.get? b=kx o->(((s.1.push (p8 "list" #[] 0)).update s.1.1.size (Q6 (·++vs.toArray))).push (p8 "list" vs.toArray 0)).get? b=kx o:=λb o q=>by have h:b<s.1.1.size:=Qa q;refine QH _ ?_;rw[Heap.get?_update_ne _ _ _ _ (Qk h)];exact QH _ q
 show ku _ _ _ _ _ { s with heap:=((s.1.push (p8 "list" #[] 0)).update s.1.1.size (Q6 (·++vs.toArray))).push (p8 "list" vs.toArray 0) };rw[u];refine QE (wA (qN tj #[_,a,rfl] sn ?body (args_list_sort _)))
 case body =>
  refine ak (s:={ s with heap:=((s.1.push (p8 "list" #[] 0)).update s.1.1.size (Q6 (·++vs.toArray))).push (p8 "list" vs.toArray 0) }) a g (λv hv=>?_) (λf j x p y n C Y=>?_) λout r=>#[_,rfl,QM #[_,rfl,k out r]]
  let#[b,o,e,q,c]:=X v hv;have h:b<s.1.1.size:=Qa q;exact#[b,o,e,Qk (wv h),z b o q,c];refine i f (λb o q=>?_) x p y n C Y;have h:b<s.1.1.size:=Qa q;exact j b o (Qk (wv h)) (z b o q)
end
section
variable{prog:vu}{w:x2}{A:y1}
theorem Zl(Z:A.handled=kv)(j:ko)(z:Src)(m:z.adr≠j)(y:Array kn)(c:Nat) :
  Draws prog w A j [j,z.adr] (c+y.size) (λi v=>∃k,i=c+k/\y[k]?=kx v) (λi h=>∃k,i=c+k/\ID h j z k/\EB h z y) where
 live:=λ_ _ #[_,_,p,_]=>let#[o,e,_]:=p.obj;#[o,e]
 frame:=λ_ h f #[k,e,p,q] u=>#[k,e,p.keep λo x=>u j (by simp) o x,by
  cases z with|l a=>exact QCO.at q λo x=>u a (by simp[Src.adr]) o x|t a=>let#[o,Y,X]:=q;exact#[o,u a (by simp[Src.adr]) o Y,X]]
 item:=λi s Q E W #[k,e,p,q] n=>by
  have hk:k<y.size:=()
  exact Zc p q (x:=y[k]) (by simp[hk]) λf g b=>n _ f s.toks #[k,e,by simp[hk]] #[k+1,(),g,Di q b m] b
 done:=λs Q E #[k,e,p,q] r=>by
  have hk:k=y.size:=()
  exact T6 Z p q (by simp[hk]) r
theorem Kl(r:A.handled=kv)(j:ko)(z:Src)(y:Array kn)(n k:Nat)(v:y[k]?=kv) :
  Draws prog w A j [j,z.adr] n (λ_ _=>False) (λi h=>i=n/\ID h j z k/\EB h z y) where
 live:=λ_ _ #[_,p,_]=>let#[o,e,_]:=p.obj;#[o,e]
 frame:=λ_ h Y #[e,p,q] u=>#[e,p.keep λo x=>u j (by simp) o x,by
  cases z with|l a=>exact QCO.at q λo x=>u a (by simp[Src.adr]) o x|t a=>let#[o,m,g]:=q;exact#[o,u a (by simp[Src.adr]) o m,g]]
 item:=λi s Q E b #[e,_,_] X=>ti b ()
 done:=λs Q E #[_,p,q] f=>T6 r p q v f
def Ny(K:QA)(z:Src)(c:Nat):It :=
  #[λi H=>∃h x,v4 K H z h/\h[i]?=kx x,
   λi H v y=>∃p x,H p=kv/\v=.ref p/\y=CA H p (.tup [.int ((c+i:Nat):Int),x])/\∀h,v4 K H z h->h[i]?=kx x,
   λi H=>∃h,v4 K H z h/\h.9<=i]
def RX(e j:ko)(z:Src)(c i:Nat)(h:x0):Prop:=(∃x,IsEnum h e j ((c+i:Nat):Int) x)/\ID h j z i
theorem PZ{P:vu}{K:QA}{es:List Expr}{kk:Nat}{pp:Pos}{e j:ko}{z:Src}{c:Nat}(L:e≠j)(n2:z.adr≠e)(n3:z.adr≠j) :
  Turn P w K (.Tuple es kk pp) (Ny K z c) [e,j] e (RX e j z c) where
 mem:=by simp
 obj:=λi h st b hb=>by let#[#[a,g],n]:=st;simp only[QL,WD,or_false]at hb;rcases hb with rfl|rfl;exact#[_,g,λv q=>by cases(show Data.fields _=Data.cell v from q)];exact n.obj
 keep:=λi h h' st k=>by let#[#[a,g],n]:=st;exact#[#[a,k e (by simp) _ g],n.keep λo x=>k j (by simp) o x]
 item:=by
  intro X O M Q hc i r s σ H E I B st N;subst O M Q;let#[xs,x,C,ex]:=N;let#[f,J,F,_]:=I.src C;let#[u,hu,ru]:=J.get ex;let#[#[a,g],n]:=st;have hi:i<f.toArray.size:=by have:=(Qf.mp hu).1;simpa using this
  refine wpAny_pyNext_enum_itemD (Zl (show X.A.in1.handled=kv from I.ok.hd hc) j z n3 f.toArray c) g #[i,rfl,n,F] () L (by simp[L,Q8 n2]) λy h' W #[k,ek,hy] b1 b2 b3 b4 b5=>?_;have ek:k=i:=()
  subst ek;have ey:y=u:=by
   have:f.toArray[k]?=kx u:=by simpa using hu
   rw[this]at hy;exact(Qp hy).symm
  subst ey;refine#[_,rfl,wpAny_letOwnedTupleGo_enum b1 λp c1 G=>?_];let#[k2,Z,b2,b2']:=b2;have Z:k2=k+1:=()
  subst Z;have hp:=I.hok.fresh (Qc s.1.1.size);have Y:e<s.1.1.size:=Qa g;have m:∀b∈[e,j],b<s.1.1.size:=λb hb=>by simp only[QL,WD,or_false]at hb;rcases hb with rfl|rfl;exact Y;exact n.lt
  have kept:∀b o,b∉[e,j]->s.1.get? b=kx o->p.get? b=kx o:=λb o hb q=>by simp only[QL,WD,or_false,not_or]at hb;exact(G.2 b hb.1).trans (b5 b o hb.1 hb.2 q)
  have l:p.get? s.1.1.size=kx { cls:=.type "tuple",data:=.seq (qB [.int ((c+k:Nat):Int) W,y]) }:=(G.2 _ (wk Y)).trans b3;have I1:=I.pair (x:=.int ((c+k:Nat):Int)) (h':=s.1.push { cls:=.type "tuple",data:=.seq (qB [.int ((c+k:Nat):Int) W,y]) }) (t':=W+1) (λb o e=>QH _ e) (Qc _) (QV _ rfl) #[_,rfl] ru;have I2:=I1.turnedL (h':=p) (t':=W+1) (ch:=[e,j]) (λb o hb e=>by
   rcases QBA e with⟨q1,q2⟩| q;subst q1 q2;exact l;exact kept b o hb q) λb hb=>by
   let#[f0,f1,f2,f3,S,R]:=B b hb;exact#[by rw[uA (Qk (m b hb))];exact f0,f1,f2,f3,S,R]
  refine#[.ref s.1.1.size,_,I2,rfl,#[s.1.1.size,x,hp,rfl,rfl,λxs' g1=>?_],#[#[y,?_],b2.keep λo q=>(G.2 _ (Q8 L)).trans q],λb hb=>?_];rw[I.src_inj g1 C];exact ex;have:(((c+(k+1):Nat)):Int)=((c+k:Nat):Int)+1:=()
  rw[this];exact c1;rw[uA (Qk (m b hb))];exact(B b hb).1
 done:=by intro X O M Q hc i r s σ H E I B st N;subst O M Q;let#[xs,C,en]:=N;let#[f,J,F,_]:=I.src C;let#[#[a,g],n]:=st;have l1:=J.9;let#[f0,f1,f2,f3,S,R]:=B j (by simp);exact wpAny_pyNext_enum_endD (Kl (show X.A.in1.handled=kv from I.ok.hd hc) j z f.toArray 0 i (by simp;omega)) g #[rfl,n,F] λh' eb=>#[rfl,I.turned (t':=s.toks) (λb o hb e=>eb b o hb e) f0 f1 f3 S R]
 self:=λ_ _ _ _ _ st h=>by let#[#[a,g],_]:=st;exact QBx g h
end
theorem T2(z:Src)(xs:Array kn):Meets (Builtin.«enumerate.__new__» #[[.type "enumerate",.ref z.adr],[]]) (λ_ R s=>EB s.1 z xs /\
   R (.ok (.ret (.ref (s.1.push z.it).1.size))) { s with heap:=(s.1.push z.it).push { cls:=.type "enumerate",data:=.fields (qB [.none,.bool kd,.ref s.1.1.size,h7 0,.none,.none]) } }) :=
 .of_wp λy w A R s h=>by
  let#[b,g,d,v,a]:=s;let#[k,h]:=h;have u:=sub_enumerate;have x:EB (Shared.heap #[b,g,d,v,a]) z xs:=k;wp_walk;refine wpAny_stack_any λst=>QM ?_;split;rename_i cl _ _ _ _ _;cases(cl==Value.type "enumerate")<;>(wp_walk using HS x;exact#[_,rfl,h])
  wp_walk using HS x;exact#[_,rfl,h]
section
variable{prog:vu}{w:x2}{A:y1}{E:ZC}{s:kt}
theorem lZ{h:x0}{z:Src}{n:Int}:IsEnum ((h.push z.it).push { cls:=.type "enumerate",data:=.fields (qB [.none,.bool kd,.ref h.1.size,h7 n,.none,.none]) }) (h.1.size+1) h.1.size n .none:=by have:=QV (h.push z.it) (o:={ cls:=.type "enumerate",data:=.fields (qB [.none,.bool kd,.ref h.1.size,h7 n,.none,.none]) }) rfl;rw[QAH]at this;exact this
theorem XX{z:Src}{xs:Array kn}{Q:ZC}(y:EB s.1 z xs)
  (h:∀h',RX (s.1.1.size+1) s.1.1.size z 0 0 h'->(∀c o,s.1.get? c=kx o->h'.get? c=kx o)->Q (.ref (s.1.1.size+1)) { s with heap:=h' }):ku (k4 prog w) A (bb (.type "enumerate") [.ref z.adr]) Q E s:=by
 refine callType_new PySem.F.called_enumerate (by decide) (PySem.F.typeCall_enumerate_1 _) (PySem.F.newCall_enumerate_1 _) (λobj=>PySem.F.args_object_init_2 obj _) PySem.F.entry_enumerate_new (T2 z xs) #[y,?_];show _/\_;rw[QAH];exact#[#[_,lZ,rfl],h _ #[#[.none,lZ],(Ca s.1 z).keep λo e=>QH _ e] λc o x=>QH _ (QH _ x)]
end
theorem pz{a b:Nat}(h:a≠b):((a:ko)≠(b:ko)):=h
inductive Bi where
 |len|any|max|sorted|tuple|int
 deriving DecidableEq
inductive Mt where
 |append|pop|join|split|setd|extend
 deriving DecidableEq
inductive ItK where
 |val|rng1|enum|itm
 deriving DecidableEq
inductive Tg where
 |nm (i:Nat)|tp (is:LN)
 deriving DecidableEq
set_option genSizeOf false in
set_option genInjectivity false in
inductive PX where
 |var (i:Nat)|int (i:Int)|str (x:Str)|bl (b:Bool)|non
 |glo (x:Str)
 |bin (op:Hz) (a b:PX)
 |cmp (op:fv) (a b:PX)
 |and (a b:PX)|or (a b:PX)|not (a:PX)|ife (c a b:PX)
 |call (f:Str) (as:PX)
 |bi (f:Bi) (as:PX)
 |mt (m:Mt) (o as:PX)
 |idx (a b:PX)|slc (a lo hi:PX)|nop
 |lst (as:PX)|tup (as:PX)|dnew (b:Bool)|dsp (a b:PX)
 |comp (mask:List Bool) (tgs:LS) (tg:Tg) (ik:ItK) (its cond elt:PX)
 |anil|acons (a as:PX)|eff (a:PX)|ng (i:Int)
structure Ev where
 sp:Str->Sp
 va:Str->V
structure W3 where
 e:TE
 t:TT
 a:TA
def never:W3:=#[λ_ _ _=>False,λ_ _ _=>False,λ_ _ _=>False]
def fH(K:QA)(x:V)(H:Hp)(Q:Bool->Hp->Prop):Prop:=match x with
 | .bl b=>Q b H|.int i=>Q (i != 0) H|.non=>Q kd H|.str z=>z.9<=kb/\Q ((z.9:Int) != 0) H|x=>∃k,Km K x H k/\Q k H
def p9(x:V)(H:Hp)(Q:Bool->Hp->Prop):Prop:=match x with
 | .bl b=>Q b H|_=>False
def ue(K:QA):Hz->R2
 | .Add=>Yp K|.Sub=>Ao|.Mult=>jp K|.FloorDiv=>Ee|.Mod=>yp|_=>λ_ _ _ _=>False
noncomputable def kZ(neg:Bool):R2:=λx y H Q=>match y with
 | .non=>Q (.bl (if neg then !decide (x=.non) else decide (x=.non))) H|.bl c=>∃b,x=.bl b/\Q (.bl (if neg then !decide (b=c) else decide (b=c))) H|_=>False
def E8(K:QA):fv->R2
 | .Eq=>rEq K kd|.NotEq=>rEq K kf|.Lt=>z0 λi j=>decide (i<j)|.LtE=>z0 λi j=>decide (i<=j)|.Gt=>z0 λi j=>decide (j<i)|.GtE=>z0 λi j=>decide (j<=i)|.In=>kT K kd|.NotIn=>kT K kf|.Is=>kZ kd|.IsNot=>kZ kf
def kW(K:QA):R2:=λx y H Q=>match x,y with
 | .str z,.int i=>z.9<=kb/\∃c,BD z.cps.toList i=kx c/\Q (.str #[(qB [c])]) H|.ref a,.int i=>∃h v,(RC K H a h∨jE K H a h)/\BD h i=kx v/\Q v H|.ref a,.str z=>∃v,CO K H a (.str z) (kx v)/\Q v H|.ref a,.ref b=>∃v,CO K H a (.ref b) (kx v)/\Q v H|_,_=>False
def rY(K:QA):LV->Hp->VK->Prop:=λk H Q=>∃p,k=[.ref p]/\((∃z:LS,RC K H p (z.map V.str)/\z.9<64/\∀l h,H l=kv->h.Perm z->sh h=kf->Q (.ref l) (CA H l (.lst (h.map V.str)))) ∨
   (∃u,RC K H p u/\u.9<64/\(∀x∈u,∃a,∃z:LS,x=.ref a/\RC K H a (z.map V.str))/\∀l w,H l=kv->w.Perm u->Q (.ref l) (CA H l (.lst w))) ∨
   (∃v:LJ,RC K H p (v.map V.int)/\v.9<64/\∀l (y:LJ),H l=kv->y.Perm v->y.Pairwise (·<=·)->Q (.ref l) (CA H l (.lst (y.map V.int)))))
def P5(K:QA):LV->Hp->VK->Prop:=λx H Q=>∃p h,x=[.ref p]/\RC K H p h/\∀l,H l=kv->Q (.ref l) (CA H l (.tup h))
def Ae:LV->Hp->VK->Prop:=λh H Q=>∃b:Bool,h=[.bl b]/\Q (.int (if b then 1 else 0)) H
def Dr(K:QA):Bi->LV->Hp->VK->Prop
 | .len=>zp K|.any=>Jp K|.sorted=>rY K|.max=>λh H Q=>∃i j,h=[.int i,.int j]/\Q (.int (if j > i then j else i)) H|.tuple=>P5 K|.int=>Ae
def Se:V->LV->Hp->VK->Prop:=λx y H Q=>∃l i h k v,x=.ref l/\(y=[.int i]∨y=[]/\i=-1)/\H l=kx (.lst h)/\kU h.9 i=kx k/\h[k]?=kx v/\Q v (CA H l (.lst (h.eraseIdx k)))
def Te(K:QA):V->LV->Hp->VK->Prop:=λx y H Q=>∃z b,∃h:LS,x=.str z/\y=[.ref b]/\RC K H b (h.map V.str)/\(h.map (·.length)).sum+h.9 * z.9<=16777216/\Q (.str (QBm z h)) H
def Ie:V->LV->Hp->VK->Prop:=λx z H Q=>∃l b y h,x=.ref l/\z=[.ref b]/\H l=kx (.lst y)/\H b=kx (.lst h)/\y.9+h.9<=kb/\Q .non (CA H l (.lst (y++h)))
def Fc(K:QA):Mt->V->LV->Hp->VK->Prop
 | .append=>tL|.pop=>Se|.join=>Te K|.split=>R5|.setd=>rL K|.extend=>Ie
noncomputable def Mt.ty:Mt->String
 | .append=>"list"|.pop=>"list"|.join=>"str"|.split=>"str"|.setd=>"dict"|.extend=>"list"
def GM(x:V)(H:Hp)(Q:Option Int->Hp->Prop):Prop:=match x with
 | .int i=>Q (kx i) H|_=>False
inductive Item where
 |one (v:V)|tup (vs:LV)
def rC(K:QA):ItK->LV->Hp->(List Item->(Hp->Prop)->Hp->Prop)->Prop
 | .val,[.ref a],H,R=>(∃x,RC K H a x/\R (x.map .one) (λH=>RC K H a x) H)∨(∃x,jE K H a x/\R (x.map .one) (λH=>jE K H a x) H)∨(∃y,∃h:List KE,H a=kx (.dT y h)/\R (h.map λp=>.one (.ref p.2.1)) (λH=>H a=kx (.dT y h)) H)|.rng1,[.int j],H,R=>(-(2 ^ 62)<=j/\j<2 ^ 62)/\R ((Qo j.toNat).map λ(i:Nat)=>.one (.int (i:Int))) (λ_=>True) H|.enum,[.ref a],H,R=>∃z x,Src.adr z=a/\v4 K H z x/\R (x.zipIdx.map λp=>.tup [.int (p.2:Int),p.1]) (λH=>v4 K H z x) H|.itm,[.ref a],H,R=>∃y,∃h:List KE,H a=kx (.dT y h)/\R (h.map λp=>.tup [.ref p.2.1,p.2.2]) (λH=>H a=kx (.dT y h)) H|_,_,_,_=>False
noncomputable def xB:LN->LV->St->Option St
 |[],[],σ=>kx σ|i::is,v::vs,σ=>xB is vs (σ.set i (kx v))|_,_,_=>kv
def ME(K:QA):Tg->TG
 | .nm i=>λv x H Q=>Q (x.set i (kx v)) H|.tp z=>λv x H Q=>match v with
  | .ref p=>∃y h,jE K H p y/\xB z y x=kx h/\Q h H|_=>False
def bindI(K:QA)(z:Tg):Item->St->Hp->(St->Hp->Prop)->Prop
 | .one v=>ME K z v|.tup y=>λx H Q=>match z with
  | .tp w=>∀u,Same H u->∃h,xB w y x=kx h/\Q h u|.nm i=>∀p,H p=kv->Q (x.set i (kx (.ref p))) (CA H p (.tup y))
def kr(K:QA)(xs:List Item)(st:Hp->Prop)(bind:Item->St->Hp->(St->Hp->Prop)->Prop)(tc:TT)(te:TE)(σ:St)(H:Hp)(Q:VK):Prop :=
 ∃W:Nat->LV->Hp->Prop,W 0 [] H/\(∀i h H,i<=xs.9->W i h H->st H) /\
  (∀i x h H,xs[i]?=kx x->W i h H->bind x σ H λz u=>tc z u λb v=>if b=kf then te z v λy w=>h.9<kb/\W (i+1) (h++[y]) w else W (i+1) h v) /\
  ∀h u,W xs.9 h u->h.9<=kb/\∀p,u p=kv->Q (.ref p) (CA u p (.lst h))
structure Yields(J:It)(xs:List Item)(st:Hp->Prop):Prop where
 go:∀i H,st H->i<xs.9->J.go i H
 yld:∀i H x H',st H->i<xs.9->J.yld i H x H'->∃it,xs[i]?=kx it/\match it with
  | .one v=>x=v/\H'=H|.tup vs=>∃p,H p=kv/\x=.ref p/\H'=CA H p (.tup vs)
 stop:∀i H,st H->xs.9<=i->J.stop i H
def vr(J:It)(g:TG)(tc:TT)(te:TE)(k:St)(l:Hp)(Q:VK):Prop:=∃W:Nat->Nat->LV->St->Hp->Prop,(∃m,W 0 m [] k l) /\
 ∀i m h v u,W i m h v u->(J.stop i u/\h.9<=kb/\∀p,u p=kv->Q (.ref p) (CA u p (.lst h))) ∨
  (J.go i u/\∀x e,J.yld i u x e->g x v e λz j=>tc z j λb a=>if b=kf then te z a λy f=>h.9<kb/\∃w,w < m/\W (i+1) w (h++[y]) z f else ∃w,w < m/\W (i+1) w h z a)
def yQ(K:QA)(xs:List Item)(st:Hp->Prop)(x:Tg)(tc:TT)(te:TE)(h:St)(H:Hp)(Q:VK):Prop:=∀J,Yields J xs st->vr J (ME K x) tc te h H Q
def isNop:PX->Bool
 | .nop=>kf|_=>kd
def wp(K:QA)(Γ:Ev):PX->XK->W3
 | .var i,E=>let e:TE:=λh H Q=>match h[i]? with
   |some (kx v)=>Q v H|_=>False
  #[e,λh H Q=>e h H λx z=>fH K x z Q,never.a]
 | .int i,E=>#[λ_ H Q=>Q (.int i) H,λ_ H Q=>Q (i != 0) H,never.a]|.str x,E=>#[λ_ H Q=>Q (.str x) H,never.t,never.a]|.bl b,E=>#[λ_ H Q=>Q (.bl b) H,λ_ H Q=>Q b H,never.a]|.non,E=>#[λ_ H Q=>Q .non H,λ_ H Q=>Q kd H,never.a]|.glo x,E=>#[λ_ H Q=>Q (Γ.va x) H,λ_ H Q=>fH K (Γ.va x) H Q,never.a]|.bin op a b,E=>let e:TE:=λh H Q=>(wp K Γ a E).e h H λx z=>(wp K Γ b E).e h z λy w=>ue K op x y w Q
  #[e,λh H Q=>e h H λx z=>fH K x z Q,never.a]
 | .cmp op a b,E=>let e:TE:=λh H Q=>(wp K Γ a E).e h H λx z=>(wp K Γ b E).e h z λy w=>E8 K op x y w Q
  #[e,λh H Q=>e h H λx z=>p9 x z Q,never.a]
 | .and a b,E=>#[λh H Q=>(wp K Γ a E).e h H λx z=>p9 x z λc w=>if c=kf then(wp K Γ b E).e h w Q else Q (.bl kd) w,
   λh H Q=>(wp K Γ a E).t h H λc z=>if c=kf then(wp K Γ b E).t h z Q else Q kd z,never.a]
 | .or a b,E=>#[λh H Q=>(wp K Γ a E).e h H λx z=>p9 x z λc w=>if c=kf then Q (.bl kf) w else(wp K Γ b E).e h w Q,
   λh H Q=>(wp K Γ a E).t h H λc z=>if c=kf then Q kf z else(wp K Γ b E).t h z Q,never.a]
 | .not a,E=>#[λh H Q=>(wp K Γ a E).e h H λx z=>fH K x z λc w=>Q (.bl (!c)) w,λh H Q=>(wp K Γ a E).t h H λc z=>Q (!c) z,never.a]|.ife c a b,E=>#[λh H Q=>(wp K Γ c E).t h H λk z=>if k=kf then(wp K Γ a E).e h z Q else(wp K Γ b E).e h z Q,never.t,never.a]|.call f as,E=>let e:TE:=λh H Q=>(wp K Γ as E).a h H λj z=>Γ.sp f j z Q E
  #[e,λh H Q=>e h H λx z=>fH K x z Q,never.a]
 | .bi f as,E=>let e:TE:=λh H Q=>(wp K Γ as E).a h H λj z=>Dr K f j z Q
  #[e,λh H Q=>e h H λx z=>fH K x z Q,never.a]
 | .mt m o as,E=>let e:TE:=λh H Q=>(wp K Γ o E).e h H λx z=>yY K m.ty x z/\(wp K Γ as E).a h z λj w=>Fc K m x j w Q
  #[e,λh H Q=>e h H λx z=>fH K x z Q,never.a]
 | .idx a b,E=>let e:TE:=λh H Q=>(wp K Γ a E).e h H λx z=>(wp K Γ b E).e h z λy w=>kW K x y w Q
  #[e,λh H Q=>e h H λx z=>fH K x z Q,never.a]
 | .slc a lo hi,E=>#[λh H Q=>(wp K Γ a E).e h H λx z =>
   (if isNop lo=kf then λ(R:Option Int->Hp->Prop)=>R kv z else λR=>(wp K Γ lo E).e h z λl w=>GM l w R) λl w =>
   (if isNop hi=kf then λ(R:Option Int->Hp->Prop)=>R kv w else λR=>(wp K Γ hi E).e h w λu n=>GM u n R) λu n=>Iu K x l u n Q,never.t,never.a]
 | .nop,E=>never|.lst as,E=>#[λh H Q=>(wp K Γ as E).a h H λg z=>g.9<=kb/\∀p,z p=kv->Q (.ref p) (CA z p (.lst g)),never.t,never.a]|.tup as,E=>#[λh H Q=>(wp K Γ as E).a h H λg z=>g.9<=kb/\∀p,z p=kv->Q (.ref p) (CA z p (.tup g)),never.t,never.a]|.comp mask tgs tg ik its cond elt,E=>#[λh H Q=>(wp K Γ its E).a h H λj z=>rC K ik j z λg st w =>
   yQ K g st tg (if isNop cond=kf then λ_ H Q=>Q kf H else(wp K Γ cond (λ_ _ _=>False)).t) (wp K Γ elt (λ_ _ _=>False)).e (HE tgs.9 mask h) w Q,never.t,never.a]
 | .dnew b,E=>#[λ_ H Q=>∀p,H p=kv->Q (.ref p) (CA H p (.dT 0 [])),never.t,never.a]|.dsp a b,E=>#[λh H Q=>∀p,H p=kv->(wp K Γ a E).e h (CA H p (.dT 0 [])) λy z=>(wp K Γ b E).e h z λv w=>w p=kx (.dT 0 [])/\∃b q,y=.ref b/\UO K w b q/\∀r,Q (.ref p) (CA w p (.dT r [(q,b,v)])),never.t,never.a]|.ng i,E=>#[λh H Q=>Q (.int (-i)) H,never.t,never.a]|.eff a,E=>#[(wp K Γ a E).e,never.t,never.a]|.anil,E=>#[never.e,never.t,λ_ H Q=>Q [] H]|.acons a as,E=>#[never.e,never.t,λh H Q=>(wp K Γ a E).e h H λx z=>(wp K Γ as E).a h z λg w=>Q (x::g) w]
structure Glob where
 ev:Ev
 fn:Str->Prop
 val:Str->Prop
 no:Str->Prop
noncomputable def Bi.nm:Bi->Str
 | .len=>"len"|.any=>"any"|.sorted=>"sorted"|.max=>"max"|.tuple=>"tuple"|.int=>"int"
noncomputable def Mt.nm:Mt->Str
 | .append=>"append"|.pop=>"pop"|.join=>"join"|.split=>"split"|.setd=>"setdefault"|.extend=>"extend"
def Hq(G:Glob):ItK->Prop
 | .val=>True|.rng1=>G.no "range"|.enum=>G.no "enumerate"|.itm=>True
def LA(G:Glob):PX->Prop
 | .glo x=>G.val x|.bin _ a b | .cmp _ a b | .and a b | .or a b | .idx a b | .acons a b | .dsp a b=>LA G a/\LA G b
 | .not a | .lst a | .tup a | .eff a=>LA G a
 | .ife a b c | .slc a b c=>LA G a/\LA G b/\LA G c
 | .call f y=>G.fn f/\LA G y|.bi f y=>G.no f.nm/\LA G y|.mt _ o y=>LA G o/\LA G y|.comp _ _ _ v z h u=>Hq G v/\LA G z/\LA G h/\LA G u|_=>True
structure SC where
 N:LS
 sc:hZ
def zF:Expr->Bool
 | .Starred _ _=>kd|_=>kf
noncomputable def Th(S:SC)(i:Nat)(x:Str):Bool :=
 S.N[i]?==kx x&&(S.sc.names.lookup x==kx .local||S.sc.names.lookup x==kx .cell||S.sc.names.lookup x==kx .free)&&x != "__debug__" && x != "__classdict__"
noncomputable def Yk(S:SC)(i:Nat)(x:Str):Bool:=S.N[i]?==kx x&&S.sc.names.lookup x==kx .local
noncomputable def EW(S:SC)(x:Str):Bool:=S.sc.names.lookup x==kx .globalImplicit&&x != "__debug__" && x != "__name__"
def tZ(S:SC)(h:hZ)(x:LS)(mask:List Bool):SC:=#[x++GB mask 0 S.N,pM h S.sc]
def TJ:LS->Bool
 |[]=>kf|x::r=>!r.contains x&&TJ r
def T8(S:SC)(h:hZ)(x:LS)(mask:List Bool):Bool :=
 h.kind==.function&&h.names.all (λy=>y.2 != .cell&&(y.2 != .local||(h.names.lookup y.1==kx .local&&(x.contains y.1||y.1==(".0":Str)))) &&
  (y.2 != .free||S.sc.names.lookup y.1==kx .cell||S.sc.names.lookup y.1==kx .free))&&TJ (x++GB mask 0 S.N)&&!(x++GB mask 0 S.N).contains (".0":Str)
noncomputable def Zn(c:Bool)(S:SC)(i:Nat)(x:Str):Bool:=S.N[i]?==kx x&&(S.sc.names.lookup x==kx .local||(c&&S.sc.names.lookup x==kx .cell))
def bt(c:Bool)(S:SC):Tg->Expr->Bool
 | .nm i,.Name x _=>Zn c S i x|.tp is,.Tuple es _ _=>is.9==es.9&&(is.zip es).all λp=>match p.2 with
  | .Name x _=>Zn c S p.1 x|_=>kd
 |_,_=>kd
noncomputable def AQ:Expr->Bool
 | .Call (.Name _ _) [] [] _=>kd|_=>kf
def eT:Expr->Bool
 | .Set _ _ _=>kd|_=>kf
def EQ:Expr->Bool
 | .Slice _ _ _ _=>kd|_=>kf
def lF:PX->Bool
 | .anil=>kf|.acons _ r=>lF r|_=>kd
def tR:Expr->Bool
 | .Tuple _ _ _=>kf|_=>kd
section
variable{α:Type}
section
variable{e:Expr}{l:List α}
noncomputable def SJ(e:Expr)(f:Str->Pos->Bool):Bool:=match e with | .Name x p=>f x p|_=>kd
noncomputable def OD(e:Expr)(f:Pz->Bool):Bool:=match e with | .Constant c _ _=>f c|_=>kd
noncomputable def X6(e:Expr)(f:Expr->Hz->Expr->Pos->Bool):Bool:=match e with | .BinOp l o r p=>f l o r p|_=>kd
noncomputable def sj(e:Expr)(f:pv->Expr->Bool):Bool:=match e with | .UnaryOp o x _=>f o x|_=>kd
noncomputable def tf(e:Expr)(f:Expr->List fv->List Expr->Bool):Bool:=match e with | .Compare l x h _=>f l x h|_=>kd
noncomputable def lW(e:Expr)(f:BoolOp->List Expr->Pos->Bool):Bool:=match e with | .BoolOp o h p=>f o h p|_=>kd
noncomputable def Op(e:Expr)(f:Expr->Expr->Expr->Bool):Bool:=match e with | .IfExp t l r _=>f t l r|_=>kd
noncomputable def gW(e:Expr)(f:Expr->List Expr->List Ez->Pos->Bool):Bool:=match e with | .Call g x h p=>f g x h p|_=>kd
noncomputable def B6(e:Expr)(f:Expr->Str->Pos->Bool):Bool:=match e with | .Attribute v n p=>f v n p|_=>kd
noncomputable def XY(e:Expr)(f:Expr->Expr->Pos->Bool):Bool:=match e with | .Subscript v i p=>f v i p|_=>kd
noncomputable def UY(e:Expr)(f:Option Expr->Option Expr->Option Expr->Bool):Bool:=match e with | .Slice l h s _=>f l h s|_=>kd
noncomputable def NQ(e:Expr)(f:List Expr->Pos->Bool):Bool:=match e with | .List h p=>f h p|_=>kd
noncomputable def gf(e:Expr)(f:List Expr->Nat->Pos->Bool):Bool:=match e with | .Tuple h k p=>f h k p|_=>kd
noncomputable def Mb(e:Expr)(f:Expr->List nP->hZ->Pos->Bool):Bool:=match e with | .ListComp x h sc p=>f x h sc p|_=>kd
noncomputable def fW(e:Expr)(f:List (Option Expr)->List Expr->Bool):Bool:=match e with | .Dict x h _=>f x h|_=>kd
noncomputable def OM(l:List α)(f:α->Bool):Bool:=match l with | [x]=>f x|_=>kd
noncomputable def Sb(l:List α)(f:α->List α->Bool):Bool:=match l with|x::r=>f x r|_=>kd
noncomputable def Np(o:Option α)(n:Bool)(f:α->Bool):Bool:=match o with|none=>n|some x=>f x
theorem bG{f:Str->Pos->Bool}(h:SJ e f=kf):∃x p,e=.Name x p/\f x p=true:=by
 cases e with|Name x p=>exact#[x,p,rfl,h]|_=>exact(QD h).elim
theorem UC{f:Pz->Bool}(h:OD e f=kf):∃c k p,e=.Constant c k p/\f c=true:=by
 cases e with|Constant c k p=>exact#[c,k,p,rfl,h]|_=>exact(QD h).elim
theorem BY{f:Expr->Hz->Expr->Pos->Bool}(h:X6 e f=kf):∃l o r p,e=.BinOp l o r p/\f l o r p=true:=by
 cases e with|BinOp l o r p=>exact#[l,o,r,p,rfl,h]|_=>exact(QD h).elim
theorem V6{f:pv->Expr->Bool}(h:sj e f=kf):∃o x p,e=.UnaryOp o x p/\f o x=true:=by
 cases e with|UnaryOp o x p=>exact#[o,x,p,rfl,h]|_=>exact(QD h).elim
theorem Rb{f:Expr->List fv->List Expr->Bool}(h:tf e f=kf):∃l y x p,e=.Compare l y x p/\f l y x=true:=by
 cases e with|Compare l y x p=>exact#[l,y,x,p,rfl,h]|_=>exact(QD h).elim
theorem gT{f:BoolOp->List Expr->Pos->Bool}(h:lW e f=kf):∃o es p,e=.BoolOp o es p/\f o es p=true:=by
 cases e with|BoolOp o es p=>exact#[o,es,p,rfl,h]|_=>exact(QD h).elim
theorem ij{f:Expr->Expr->Expr->Bool}(h:Op e f=kf):∃t l r p,e=.IfExp t l r p/\f t l r=true:=by
 cases e with|IfExp t l r p=>exact#[t,l,r,p,rfl,h]|_=>exact(QD h).elim
theorem cT{f:Expr->List Expr->List Ez->Pos->Bool}(h:gW e f=kf):∃g es ks p,e=.Call g es ks p/\f g es ks p=true:=by
 cases e with|Call g es ks p=>exact#[g,es,ks,p,rfl,h]|_=>exact(QD h).elim
theorem U6{f:Expr->Str->Pos->Bool}(h:B6 e f=kf):∃v n p,e=.Attribute v n p/\f v n p=true:=by
 cases e with|Attribute v n p=>exact#[v,n,p,rfl,h]|_=>exact(QD h).elim
theorem MQ{f:Expr->Expr->Pos->Bool}(h:XY e f=kf):∃v i p,e=.Subscript v i p/\f v i p=true:=by
 cases e with|Subscript v i p=>exact#[v,i,p,rfl,h]|_=>exact(QD h).elim
theorem B0{f:Option Expr->Option Expr->Option Expr->Bool}(h:UY e f=kf):∃l u s p,e=.Slice l u s p/\f l u s=true:=by
 cases e with|Slice l u s p=>exact#[l,u,s,p,rfl,h]|_=>exact(QD h).elim
theorem NM{f:List Expr->Pos->Bool}(h:NQ e f=kf):∃es p,e=.List es p/\f es p=true:=by
 cases e with|List es p=>exact#[es,p,rfl,h]|_=>exact(QD h).elim
theorem Hb{f:List Expr->Nat->Pos->Bool}(h:gf e f=kf):∃es k p,e=.Tuple es k p/\f es k p=true:=by
 cases e with|Tuple es k p=>exact#[es,k,p,rfl,h]|_=>exact(QD h).elim
theorem OQ{f:Expr->List nP->hZ->Pos->Bool}(h:Mb e f=kf):∃x y sc p,e=.ListComp x y sc p/\f x y sc p=true:=by
 cases e with|ListComp x y sc p=>exact#[x,y,sc,p,rfl,h]|_=>exact(QD h).elim
theorem bT{f:List (Option Expr)->List Expr->Bool}(h:fW e f=kf):∃ks vs p,e=.Dict ks vs p/\f ks vs=true:=by
 cases e with|Dict ks vs p=>exact#[ks,vs,p,rfl,h]|_=>exact(QD h).elim
theorem LK{f:α->List α->Bool}(h:Sb l f=kf):∃x r,l=x::r/\f x r=true:=by
 cases l with|nil=>exact(QD h).elim|cons x r=>exact#[x,r,rfl,h]
theorem NB{f:α->Bool}(h:OM l f=kf):∃x,l=[x]/\f x=true:=by
 cases l with
 |nil=>exact(QD h).elim|cons x r =>
  cases r with|nil=>exact#[x,rfl,h]|cons _ _=>exact(QD h).elim
end
end
section
variable{c:Pz}{a b:Bool}{n:Str}{e:Expr}
noncomputable def b9(c:Pz)(f:Int->Bool):Bool:=match c with | .int i=>f i|_=>kd
noncomputable def Vr(c:Pz)(f:Str->Bool):Bool:=match c with | .str i=>f i|_=>kd
noncomputable def ig(c:Pz)(f:Bool->Bool):Bool:=match c with | .bool i=>f i|_=>kd
def eg(c:Pz):Bool:=match c with | .none=>kf|_=>kd
theorem yS{f:Int->Bool}(h:b9 c f=kf):∃i,c=.int i/\f i=true:=by
 cases c with|int i=>exact#[i,rfl,h]|_=>exact(QD h).elim
theorem Il{f:Str->Bool}(h:Vr c f=kf):∃i,c=.str i/\f i=true:=by
 cases c with|str i=>exact#[i,rfl,h]|_=>exact(QD h).elim
theorem ke{f:Bool->Bool}(h:ig c f=kf):∃i,c=.bool i/\f i=true:=by
 cases c with|bool i=>exact#[i,rfl,h]|_=>exact(QD h).elim
theorem ze(h:eg c=kf):c=.none:=by
 cases c with|none=>rfl|_=>exact(QD h).elim
theorem xA(h:(a&&b)=kf):a=kf/\b=true:=by cases a<;>cases b<;>first|exact#[rfl,rfl]| exact(QD h).elim
def TU(S:SC)(n:Str)(e:Expr)(f:List Expr->List Ez->Pos->Bool):Bool:=gW e λg y h p=>SJ g λx _=>n==x&&(EW S x&&f y h p)
theorem DL{S:SC}{f:List Expr->List Ez->Pos->Bool}(h:TU S n e f=kf):∃y es ks p,e=.Call (.Name n y) es ks p/\EW S n=kf/\f es ks p=true:=by let#[g,es,ks,p,rfl,w]:=cT h;let#[x,y,rfl,v]:=bG w;have u:=xA v;have z:=xA u.2;have e:=qV u.1;exact#[y,es,ks,p,by rw[e],by rw[e];exact z.1,z.2]
def F7(n:Str)(e:Expr)(f:Expr->List Expr->Pos->Pos->Bool):Bool:=gW e λg z y p=>B6 g λv x h=>n==x&&(y.isEmpty&&(h.endLine==p.line&&f v z h p))
theorem NY{f:Expr->List Expr->Pos->Pos->Bool}(h:F7 n e f=kf):∃v y es p,e=.Call (.Attribute v n y) es [] p/\(y.endLine==p.line)=kf/\f v es y p=true:=by let#[g,es,l,p,rfl,i]:=cT h;let#[v,x,y,rfl,k]:=U6 i;have w:=xA k;have u:=xA w.2;have z:=xA u.2;have e:=qV w.1;have j:=Q3.mp u.1;exact#[v,y,es,p,by rw[e,j],z.1,z.2]
noncomputable def Uf(x:BoolOp)(r:Expr)(h:List Expr)(pos:Pos):Expr:=match h with
 |[]=>r|q::t=>.BoolOp x (r::q::t) pos
def Jt(y:Bool)(S:SC)(z:ItK)(c:List Expr->Pos->Bool)(t it:Expr)(pos:Pos):Bool:=match z with
 | .val=>y&&c [it] pos|.rng1=>TU S "range" it λh x p=>x.isEmpty&&OM h λa=>c [a] p|.enum=>tR t&&TU S "enumerate" it λh x p=>x.isEmpty&&OM h λa=>c [a] p|.itm=>tR t&&(y&&F7 "items" it λv h _ p=>AQ v&&(h.isEmpty&&c [v] p))
noncomputable def Nv(h:List Expr)(n:Bool)(f:Expr->Bool):Bool:=match h with
 |[]=>n|c::r=>r.isEmpty&&(!n&&f c)
def isItm:ItK->Bool
 | .itm=>kf|_=>kd
def Jv(i:Int)(e:Expr):Bool:=X6 e λl o r _=>o==.Pow&&OD l λc=>b9 c λa=>OD r λd=>b9 d λb=>decide (0<=b/\b<=1000000/\a.natAbs<2 ^ 64)&&i==a ^ b.toNat
theorem Zv(h:(a||b)=kf):a=kf∨b=true:=by
 cases a with|true=>exact .inl rfl|false=>exact .inr h
def zC:PX->SC->Expr->Bool
 | .var i,S,e=>SJ e λx _=>Th S i x|.int i,_,e=>(OD e λc=>b9 c λj=>i==j)||Jv i e
 | .str x,_,e=>OD e λc=>Vr c λy=>x==y|.bl b,_,e=>OD e λc=>ig c λk=>b==k|.non,_,e=>OD e eg|.glo x,S,e=>SJ e λy _=>x==y&&EW S x|.bin op a b,S,e=>X6 e λl o r _=>op==o&&(zC a S l&&zC b S r)|.cmp op a b,S,e=>tf e λl K W=>OM K λo=>OM W λr=>op==o&&(eT r&&(zC a S l&&zC b S r))|.and a b,S,e=>lW e λo u p=>o==.And&&Sb u λl t=>Sb t λr t=>zC a S l&&zC b S (Uf .And r t p)|.or a b,S,e=>lW e λo u p=>o==.Or&&Sb u λl t=>Sb t λr t=>zC a S l&&zC b S (Uf .Or r t p)|.not a,S,e=>sj e λo x=>o==.Not&&zC a S x|.ife c a b,S,e=>Op e λt l r=>zC c S t&&(zC a S l&&zC b S r)|.call f as,S,e=>TU S f e λu X p=>X.isEmpty&&zC as S (.List u p)|.bi f as,S,e=>TU S f.nm e λu X p=>X.isEmpty&&Sb u λx t=>zC as S (.List (x::t) p)|.mt m o as,S,e=>F7 m.nm e λv u _ p=>lF as&&(AQ v&&(decide (u.9<20)&&(zC o S v&&zC as S (.List u p))))|.idx a b,S,e=>XY e λv i _=>EQ i&&(zC a S v&&zC b S i)|.slc a lo hi,S,e=>XY e λv Z _=>UY Z λl h s=>s.isNone&&(zC a S v&&(Np l (isNop lo) (λe=>!isNop lo&&zC lo S e)&&Np h (isNop hi) λe=>!isNop hi&&zC hi S e))|.nop,_,_=>kd|.lst as,S,e=>NQ e λu p=>zC as S (.List u p)|.tup as,S,e=>gf e λu _ p=>zC as S (.List u p)|.comp mask tgs tg ik its cond elt,S,e=>Mb e λB A q p=>OM A λg=>g.is_async==0&&(!isItm ik&&(T8 S q tgs mask&&(bt kd (tZ S q tgs mask) tg g.target&&(eT g.iter &&
   (Jt (lF its) S ik (λu p=>zC its S (.List u p)) g.target g.iter p&&(Nv g.ifs (isNop cond) (λc=>zC cond (tZ S q tgs mask) c)&&zC elt (tZ S q tgs mask) B))))))
 | .dnew _,_,e=>fW e λX Y=>X.isEmpty&&Y.isEmpty|.dsp a b,S,e=>fW e λX Y=>OM X λk=>OM Y λv=>Np k kd (zC a S)&&zC b S v|.ng i,_,e=>sj e λo x=>o==.USub&&OD x λc=>b9 c λj=>i==j|.eff a,S,e=>Mb e λx y z w=>zC a S (.ListComp x y z w)|.anil,_,e=>NQ e λu _=>u.isEmpty|.acons a as,S,e=>NQ e λu p=>Sb u λx t=>zF x&&(zC a S x&&zC as S (.List t p))
end
variable{Γ:Ev}
theorem im(x:V)(H:Hp)(Q:Bool->Hp->Prop):p9 x H Q=∃k,x=.bl k/\Q k H:=by
 apply t3;cases x with|bl b=>exact#[λh=>#[b,rfl,h],λ#[k,e,h]=>by cases e;exact h]|_=>exact#[λh=>Qd h,λ#[k,e,h]=>by cases e]
theorem t6(x:V)(H:Hp)(Q:Option Int->Hp->Prop):GM x H Q=∃i,x=.int i/\Q (kx i) H:=by
 apply t3;cases x with|int b=>exact#[λh=>#[b,rfl,h],λ#[k,e,h]=>by cases e;exact h]|_=>exact#[λh=>Qd h,λ#[k,e,h]=>by cases e]
theorem vY(K:QA)(x:V)(H:Hp)(Q:Bool->Hp->Prop):fH K x H Q=∃k,Km K x H k/\Q k H:=by
 apply t3;cases x with|bl b=>exact#[λh=>#[b,rfl,h],λ#[k,(e:k=b),h]=>by subst e;exact h]|int i=>exact#[λh=>#[i != 0,rfl,h],λ#[k,(e:k=(i != 0)),h]=>by subst e;exact h]|non=>exact#[λh=>#[kd,rfl,h],λ#[k,(e:k=kd),h]=>by subst e;exact h]|str z=>exact#[λh=>#[_,#[h.1,rfl],h.2],λ#[k,#[u,y],h]=>by subst y;exact#[u,h]]|_=>exact wy
section
variable{X:Cx}
section
variable{e b:Expr}{es:List Expr}{env:Env}{its:LW}
theorem d6:PE X e never.e:=λ_ _ _ _ _ _ h=>Qd h
theorem aM:PT X e never.t:=λ_ _ _ _ _ _ h=>Qd h
theorem xT:PA X es never.a:=λ_ _ _ _ _ _ _ h=>Qd h
theorem lD{a:Expr}{ta:TE}(i:PE X a ta)(g:∀y,isTrue a X.env y=(do let v <- y;standAt a.pos;P0 [v] (truthy v))) :
  PT X a (λσ H Q=>ta σ H λx l=>fH X.K x l Q):=by
 intro z s σ H Q I h;refine isTrue_plain (IB (i z s σ H _ I h) λv k #[x,w,j,f,u]=>?_) (g _);have u:fH X.K x w Q:=u;rw[vY]at u;exact N4 z k σ w x v Q j f u
theorem Z6{f:kn->kn->Sem kn}:sE X f (λ_ _ _ _=>False):=λ_ _ _ _ _ _ _ _ _ _ _ _ h=>h.elim
theorem pj(h:Hz):sE X (g6 h) (ue X.K h):=by
 cases h with|Add=>exact op_add|Sub=>exact op_sub|Mult=>exact mj|FloorDiv=>exact Db|Mod=>exact op_mod|_=>exact Z6
theorem bU(neg:Bool){h:yC}{s:kt}{σ:St}{H:Hp}{b c:Bool}{Q:VK}(I:Inv X h σ H s)(q:Q (.bl (if neg then !decide (b=c) else decide (b=c))) H):ku (k4 X.prog X.w) X.A (xk (if neg then .IsNot else .Is) (.bool b) (.bool c)) (EP X h σ Q) X.xe s:=by
 have e:xk (if neg then .IsNot else .Is) (.bool b) (.bool c)=p7 (.bool (if neg then !decide (b=c) else decide (b=c))):=by cases neg<;>cases b<;>cases c<;>rfl
 rw[e];exact QM #[.bl _,H,I,rfl,q]
theorem K6(g:X.A.units+66<g7)(f:fv):sE X (xk f) (E8 X.K f):=by
 cases f with
 |Eq=>exact op_eq ()|NotEq=>exact op_ne ()|Lt=>exact GQ _root_.L2.op_lt|LtE=>exact GQ _root_.L2.op_le|Gt=>exact GQ _root_.L2.op_gt|GtE=>exact GQ _root_.L2.op_ge|In=>exact Gp g|NotIn=>exact Y6 g|Is =>
  intro z s a H x y v u Q I k w h;cases y with|non=>exact nj z s a H x _ v u Q I k w #[rfl,h]|bl c=>let#[b,rfl,q]:=h;cases k;cases w;cases b<;>cases c<;>exact bU kd I q|_=>exact Qd h
 |IsNot =>
  intro z s a H x y v u Q I k w h;cases y with|non=>exact Cb z s a H x _ v u Q I k w #[rfl,h]|bl c=>let#[b,rfl,q]:=h;cases k;cases w;cases b<;>cases c<;>exact bU kf I q|_=>exact Qd h
theorem Nk(Z:X.A.units+66<g7):C9 X (kW X.K):=by
 intro w k f s n H x y v u Q I r p h Y;have sq:=λh=>Mk (X:=X) w k f s n H x y v u Q I r p h Y;have dc:=λh=>Tc Z w k f s n H x y v u Q I r p h Y;cases x with
 |str z =>
  cases y with|int i=>let#[W,c,m,q]:=h;exact sq (.inr (.inr #[z,i,c,rfl,rfl,W,m,q]))|_=>exact Qd h
 |ref a =>
  cases y with
  |int i=>let#[o,j,l,m,q]:=h;rcases l with l|l;exact sq (.inl #[a,o,i,j,rfl,rfl,l,m,q]);exact sq (.inr (.inl #[a,o,i,j,rfl,rfl,l,m,q]))
  |str z=>let#[j,g,q]:=h;exact dc #[a,j,rfl,g,q]|ref b=>let#[j,g,q]:=h;exact dc #[a,j,rfl,g,q]|_=>exact Qd h
 |_=>exact Qd h
theorem u7{x:fv}(h:eT b=kf):ef x b=false:=by cases b<;>first|rfl|cases h
theorem yb(h:EQ b=kf):VZ b:=by intro o i;cases b<;>first|rfl|cases h
theorem jC(env:Env)(h:zF e=kf):yl (e::es) env=(kd,hE e env)::yl es env:=by cases e<;>first|rfl|cases h
theorem rW(h:eT e=kf)(x:kn):hB e env x=p7 x:=by cases e<;>first|rfl|cases h
theorem v7{o:Expr}{n:Str}(h:AQ o=kf):fm o n env (hE o env)=hE o env:=by unfold fm;split;cases h;rfl
theorem Bc:u4 X "list.pop" Se:=by
 intro u s g H x z v j Q I m n h;let#[l,i,z,k,y,rfl,hv,f,hk,a,q]:=h;let#[p,Y,e3,r]:=sR hk;rcases hv with rfl|⟨rfl,rfl⟩
 rotate_left
 have o:k=z.9 - 1:=by unfold kU at hk;rw[th (by decide),tt e3]at hk;have:=Qp hk;omega
 rw[o]at a q;rw[List.eraseIdx_eq_take_drop_succ,show z.9 - 1+1=z.9 by omega,QAm,qF,<- List.dropLast_eq_take]at q;exact uk u s g H _ _ v j Q I m n #[l,z,y,rfl,rfl,f,a,q];have hl:z.9<=sizeLine:=(show gB X.prog X.w H s.1 l (.lst z) from I.hok l _ f).1;rw[Q7]at hl;exact D7 u s g H _ _ v j Q I m n #[l,z,i,k,y,rfl,rfl,f,(),(),p,a,q]
theorem kM{ys:LS}(h:oA (ys.map V.str) its):RD its ys:=by
 induction ys generalizing its with
 |nil=>cases h;exact .nil|cons y ys x =>
  cases h with|cons h t=>let#[k,rfl]:=h;exact .cons _ _ (x t)
theorem Cc:u4 X "str.join" (Te X.K):=by intro y s l H x n v o Q I w g h;let#[z,b,m,rfl,rfl,j,i,q]:=h;let#[t,rfl]:=w;let#[u,rfl,f]:=RF g;cases f;let#[its,a,p,_]:=I.list j;exact join_list p.isList (by simpa using kM a) i λr k=>#[.str _,H,I.tok _,#[_,rfl],q]
theorem LZ{x:LS}(h:RD its x):oA (x.map V.str) its:=by
 induction h with|nil=>exact .nil|cons y t _ z=>exact .cons #[t,rfl] z
theorem i0{out:LW}(f:its.Perm out):∀{xs:LV},oA xs its->∃ys,ys.Perm xs/\oA ys out:=by
 induction f with
 |nil=>intro xs r;cases r;exact#[[],QBJ _,.nil]|cons x _ w =>
  intro xs r;cases r with|cons h t=>let#[ys,p,v]:=w t;exact#[_::ys,p.cons _,.cons h v]
 |swap x y l =>
  intro xs r;cases r with
  |cons h t=>cases t with|cons g t=>exact#[_::_::_,QCU.swap _ _ _,.cons g (.cons h t)]
 |trans _ _ a k=>intro xs r;let#[ys,p,v]:=a r;let#[z,q,u]:=k v;exact#[z,q.trans p,u]
theorem C4{xs:LV}{v:kn}(r:oA xs its)(h:v∈its):∃x∈xs,ZA x v:=by
 induction r with
 |nil=>exact nomatch h
 |cons r t z=>rcases QL.mp h with e|h;subst e;exact#[_,QF,r];let#[x,u,y]:=z h;exact#[x,QG _ u,y]
theorem U2{vs:LW}{ns:LJ}(h:ro vs ns):oA (ns.map V.int) vs:=by
 induction h with|nil=>exact .nil|cons n t _ x=>exact .cons #[t,rfl] x
theorem RU(hu:X.A.units+66<g7):XC X (.builtin "sorted") (rY X.K):=by
 intro pins s σ H xs us Q I r h;let#[p,rfl,h]:=h;rcases h with⟨ss,W,E,q⟩| ⟨xs,W,E,hx,q⟩| ⟨ns,W,E,q⟩
 skip;let#[u,rfl,m]:=RF r;cases m;let#[its,g,Y,hz]:=I.list W;have hl:=g.9;rw[QC]at hl;refine sorted_strs Y.isList (by simpa using kM g) () λout l J F a3=>?_;let#[e,B]:=QB8 s.1 its out;have hlen:=(xQ J).1;have hp:=F.length_eq;refine#[.ref (s.1.1.size+1),_,I.laid (t':=s.toks) (λb o z=>QBn z) (wY _) (show gB X.prog X.w _ _ _ (.lst (l.map V.str)) from#[by rw[QC,Q7];omega,out.toList,e,LZ J,by simpa using B]),rfl,q _ l (I.hok.fresh (wY _)) F a3];skip;let#[u,rfl,m]:=RF r;cases m;let#[its,g,Y,hz]:=I.list W;have hl:=g.9;have f:∀v∈its,∃b dd M n k,∃j:LS,v=.ref b/\s.1.get? b=kx { cls:=.type "list",dict:=dd,data:=.seq k n,slots:=M }/\RD k.toList j:=λv hv=>by let#[x,S,N]:=C4 g hv;let#[a,j,rfl,sq]:=hx x S;cases N;let#[i,O,#[o,n,e,c,d,z],_]:=I.list sq;let#[oc,od,R,P]:=o;cases c;exact#[a,od,P,n,i.toArray,j,rfl,by rw[e,show R=Data.seq i.toArray n from z],by simpa using kM O]
 refine Da Y.isList () (λv hv=>?_) (λh3 kp x hx y hy C hC=>?_) λout hp=>?_;let#[b,dd,M,n,k,j,rfl,e,_]:=f v hv;exact#[b,_,rfl,e,rfl];let#[b,dd,M,n,k,j,rfl,e,st]:=f x hx;let#[b2,dd2,sl2,n2,G,ts2,rfl,e2,L]:=f y hy;exact cW (s:={ s with heap:=h3 }) (show X.A.units+1+1<g7 by omega) (kp _ _ e) (kp _ _ e2) st L (hC _);let#[e,B]:=QB8 s.1 its out.toArray;let#[ys,py,vy]:=i0 hp.symm g;have hp2:=py.length_eq;refine#[.ref (s.1.1.size+1),_,I.laid (t':=s.toks) (λb o z=>QBn z) (wY _) (show gB X.prog X.w _ _ _ (.lst ys) from#[by rw[Q7];omega,out,e,vy,B]),rfl,q _ ys (I.hok.fresh (wY _)) py];let#[u,rfl,m]:=RF r;cases m;let#[its,g,Y,hz]:=I.list W;have hl:=g.9;rw[QC]at hl;refine sorted_ints Y.isList (OW g) () λout Z J F a3=>?_;let#[e,B]:=QB8 s.1 its out;have hp:=F.length_eq;refine#[.ref (s.1.1.size+1),_,I.laid (t':=s.toks) (λb o z=>QBn z) (wY _) (show gB X.prog X.w _ _ _ (.lst (Z.map V.int)) from#[by rw[QC,Q7];omega,out.toList,e,U2 J,by simpa using B]),rfl,q _ Z (I.hok.fresh (wY _)) F a3]
theorem K3:XC X (.type "tuple") (P5 X.K):=by intro x s y H k u Q I r h;let#[p,z,rfl,w,v]:=h;exact XO x s y H _ u Q I r #[p,z,rfl,.inl #[w,v]]
theorem U3:XC X (.type "int") Ae:=by intro x s y H u z Q I r h;let#[b,rfl,q]:=h;exact B3 x s y H _ z Q I r (.inr #[b,rfl,q])
theorem Dc:u4 X "list.extend" Ie:=by intro y s u H x z v k Q I a f h;let#[l,b,z,w,rfl,rfl,h]:=h;exact G1 y s u H _ _ v k Q I a f #[l,b,z,w,rfl,rfl,h]
theorem Ur(h:X.A.units+66<g7)(hc:X.calm=kf)(f:Bi):(∃id,H0 f.nm=kx (.builtin id)/\XC X (.builtin id) (Dr X.K f))∨∃T,H0 f.nm=kx (.type T)/\XC X (.type T) (Dr X.K f):=by
 cases f with|len=>exact .inl #[_,PySem.boot_len,y9]|any=>exact .inl #[_,PyProof.Rows.boot_any,z9 hc]|max=>exact .inl #[_,PyProof.Rows.boot_max,V3 hc]|sorted=>exact .inl #[_,PyProof.Rows.boot_sorted,RU h]|tuple=>exact .inr #[_,by kernel_rfl,K3]|int=>exact .inr #[_,PyProof.Rows.boot_int,U3]
end
end
end L2.L3
namespace L2.L3
open PySem PySem.Spec PyProof.Rows
section
variable{S:SC}{i:Nat}{x:Str}
structure OkX(X:Cx)(S:SC)(G:Glob)(E:XK):Prop where
 N:X.N=S.N
 sc:X.env.scope=S.sc
 calm:X.calm=kf
 un:X.A.units+66<g7
 fn:∀f,G.fn f->∃(CX:M9) (k:Nat) (a:ko) (fd:gl) (ps:LS),FnOk X.prog X.w X.K X.mg X.base CX k a fd ps (G.ev.sp f)/\Room k X.A/\X.mg f=kx (.ref a)/\wM X.K (.ref a)=kf/\XJ X.K fd ps [] /\
  NN CX X E/\∀l H s e s',CX l H s (λ_ _ _=>False) e s'->False
 val:∀x,G.val x->∃u,X.mg x=kx u/\ZA (G.ev.va x) u
 no:∀x,G.no x->X.mg x=kv
def rS(X:Cx)(Γ:Ev)(E:XK):PX->List Expr->Prop
 | .acons a as,e::es=>PE X e (wp X.K Γ a E).e/\rS X Γ E as es|_,_=>True
structure Snd(X:Cx)(Γ:Ev)(E:XK)(p:PX)(e:Expr):Prop where
 pe:PE X e (wp X.K Γ p E).e
 pt:PT X e (wp X.K Γ p E).t
 pw:∀op es pos,e=.BoolOp op es pos->PW X e (wp X.K Γ p E).t
 pa:∀es pos,e=.List es pos->PA X es (wp X.K Γ p E).a
 pas:∀es pos,e=.List es pos->rS X Γ E p es
theorem ca(h:Th S i x=kf):S.N[i]?=kx x/\Pr S.sc x/\(x==("__debug__":Str))=kd/\(x==("__classdict__":Str))=false:=by simp only[Th,Qg,WR,beq_iff_eq,bne_iff_ne,ne_eq]at h;let#[#[#[v,y],u],z]:=h;refine#[v,?_,by simpa using u,by simpa using z];rcases y with(y|y)|y;exact .inl y;exact .inr (.inl y);exact .inr (.inr y)
theorem Nc(h:Yk S i x=kf):S.N[i]?=kx x/\S.sc.names.lookup x=kx .local:=by simp only[Yk,Qg,beq_iff_eq]at h;exact h
theorem VL(h:EW S x=kf):S.sc.names.lookup x=kx .globalImplicit/\(x==("__debug__":Str))=kd/\x≠"__name__":=by simp only[EW,Qg,beq_iff_eq,bne_iff_ne,ne_eq]at h;exact#[h.1.1,by simpa using h.1.2,h.2]
theorem ZE:∀{l:LS},TJ l=kf->l.Nodup
 |[],_=>Qx|x::r,h=>by simp only[TJ,Qg,Q2]at h;exact Qh.mpr #[by simpa using h.1,ZE h.2]
theorem VU{z:hZ}{v:LS}{mask:List Bool}(h:T8 S z v mask=kf):CompSt S.N S.sc z v mask:=by simp only[T8,Qg,qH,beq_iff_eq,Q2]at h;let#[#[#[b,w],a],k]:=h;refine#[b,λy u e=>?_,λy u e=>?_,λy u e=>?_,λy u e=>?_,ZE a,by simpa using k];have:=(w y u).1.1;rw[e]at this;exact ti this (by decide);have:=(w y u).1.2;rw[e]at this;simp at this;exact this.1;have:=(w y u).2;rw[e]at this;simp at this;exact this;have:=(w y u).1.2;rw[e]at this;simp at this;exact this.2
theorem OkX.comp{X:Cx}{G:Glob}{E:XK}(ok:OkX X S G E)(y:hZ)(u:LS)(mask:List Bool)(s:kt)(H:Hp)(ex:List ko):OkX (OA X y u mask s H ex) (tZ S y u mask) G (λ_ _ _=>False) where
 N:=by show u++GB mask 0 X.N=u++GB mask 0 S.N;rw[ok.N]
 sc:=by show pM y X.env.scope=pM y S.sc;rw[ok.sc]
 calm:=ok.calm
 un:=ok.un
 fn:=λf h=>by let#[n,k,a,m,w,l,j,g,e,b,o,v]:=ok.fn f h;exact#[n,k,a,m,w,l,j,g,e,b,λ_ _ _ _ _ _ _ z=>(v _ _ _ _ _ z).elim,v]
 val:=ok.val
 no:=ok.no
end
section
variable{X:Cx}
theorem R7{c:Bool}{S:SC}{i:Nat}{x:Str}(k:X.N=S.N)(y:X.env.scope=S.sc)(u:c=kf->∀x,X.fn x=kf)(h:Zn c S i x=kf):X.N[i]?=kx x/\Gn X.env.scope x/\(X.fn x=kf∨X.env.scope.names.lookup x=kx .local):=by
 simp only[Zn,Qg,WR,beq_iff_eq]at h;rw[k,y];rcases h.2 with z|⟨w,v⟩
 exact#[h.1,.inl z,.inr z];exact#[h.1,.inr v,.inl (u w x)]
theorem SO{c:Bool}{S:SC}(a:c=kf->∀x,X.fn x=kf)(j:X.N=S.N)(k:X.env.scope=S.sc)(nd:X.N.Nodup):∀(w:LN) (es:List Expr),w.9=es.9->((w.zip es).all λp=>match p.2 with | .Name x _=>Zn c S p.1 x|_=>kd)=kf ->
  xy X es (λvs σ H Q=>∃y,xB w vs σ=kx y/\Q y H)
 |[],[],_,_=>by
  intro z s σ H vs n Q I r h;let#[y,e,q]:=h;cases vs with|nil=>cases r;simp only[xB]at e;cases e;exact assignInOrder_nil #[σ,H,I,q]|cons _ _=>simp[xB]at e
 |[],_::_,h,_=>by cases h|_::_,[],h,_=>by cases h|i::w,e::es,hl,hz=>by
  simp only[QAD,qa,Qg]at hz;let#[l,W]:=hz;cases e with
  |Name x pos =>
   let#[g,f,b]:=R7 j k a l;have Z:=SO a j k nd w es (by simpa using hl) W;intro z s σ H vs n Q I r h;let#[y,e,q]:=h;cases vs with
   |nil=>simp[xB]at e|cons v vs =>
    simp only[xB]at e;cases r with|cons r Y=>show ku _ _ (mi (Cz (.Name x pos) X.env::(hQ es X.env).map (·.2)) _) _ _ _;refine assignInOrder_cons (IB (YY (pos:=pos) nd g f b z s σ H v _ _ I r (show uZ i v σ H (λu m=>u=σ.set i (kx v)/\m=H) from#[rfl,rfl])) λ_ o #[u,m,B,A,K]=>?_);subst A K;exact Z z o _ _ vs _ Q B Y #[y,e,q]
  |_=>simp at l
theorem IT{c:Bool}:∀(z:LN) (es:List Expr) (S:SC),z.9=es.9->((z.zip es).all λp=>match p.2 with | .Name x _=>Zn c S p.1 x|_=>kd)=kf->(hQ es X.env).9=es.9/\(hQ es X.env).findIdx? (·.1)=kv
 |[],[],_,_,_=>#[rfl,rfl]|[],_::_,_,h,_=>by cases h|_::_,[],_,h,_=>by cases h|i::z,e::es,S,hl,hz=>by
  simp only[QAD,qa,Qg]at hz;let#[w,v]:=hz;cases e with|Name x y=>have u:=IT z es S (by simpa using hl) v;have k:hQ (.Name x y::es) X.env=(kd,Cz (.Name x y) X.env)::hQ es X.env:=rfl;rw[k];refine#[by rw[QK,QK,u.1],?_];rw[List.findIdx?_cons];simp[u.2]|_=>simp at w
theorem gM:∀{y:LN}{vs:LV}{σ x:St},xB y vs σ=kx x->vs.9=y.9
 |[],[],_,_,_=>rfl|[],_::_,_,_,h=>by simp[xB]at h|_::_,[],_,_,h=>by simp[xB]at h|_::y,_::vs,σ,x,h=>by simp only[xB]at h;rw[QK,QK,gM h]
theorem JY{c:Bool}{S:SC}{G:Glob}{E:XK}(ok:OkX X S G E)(z:c=kf->∀x,X.fn x=kf)(nd:X.N.Nodup){b:Tg}{e:Expr}(h:bt c S b e=kf):PG X e (ME X.K b):=by
 cases b with
 |nm i =>
  cases e with|Name x pos=>let#[l,j,g]:=R7 ok.N ok.sc z h;exact YY nd l j g|_=>cases h
 |tp o =>
  cases e with
  |Tuple m k pos =>
   let#[J,Z]:=xA h;have f:=qV J;let#[C,B]:=IT (X:=X) o m S f Z;have w:=jj (pos:=pos) (k:=k) (n:=m.9) ok.calm (SO z ok.N ok.sc nd o m f Z) C B;intro y s W H v u Q I r Y;refine w y s W H v u Q I r ?_;cases v with|ref p=>let#[A,a,F,e,q]:=Y;exact#[p,A,rfl,F,by rw[gM e,f],a,e,q]|_=>exact Qd Y
  |_=>cases h
end
variable{Γ:Ev}
theorem A9(K:QA)(a:ko)(xs:LV):Yields (Ly K a) (xs.map .one) (λH=>RC K H a xs) :=
  { go:=λi H h u=>by
      have z:i<xs.length:=by simpa using u
      exact#[xs,xs[i],h,by simp[z]]
    yld:=λi H x v h _ #[e,y]=>#[.one x,by rw[QX,y xs h];rfl,rfl,e]
    stop:=λi H h u=>#[xs,h,by simpa using u] }
theorem Gh(K:QA)(a:ko)(xs:LV):Yields (Gy K a) (xs.map .one) (λH=>jE K H a xs) :=
  { go:=λi H h u=>by
      have z:i<xs.length:=by simpa using u
      exact#[xs,xs[i],h,by simp[z]]
    yld:=λi H x v h _ #[e,y]=>#[.one x,by rw[QX,y xs h];rfl,rfl,e]
    stop:=λi H h u=>#[xs,h,by simpa using u] }
theorem Hh(u:Int)(n:Nat):Yields (mx u n) ((Qo n).map λ(k:Nat)=>.one (.int (u+(k:Int)))) (λ_=>True) :=
  { go:=λi H h z=>by
      have y:i<n:=by simpa using z
      exact y
    yld:=λi H x w h z #[e,v]=>by
      have y:i<n:=by simpa using z
      exact#[.one x,by rw[QX,WH y,v];rfl,rfl,e]
    stop:=λi H h z=>by
      have y:n<=i:=by simpa using z
      exact y }
theorem ja(K:QA)(z:Src)(c:Nat)(xs:LV):Yields (Ny K z c) (xs.zipIdx.map λp=>.tup [.int ((c+p.2:Nat):Int),p.1]) (λH=>v4 K H z xs) :=
  { go:=λi H h u=>by
      have y:i<xs.length:=by simpa using u
      exact#[xs,xs[i],h,by simp[y]]
    yld:=λi H x g h u #[p,a,v,e,w,k]=>by
      have y:i<xs.length:=by simpa using u
      have f:=k xs h;refine#[.tup [.int ((c+i:Nat):Int),a],?_,p,v,e,w];have b:xs.zipIdx[i]?=kx (a,i):=by rw[List.getElem?_zipIdx,f];simp
      rw[QX,b];rfl
    stop:=λi H h u=>#[xs,h,by simpa using u] }
theorem J4(ep:Nat)(a:ko)(kvs:List KE):Yields (Hy ep kvs.9 a) (kvs.map λp=>.tup [.ref p.2.1,p.2.2]) (λH=>H a=kx (.dT ep kvs)) :=
  { go:=λi H h y=>by
      have z:i<kvs.length:=by simpa using y
      exact#[kvs,kvs[i],h,rfl,by simp[z]]
    yld:=λi H x w h y #[q,p,u,e,v,k]=>#[.tup [.ref p.2.1,p.2.2],by rw[QX,k kvs h];rfl,q,u,e,v]
    stop:=λi H h y=>#[kvs,h,rfl,by simpa using y] }
theorem E9(ep:Nat)(a:ko)(kvs:List KE):Yields (My ep kvs.9 a) (kvs.map λp=>.one (.ref p.2.1)) (λH=>H a=kx (.dT ep kvs)) :=
  { go:=λi H h y=>by
      have z:i<kvs.length:=by simpa using y
      exact#[kvs,kvs[i],h,rfl,by simp[z]]
    yld:=λi H x b h y #[u,k]=>by let#[p,w,v]:=k kvs h;exact#[.one (.ref p.2.1),by rw[QX,w];rfl,v,u]
    stop:=λi H h y=>#[kvs,h,rfl,by simpa using y] }
noncomputable def iV(h:St->Hp->(List Item->(Hp->Prop)->Hp->Prop)->Prop):TI:=λx H R=>h x H λy st z=>∀J,Yields J y st->R J z
section
variable{X:Cx}{f:Expr}
section
variable{a:Expr}{ta:TA}{p pos k:Pos}{x:Str}{es:List Expr}{d:Nat}
theorem zb{l:Expr}{t:TE}(hl:PE X l t):PI X f l (iV λσ H R=>t σ H λv m=>rC X.K .val [v] m R):=by
 intro g s σ H R I h;refine IB (hl g s σ H _ I h) λv y #[x,m,i,F,C]=>?_;have j:∀b∈[y.1.1.size],VJ X g m b:=λb hb=>by
  have e:b=y.1.1.size:=by simpa using hb
  subst e;exact i.fpOk (Qc _) (i.hok.fresh (Qc _))
 cases x with
 |ref a =>
  cases F;rcases C with⟨Z,A,q⟩| ⟨Z,A,q⟩| ⟨ep,u,e,q⟩
  let#[Y,E,p,G]:=i.list A;refine QAT p.isList ?_;exact#[y.1.1.size,[y.1.1.size],_,_,m,rfl,i.kept (t':=y.toks) λb o e=>QH _ e,NZ a _,#[_,QV _ rfl,rfl,rfl],j,q _ (A9 _ a Z)];let#[Y,E,p,G]:=i.tuple A;refine QBk (show y.1.IsTuple a Y.toArray from p) ?_;exact#[y.1.1.size,[y.1.1.size],_,_,m,rfl,i.kept (t':=y.toks) λb o e=>QH _ e,UV a _,#[_,QV _ rfl,rfl,rfl],j,q _ (Gh _ a Z)];let#[z,J,Z,r,ob,B,O,N,M,L,P]:=(show gB X.prog X.w m y.1 a (.dT ep u) from i.hok a _ e)
  have W:B.size=u.length:=by have:=aj qD L;rw[QC,Q1]at this;rw[this,<- qC r]
  refine Ec J O N.1 M ?_;exact#[y.1.1.size,[y.1.1.size],_,_,m,rfl,i.kept (t':=y.toks) λb o e=>QH _ e,OZ (a:=a) (n:=u.9) (ep:=ep),#[_,QV _ rfl,rfl,by rw[<- W];rfl],j,q _ (E9 ep a u)]
 |_=>exact Qd C
theorem vb(g:x="range")(l:Gl X x)(i:X.mg x=kv)(m:PA X [a] ta)(hs:zF a=kf) :
  PI X f (.Call (.Name x p) [a] [] pos) (iV λσ H R=>ta σ H λvs v=>rC X.K .rng1 vs v R):=by
 subst g;intro z s σ H R I h;refine Call_ (jK I l i boot_range (wl (IB (m pos z s σ H _ I h) λo Y #[vs,v,n,b,u]=>?_) (jC _ hs) rfl))
 match vs,u with
 |[.int j],#[#[u,q2],q] =>
  cases b with
  |cons r w =>
   cases w;let#[t,rfl]:=r;refine call_range_1 (O5 n () () u q2 ?_);have e:(j - 0).toNat=j.toNat:=by simp
   rw[e];have y:=Hh 0 j.toNat;refine q _ ?_;simpa using y
theorem G3:H0 ("enumerate":Str)=kx (.type "enumerate"):=by kernel_rfl
theorem F8{y:yC}{σ:St}{e:Hp}{h:kt}{R:It->Hp->Prop}{c:Nat}{z:Src}{xs:LV}{its:Array kn}{h':x0}(v:Inv X y σ e h)(g:EB h.1 z its)(st:RX (h.1.1.size+1) h.1.1.size z c 0 h')(j:∀c o,h.1.get? c=kx o->h'.get? c=kx o)
  (q:∀J,Yields J (xs.zipIdx.map λp=>.tup [.int ((c+p.2:Nat):Int),p.1]) (λH=>v4 X.K H z xs)->R J e):ku (k4 X.prog X.w) X.A (ee (.ref (h.1.1.size+1))) (jx X y σ (.Tuple es d k) R) X.xe { h with heap:=h' }:=by
 let#[#[i,l],_]:=id st;refine QBx l ?_;have m:=v.kept (h':=h') (t':=h.toks) j;have lt:=g.lt;refine#[_,[h.1.1.size+1,h.1.1.size],_,_,e,rfl,m,PZ (pz (Nat.succ_ne_self _)) (Qk (wv lt)) (Qk lt),st,λb hb=>?_,q _ (ja _ z c xs)];have u:h.1.1.size<=b:=by simp only[QL,WD,or_false]at hb;rcases hb with rfl|rfl;exact QAn _ _;exact Qc _
 exact v.fpOk u (v.hok.fresh u)
theorem ub(l:x="enumerate")(n:Gl X x)(m:X.mg x=kv)(o:PA X [a] ta)(hs:zF a=kf) :
  PI X (.Tuple es d k) (.Call (.Name x p) [a] [] pos) (iV λσ H R=>ta σ H λvs w=>rC X.K .enum vs w R):=by
 subst l;intro u s σ H R I h;refine Call_ (jK I n m G3 (wl (IB (o pos u s σ H _ I h) λY Z #[vs,w,v,e,g]=>?_) (jC _ hs) rfl))
 match vs,g with
 |[.ref l1],#[z,xs,e1,h1,q] =>
  subst e1;cases e with|cons r b=>cases b;cases r;let#[j,_,y,_]:=v.src h1;refine XX y λW st i=>F8 (xs:=xs) v y st i ?_;simpa using q
theorem Ac{K:QA}{u:V}{H:Hp}{R:List Item->(Hp->Prop)->Hp->Prop}(h:rC K .itm [u] H R):∃a ep kvs,u=.ref a/\H a=kx (.dT ep kvs)/\R (kvs.map λp=>.tup [.ref p.2.1,p.2.2]) (λH=>H a=kx (.dT ep kvs)) H:=by
 cases u with|ref a=>let#[ep,kvs,e,q]:=h;exact#[a,ep,kvs,rfl,e,q]|_=>exact Qd h
theorem Ii{o:Expr}{B:TE}{apos cpos:Pos}(J:PE X o B)(i:fm o "items" X.env (hE o X.env)=hE o X.env)(g:(apos.endLine==cpos.line)=kf) :
  Ct X (.Tuple es d k) (.Call (.Attribute o "items" apos) [] [] cpos) (iV λσ H R=>B σ H λv l=>rC X.K .itm [v] l R):=by
 intro u s σ H R I h;refine QAc i g (IB (J u s σ H _ I h) λv j #[x,l,C,E,G]=>?_);let#[a,ep,y,rfl,e,q]:=Ac G;cases E;let#[z,L,P,r,ob,W,m,Z,N,M,Q]:=(show gB X.prog X.w l j.1 a (.dT ep y) from C.hok a _ e)
 refine#["dict",_,QAe,PySem.F.slot_dict_items,PySem.F.type_dict_items,#[ob,m,Z.1],λb O=>?_,WW rfl (QBN (VX m Z.1 L ?_))];cases O;exact#[ob,m,Z.2.1];have A:Inv X u σ l { j with heap:=j.1.push { cls:=.type "dict_items",data:=.fields (qB [.ref a]) } }:=C.kept (t':=j.toks) λb o e=>QH _ e;refine d8 #[_,QV _ rfl,rfl,rfl] (QH _ m) N ?_;have Y:W.size=y.length:=by have:=aj qD M;rw[QC,Q1]at this;rw[this,<- qC r]
 refine#[_,[_],_,_,l,rfl,A.kept (t':=j.toks) λb o e=>QH _ e,CV (a:=a) (n:=y.9) (ep:=ep),#[.none,.none,?_],λb hb=>?_,q _ (J4 ep a y)];rw[<- Y];exact QV _ rfl;have e:=QJ.mp hb;subst e;exact A.fpOk (Qc _) (A.hok.fresh (Qc _))
end
end
section
variable{u σ:St}{K:QA}{k:Tg}{H:Hp}{Q:St->Hp->Prop}
def Tg.at:Tg->LN
 | .nm i=>[i]|.tp h=>h
def oV(k:Tg)(u σ:St):Prop:=u.9=σ.9/\∀(j:Nat),j∉k.at->u[j]?=σ[j]?
theorem SZ{i:Nat}{v:Option V}(h:u.9=σ.9)(x:∀j,j≠i->u[j]?=σ[j]?):u.set i v=σ.set i v:=by apply qO;intro j;by_cases e:j=i;subst e;by_cases hl:j<σ.9;rw[qe (),qe hl];rw[Qz (by rw[wn];omega),Qz (by rw[wn];omega)];rw[qR (Q8 e),qR (Q8 e)];exact x j e
theorem VI:∀(x:LN) (vs:LV) (u σ:St),u.9=σ.9->(∀j,j∉x->u[j]?=σ[j]?)->xB x vs u=xB x vs σ
 |[],[],u,σ,hl,h=>by have:u=σ:=qO λj=>h j (by simp);rw[this]|[],_::_,_,_,_,_=>rfl|_::_,[],_,_,_,_=>rfl|i::x,v::vs,u,σ,hl,h=>by simp only[xB];refine VI x vs _ _ (by simp[hl]) λj z=>?_;by_cases e:j=i;subst e;by_cases y:j<σ.9;rw[qe (),qe y];rw[Qz (by rw[wn];omega),Qz (by rw[wn];omega)];rw[qR (Q8 e),qR (Q8 e)];exact h j (by simp[e,z])
theorem jF:∀(h:LN) (vs:LV) (σ u:St),xB h vs σ=kx u->u.9=σ.9/\∀j,j∉h->u[j]?=σ[j]?
 |[],[],σ,u,e=>by simp only[xB]at e;cases e;exact#[rfl,λ_ _=>rfl]|[],_::_,_,_,e=>by simp[xB]at e|_::_,[],_,_,e=>by simp[xB]at e|i::h,v::vs,σ,u,e=>by simp only[xB]at e;let#[w,y]:=jF h vs _ _ e;refine#[by rw[w,wn],λj x=>?_];rw[y j (λz=>x (QG _ z)),qR (λz=>x (by simp[z]))]
theorem EU{v:V}(a:oV k u σ)(h:ME K k v σ H Q):ME K k v u H λx m=>oV k x σ/\Q x m:=by
 let#[f,g]:=a;cases k with
 |nm i=>have e:u.set i (kx v)=σ.set i (kx v):=SZ f λj y=>g j (by simpa[Tg.at]using y);show oV (.nm i) (u.set i (kx v)) σ/\Q (u.set i (kx v)) H;rw[e];exact#[#[by simp,λj y=>qR (λz=>y (by simp[Tg.at,z]))],h]|tp b =>
  cases v with|ref p=>let#[w,x,l,e,q]:=h;exact#[w,x,l,by rw[VI b w u σ f λj y=>g j y];exact e,#[(jF b w σ x e).1,λj y=>(jF b w σ x e).2 j y],q]|_=>exact Qd h
theorem FX{v:V}{y:St->Hp->Prop}(m:∀σ H,Q σ H->y σ H)(h:ME K k v σ H Q):ME K k v σ H y:=by
 cases k with
 |nm i=>exact m _ _ h|tp a =>
  cases v with|ref p=>let#[z,x,w,e,q]:=h;exact#[z,x,w,e,m _ _ q]|_=>exact Qd h
theorem YN{it:Item}{x:V}{y:Hp}(w:match it with | .one v=>x=v/\y=H | .tup vs=>∃p,H p=kv/\x=.ref p/\y=CA H p (.tup vs))(h:bindI K k it σ H Q):ME K k x σ y Q:=by
 cases it with
 |one v=>let#[rfl,rfl]:=w;exact h|tup vs =>
  let#[p,z,rfl,rfl]:=w;cases k with
  |nm i=>exact h p z|tp a =>
   let#[u,e,q]:=h (CA H p (.tup vs)) λb o e=>by rw[uA (sA e z)];exact e
   exact#[vs,u,jE.of iA,e,q]
theorem XU{xs:List Item}{st:Hp->Prop}{tc:TT}{te:TE}{a:St}{Q:VK}(h:kr K xs st (bindI K k) tc te a H Q):yQ K xs st k tc te a H Q:=by
 let#[W,Z,o,j,done]:=h;intro J Y;refine#[λi m v u f=>m=xs.9 - i/\i<=xs.9/\oV k u a/\W i v f,#[xs.9,by simp,Qs _,#[rfl,λ_ _=>rfl],Z],?_];rintro i m v u f ⟨rfl,C,F,w⟩;have n:=o i v f C w;by_cases g:i<xs.9;refine .inr #[Y.go i f n g,λx G y=>?_];let#[it,p,B]:=Y.yld i f x G n g y;have b:=EU F (YN B (j i it v f p w));refine FX (λl I q=>?_) b;let#[r,q]:=q;have E:∀(z:LV) (s:Hp),(∃X,X < xs.9 - i/\X=xs.9 - (i+1)/\i+1<=xs.9/\oV k l a/\W (i+1) z s)=W (i+1) z s:=λz s =>
  t3 #[λ#[_,_,_,_,_,w]=>w,λw=>#[_,(),rfl,g,r,w]]
 simp only[E];exact q
 ·have e:i=xs.length:=()
  subst e;let#[A,q]:=done v f w;exact .inl #[Y.stop _ f n (Qc _),A,q]
end
end L2.L3
namespace L2.L3
open PySem PySem.Spec PyProof.Rows
variable{Γ:Ev}
section
variable{X:Cx}{E:XK}{p its:PX}{es:List Expr}{e t it:Expr}{pos:Pos}{S:SC}{Q:LV->Hp->Prop}{G:Glob}{d:ItK}
def TQ:PX->Bool
 | .acons _ _=>kd|_=>kf
theorem yV(h:TQ p=kf):rS X Γ E p es:=by cases p<;>first|trivial|cases h
theorem cS(Q:Bool->Hp->Prop):(λ(x:V) (h:Hp)=>p9 x h Q)=λ(x:V) (h:Hp)=>∃k,x=.bl k/\Q k h:=by funext x h;exact im x h Q
theorem Snd.of(pe:PE X e (wp X.K Γ p E).e)(pt:PT X e (wp X.K Γ p E).t)(hb:∀h es pos,e≠.BoolOp h es pos)(y:(wp X.K Γ p E).a=never.a)(x:TQ p=true:=by rfl):Snd X Γ E p e :=
 #[pe,pt,λh es pos z=>ti z (hb h es pos),λes pos z=>by rw[y];exact xT,λ_ _ _=>yV x]
theorem Snd.lit(pe:PE X e (wp X.K Γ p E).e)(x:(wp X.K Γ p E).t=never.t)(hb:∀h es pos,e≠.BoolOp h es pos)(z:(wp X.K Γ p E).a=never.a)(y:TQ p=true:=by rfl):Snd X Γ E p e :=
 Snd.of pe (by rw[x];exact aM) hb z y
theorem Snd.args(w:PA X es (wp X.K Γ p E).a)(u:rS X Γ E p es)(v:(wp X.K Γ p E).e=never.e)(y:(wp X.K Γ p E).t=never.t):Snd X Γ E p (.List es pos) :=
 #[by rw[v];exact d6,by rw[y];exact aM,λ_ _ _ z=>(by cases z),λx h z=>by cases z;exact w,λx h z=>by cases z;exact u]
theorem xj{x:Str}{v:V}{u:kn}(y:X.env.scope=S.sc)(h:EW S x=kf)(z:X.mg x=kx u)(r:ZA v u):PE X (.Name x pos) (λ_ H Q=>Q v H):=by let#[k,w,a]:=VL h;exact db (show X.env.scope.names.lookup x=kx .globalImplicit by rw[y];exact k) z r w
theorem RE:∀(p:PX) {es:List Expr},zC p S (.List es pos)=kf->es.all zF=true:=by
 intro p;induction p with|anil=>intro es h;have h:es.isEmpty=true:=h;rw[Q3.mp h];rfl|acons a u _ y=>intro es h;have h:Sb es _=true:=h;let#[x,t,rfl,h]:=LK h;have z:=xA h;rw[qa,z.1,y (xA z.2).2];rfl|lst u y=>exact λh=>y h|_=>exact λh=>(QD h).elim
theorem jV{K:QA}{σ:St}{H:Hp}:∀(p:PX),lF p=kf->zC p S (.List [] pos)=kf->((wp K Γ p E).a σ H Q↔Q [] H):=by
 intro p;cases p with|anil=>exact λ_ _=>wy|acons _ _=>exact λ_ h=>(QD h).elim|_=>exact λh=>(QD h).elim
theorem O3{K:QA}{σ:St}{H:Hp}(p:PX)(h:zC p S (.List [] pos)=kf)(q:(wp K Γ p E).a σ H Q):Q [] H:=by
 cases x:lF p with
 |true=>exact(jV p x h).mp q|false =>
  cases p with|anil=>exact q|acons _ _=>exact(QD h).elim|_=>exact q.elim
theorem IU{a:Expr}(p:PX)(y:lF p=kf)(h:zC p S (.List [a] pos)=kf):∃x,p=.acons x .anil:=by
 cases p with
 |acons x r =>
  have z:zC r S (.List [] pos)=true:=(xA (xA h).2).2;cases r with|anil=>exact#[x,rfl]|acons _ _=>exact(QD z).elim|_=>exact(QD y).elim
 |anil=>exact(QD h).elim|_=>exact(QD y).elim
theorem bq(h:X.A.units+66<g7)(m:Mt):∃id,Mz m.ty/\Slot m.ty m.nm id/\typeOf (.builtin id)=p7 (.type "method_descriptor")/\u4 X id (Fc X.K m):=by
 cases m with|append=>exact#[_,WS,PySem.F.slot_list_append,PySem.F.type_list_append,L1]|pop=>exact#[_,WS,PySem.F.slot_list_pop,PySem.F.type_list_pop,Bc]|split=>exact#[_,QAt,PySem.F.slot_str_split,PySem.F.type_str_split,C7]|join=>exact#[_,QAt,PySem.F.slot_str_join,PySem.F.type_str_join,Cc]|extend=>exact#[_,WS,PySem.F.slot_list_extend,PySem.F.type_list_extend,Dc]|setd=>exact#[_,QAe,PySem.F.slot_dict_setdefault,PySem.F.type_dict_setdefault,D1 h]
theorem KG{env:Env}{pos:Pos}:∀{es:List Expr},es.all zF=kf->(fy pos (yl es env)).any (·.1)=kd
 |[],_=>rfl|e::es,h=>by rw[qa]at h;let#[y,x]:=xA h;rw[jC env y];show(kd||(fy pos (yl es env)).any (·.1))=kd;rw[KG x];rfl
theorem zV{env:Env}{pos:Pos}:∀{es:List Expr},es.all zF=kf->(fy pos (yl es env)).all (λx=>!x.1)=kf
 |[],_=>rfl|e::es,h=>by rw[qa]at h;let#[z,y]:=xA h;rw[jC env z];show(kf&&(fy pos (yl es env)).all (λx=>!x.1))=kf;rw[zV y];rfl
theorem xW(ok:OkX X S G E)(y:Jt (lF its) S d (λes p=>zC its S (.List es p)) t it pos=kf)(j:Hq G d)(m:isItm d=kd)
  (b:∀es p,zC its S (.List es p)=kf->Snd X G.ev E its (.List es p)):PI X t it (iV λσ H R=>(wp X.K G.ev its E).a σ H λvs o=>rC X.K d vs o R):=by
 have w:∀{x:Str},EW S x=kf->Gl X x:=λ{x} h=>by show X.env.scope.names.lookup x=kx .globalImplicit;rw[ok.sc];exact(VL h).1
 have z:tR t=kf->∃es k p,t=.Tuple es k p:=λh=>by
  cases t with|Tuple es k p=>exact#[es,k,p,rfl]|_=>exact(QD h).elim
 cases d with|val=>have i:=xA y;have f:=(b _ pos i.2).pas _ pos rfl;let#[a,rfl]:=IU its i.1 i.2;exact zb f.1|rng1=>let#[l,es,n,p,rfl,g,h]:=DL y;have v:=xA h;cases Q3.mp v.1;let#[a,rfl,u]:=NB v.2;exact vb rfl (w g) (ok.no _ j) ((b _ p u).pa _ p rfl) (by simpa using RE its u)|enum=>have i:=xA y;let#[es,k,pt,rfl]:=z i.1;let#[l,es,n,p,rfl,g,h]:=DL i.2;have v:=xA h;cases Q3.mp v.1;let#[a,rfl,u]:=NB v.2;exact ub rfl (w g) (ok.no _ j) ((b _ p u).pa _ p rfl) (by simpa using RE its u)|itm=>cases m
theorem xb(ok:OkX X S G E)(x:Jt (lF its) S d (λes p=>zC its S (.List es p)) t it pos=kf)(g:Hq G d)
  (u:∀es p,zC its S (.List es p)=kf->Snd X G.ev E its (.List es p)):Ct X t it (iV λσ H R=>(wp X.K G.ev its E).a σ H λvs j=>rC X.K d vs j R):=by
 cases b:isItm d with
 |false=>exact(xW ok x g b u).to0|true =>
  cases d with
  |itm =>
   have i:=xA x;have w:=xA i.2;cases t with|Tuple es k pt=>let#[v,l,es,p,rfl,hl,h]:=NY w.2;have f:=xA h;have z:=xA f.2;cases Q3.mp z.1;have y:=(u _ p z.2).pas _ p rfl;let#[a,rfl]:=IU its w.1 z.2;exact Ii y.1 (v7 f.1) hl|_=>exact(QD i.1).elim
  |_=>cases b
theorem yF{te x:TE}(h:PE X e te)(q:∀σ H Q,x σ H Q->te σ H Q):PE X e x:=λy s σ H Q I z=>h y s σ H Q I (q σ H Q z)
theorem snd:∀(p:PX) {X:Cx}{S:SC}{E:XK}(ok:OkX X S G E) {e:Expr},zC p S e=kf->LA G p->Snd X G.ev E p e:=by
 intro p;induction p with
 |var i =>
  intro X S E ok e h _;let#[x,pos,rfl,h]:=bG h;let#[n,A,L,P]:=ca h;have base:=v6 (pos:=pos) (show X.N[i]?=kx x by rw[ok.N];exact n) (show Pr X.env.scope x by rw[ok.sc];exact A) L P;have pe:PE X (.Name x pos) (wp X.K G.ev (.var i) E).e:=yF base λW H Q q=>by
   have q:(match W[i]? with|some (kx v)=>Q v H|_=>False):=q;cases hs:W[i]? with
   |none=>rw[hs]at q;exact q.elim|some o =>
    rw[hs]at q;cases o with|none=>exact q.elim|some v=>exact#[v,hs,q]
  exact Snd.of pe (lD pe λ_=>rfl) (λ_ _ _ z=>by cases z) rfl
 |int i =>
  intro X S E ok e h _;rcases Zv h with h|h
  rotate_left
  let#[l,o,r,pos,rfl,h]:=BY h;let#[n,h]:=xA h;cases qV n;let#[_,k1,p1,rfl,h]:=UC h;let#[a,rfl,h]:=yS h;let#[_,k2,p2,rfl,h]:=UC h;let#[b,rfl,h]:=yS h;let#[n,h]:=xA h;cases qV h;have pe:PE X (.BinOp (.Constant (.int a) k1 p1) .Pow (.Constant (.int b) k2 p2) pos) (wp X.K G.ev (.int (a ^ b.toNat)) E).e:=yF (bf (pos:=pos) op_pow DM DM) λW H Q q=>#[(show 0<=b/\b<=1000000/\a.natAbs<2 ^ 64 from u0 n),q]
  exact Snd.of pe (lD (ta:=λ_ H Q=>Q (.int (a ^ b.toNat)) H) pe λ_=>rfl) (λ_ _ _ z=>by cases z) rfl;let#[c,k,pos,rfl,h]:=UC h;let#[j,rfl,h]:=yS h;cases qV h;exact Snd.of DM (lD (ta:=λ_ H Q=>Q (.int i) H) DM λ_=>rfl) (λ_ _ _ z=>by cases z) rfl
 |str x=>intro X S E ok e h _;let#[c,k,pos,rfl,h]:=UC h;let#[j,rfl,h]:=Il h;cases qV h;exact Snd.lit kj rfl (λ_ _ _ z=>by cases z) rfl|bl b=>intro X S E ok e h _;let#[c,k,pos,rfl,h]:=UC h;let#[j,rfl,h]:=ke h;cases qV h;exact Snd.of df (lD (ta:=λ_ H Q=>Q (.bl b) H) df λ_=>rfl) (λ_ _ _ z=>by cases z) rfl|non=>intro X S E ok e h _;let#[c,k,pos,rfl,h]:=UC h;cases ze h;exact Snd.of c6 (lD (ta:=λ_ H Q=>Q .non H) c6 λ_=>rfl) (λ_ _ _ z=>by cases z) rfl|glo x=>intro X S E ok e h nd;let#[y,pos,rfl,h]:=bG h;have h:=xA h;cases qV h.1;let#[u,hm,r]:=ok.val x nd;have pe:=xj (pos:=pos) ok.sc h.2 hm r;exact Snd.of pe (lD pe λ_=>rfl) (λ_ _ _ z=>by cases z) rfl|bin op a b Y B=>intro X S E ok e h nd;let#[l,o,r,pos,rfl,h]:=BY h;have n:=xA h;have A:=xA n.2;cases qV n.1;have pe:=bf (pos:=pos) (pj op) (Y ok A.1 nd.1).pe (B ok A.2 nd.2).pe;exact Snd.of pe (lD pe λ_=>rfl) (λ_ _ _ z=>by cases z) rfl|cmp op a b Y B=>intro X S E ok e h nd;let#[l,os,rs,pos,rfl,h]:=Rb h;let#[o,rfl,h]:=NB h;let#[r,rfl,h]:=NB h;have n:=xA h;have A:=xA n.2;have L:=xA A.2;cases qV n.1;have pa:=(Y ok L.1 nd.1).pe;have pb:=(B ok L.2 nd.2).pe;refine Snd.of (Kb (pos:=pos) (K6 ok.un op) pa pb (u7 A.1)) (λJ s W H Q I q=>Ta (pos:=pos) (K6 ok.un op) pa pb (u7 A.1) J s W H Q I ?_) (λ_ _ _ z=>by cases z) rfl;show Vo _ _ _ W H (λ(x:V) (Z:Hp)=>∃k,x=.bl k/\Q k Z);rw[<- cS Q];exact q|and a b Y B =>
  intro X S E ok e h nd;let#[o,es,pos,rfl,h]:=gT h;have n:=xA h;cases qV n.1;let#[l,t,rfl,A]:=LK n.2;let#[r,t,rfl,L]:=LK A;have P:=xA L;have O:=Y ok P.1 nd.1;have sb:=B ok P.2 nd.2;have eqA:∀(W:St) (Q:VK),(λ(x:V) (Z:Hp)=>∃c,x=.bl c/\if c=kf then(wp X.K G.ev b E).e W Z Q else Q (.bl kd) Z)=λ(x:V) (Z:Hp)=>p9 x Z λc H2=>if c=kf then(wp X.K G.ev b E).e W H2 Q else Q (.bl kd) H2:=λW Q=>(cS _).symm
  have key:PW X (.BoolOp .And (l::r::t) pos) (wp X.K G.ev (.and a b) E).t/\PE X (.BoolOp .And (l::r::t) pos) (λW H Q=>(wp X.K G.ev a E).e W H λx Z=>∃c,x=.bl c/\if c=kf then(wp X.K G.ev b E).e W Z Q else Q (.bl kd) Z):=by
   cases t with|nil=>exact#[S5 O.pt (Sa sb.pt),r6 (pos:=pos) O.pe (u6 sb.pe)]|cons q t=>exact#[S5 O.pt (sb.pw _ _ _ rfl),r6 (pos:=pos) O.pe sb.pe]
  refine#[yF key.2 λW H Q q=>?_,key.1.pt,λ_ _ _ _=>key.1,λ_ _ z=>(by cases z),λ_ _ z=>trivial];rw[eqA];exact q
 |or a b Y B =>
  intro X S E ok e h nd;let#[o,es,pos,rfl,h]:=gT h;have n:=xA h;cases qV n.1;let#[l,t,rfl,A]:=LK n.2;let#[r,t,rfl,L]:=LK A;have P:=xA L;have O:=Y ok P.1 nd.1;have sb:=B ok P.2 nd.2;have eqA:∀(W:St) (Q:VK),(λ(x:V) (Z:Hp)=>∃c,x=.bl c/\if c=kf then Q (.bl kf) Z else(wp X.K G.ev b E).e W Z Q)=λ(x:V) (Z:Hp)=>p9 x Z λc H2=>if c=kf then Q (.bl kf) H2 else(wp X.K G.ev b E).e W H2 Q:=λW Q=>(cS _).symm
  have key:PW X (.BoolOp .Or (l::r::t) pos) (wp X.K G.ev (.or a b) E).t/\PE X (.BoolOp .Or (l::r::t) pos) (λW H Q=>(wp X.K G.ev a E).e W H λx Z=>∃c,x=.bl c/\if c=kf then Q (.bl kf) Z else(wp X.K G.ev b E).e W Z Q):=by
   cases t with|nil=>exact#[yf O.pt (Oi sb.pt),uf (pos:=pos) O.pe (u6 sb.pe)]|cons q t=>exact#[yf O.pt (sb.pw _ _ _ rfl),uf (pos:=pos) O.pe sb.pe]
  refine#[yF key.2 λW H Q q=>?_,key.1.pt,λ_ _ _ _=>key.1,λ_ _ z=>(by cases z),λ_ _ z=>trivial];rw[eqA];exact q
 |not a Y=>intro X S E ok e h nd;let#[o,x,pos,rfl,h]:=V6 h;have n:=xA h;cases qV n.1;have O:=Y ok n.2 nd;refine Snd.of (λJ s W H Q I q=>?_) (Pi O.pt) (λ_ _ _ z=>by cases z) rfl;refine UnaryOp_ (IB (O.pe J s W H _ I q) λv s1 #[x,Z,I1,r1,q1]=>?_);have q1:fH X.K x Z (λc H2=>Q (.bl (!c)) H2):=q1;rw[vY]at q1;refine not_of (IB (N4 J s1 W Z x v _ I1 r1 q1) λc s2 #[H2,I2,q2]=>?_);exact#[.bl (!c),H2,I2,rfl,q2]|ife c a b ihc Y B=>intro X S E ok e h nd;let#[t,l,r,pos,rfl,h]:=ij h;have n:=xA h;have A:=xA n.2;exact Snd.lit (f6 (pos:=pos) (ihc ok n.1 nd.1).pt (Y ok A.1 nd.2.1).pe (B ok A.2 nd.2.2).pe) rfl (λ_ _ _ z=>by cases z) rfl|call f as ih =>
  intro X S E ok e h nd;let#[p,es,ks,pos,rfl,hg,h]:=DL h;have n:=xA h;cases Q3.mp n.1;let#[g1,g2,g3]:=VL hg;have hg:Gl X f:=show X.env.scope.names.lookup f=kx .globalImplicit by rw[ok.sc];exact g1
  let#[CX,k,a,fd,ps,F,hr,hm,hk,hb,hx,_]:=ok.fn f nd.1;have pa:=(ih ok n.2 nd.2).pa es pos rfl;have st:=RE as n.2;have pe:PE X (.Call (.Name f p) es [] pos) (wp X.K G.ev (.call f as) E).e:=by
   cases es with|nil=>exact yF (n6 (pos:=pos) (p:=p) F hr hg hm hk hb .nil hx g2) λW H Q q=>O3 as n.2 q|cons e1 M=>have st:=xA st;refine yF (Vb (pos:=pos) (p:=p) F hr hg hm hk hb .nil hx pa g2 (jC _ st.1) (KG st.2)) λW H Q q=>?_;show(wp X.K G.ev as E).a W H λvs Z=>G.ev.sp f (vs++[]) Z Q E;simp only[qF];exact q
  exact Snd.of pe (lD pe λ_=>rfl) (λ_ _ _ z=>by cases z) rfl
 |idx a b Y B=>intro X S E ok e h nd;let#[v,i,pos,rfl,h]:=MQ h;have n:=xA h;have A:=xA n.2;have pe:=Up (pos:=pos) (Nk ok.un) (Y ok A.1 nd.1).pe (B ok A.2 nd.2).pe (yb n.1);exact Snd.of pe (lD pe λ_=>rfl) (λ_ _ _ z=>by cases z) rfl|nop=>intro X S E ok e h nd;exact(QD h).elim|lst as ih=>intro X S E ok e h nd;let#[es,pos,rfl,h]:=NM h;have pa:=(ih ok h nd).pa es pos rfl;exact#[vj pa,aM,λ_ _ _ z=>(by cases z),λ_ _ z=>xT,λ_ _ z=>trivial]|tup as ih=>intro X S E ok e h nd;let#[es,k,pos,rfl,h]:=Hb h;exact Snd.lit (zj ((ih ok h nd).pa es pos rfl)) rfl (λ_ _ _ z=>by cases z) rfl|dnew b=>intro X S E ok e h nd;let#[ks,vs,pos,rfl,h]:=bT h;have n:=xA h;cases Q3.mp n.1;cases Q3.mp n.2;exact Snd.lit Jb rfl (λ_ _ _ z=>by cases z) rfl|dsp a b Y B =>
  intro X S E ok e h nd;let#[ks,vs,pos,rfl,h]:=bT h;let#[k,rfl,h]:=NB h;let#[v,rfl,h]:=NB h;have n:=xA h;cases k with|none=>exact(QD n.1).elim|some k=>exact Snd.lit (gb ok.un (Y ok n.1 nd.1).pe (B ok n.2 nd.2).pe) rfl (λ_ _ _ z=>by cases z) rfl
 |ng i=>intro X S E ok e h nd;let#[o,x,pos,rfl,h]:=V6 h;have n:=xA h;cases qV n.1;let#[c,k,pos2,rfl,A]:=UC n.2;let#[j,rfl,A]:=yS A;cases qV A;exact Snd.lit (λJ s W H Q I q=>Xp (pos:=pos) (Eh (X:=X)) (ta:=λ_ H Q=>Q (.int i) H) DM J s W H Q I #[i,rfl,q]) rfl (λ_ _ _ z=>by cases z) rfl|anil=>intro X S E ok e h nd;let#[es,pos,rfl,h]:=NM h;cases Q3.mp h;exact Snd.args uW trivial rfl rfl|acons a as Y ih=>intro X S E ok e h nd;let#[es,pos,rfl,h]:=NM h;let#[e1,M,rfl,h]:=LK h;have n:=xA h;have A:=xA n.2;have O:=(Y ok A.1 nd.1).pe;have ss:=ih ok A.2 nd.2;exact Snd.args (CQ O (ss.pa M pos rfl) (jC _ n.1)) #[O,ss.pas M pos rfl] rfl rfl|bi f as ih =>
  intro X S E ok e h nd;let#[p,es,ks,pos,rfl,hg,h]:=DL h;have n:=xA h;cases Q3.mp n.1;let#[e1,M,rfl,L]:=LK n.2;let#[g1,g2,g3]:=VL hg;have hg:Gl X f.nm:=show X.env.scope.names.lookup f.nm=kx .globalImplicit by rw[ok.sc];exact g1
  have pa:=(ih ok L nd.2).pa _ pos rfl;have st:=xA (RE as L);have pe:PE X (.Call (.Name f.nm p) (e1::M) [] pos) (wp X.K G.ev (.bi f as) E).e:=by
   rcases Ur ok.un ok.calm f with⟨id,hb,hc⟩| ⟨T,hb,hc⟩
   exact vT (pos:=pos) (p:=p) hc hg (ok.no _ nd.1) hb pa g3 g2 (jC _ st.1) (KG st.2);exact Z0 (pos:=pos) (p:=p) hc hg (ok.no _ nd.1) hb pa g3 g2 (jC _ st.1) (KG st.2)
  exact Snd.of pe (lD pe λ_=>rfl) (λ_ _ _ z=>by cases z) rfl
 |mt m o as iho ih =>
  intro X S E ok e h nd;let#[v,ap,es,pos,rfl,A,h]:=NY h;have h0:=xA h;have n:=xA h0.2;have L:=xA n.2;have P:=xA L.2;have po:=(iho ok P.1 nd.1).pe;have pa:=(ih ok P.2 nd.2).pa _ pos rfl;have st:=RE as P.2;let#[id,pat,sl,ty,mr]:=bq (X:=X) ok.un m;have pe:PE X (.Call (.Attribute v m.nm ap) es [] pos) (wp X.K G.ev (.mt m o as) E).e:=by
   cases es with
   |nil =>
    refine yF (bj (apos:=ap) (cpos:=pos) pat sl ty mr po (v7 n.1) A) λW H Q q=>?_;have e:(λ(x:V) (Z:Hp)=>yY X.K m.ty x Z/\Fc X.K m x [] Z Q)=λ(x:V) (Z:Hp)=>yY X.K m.ty x Z/\(wp X.K G.ev as E).a W Z λvs H2=>Fc X.K m x vs H2 Q:=by funext x Z;rw[t3 (jV as h0.1 P.2)]
    show(wp X.K G.ev o E).e W H (λ(x:V) (Z:Hp)=>yY X.K m.ty x Z/\Fc X.K m x [] Z Q);rw[e];exact q
   |cons e1 M=>have s2:=xA st;refine Bp (apos:=ap) (cpos:=pos) pat sl ty mr po pa (v7 n.1) ?_ A (jC _ s2.1) (KG s2.2);rw[zV st];have hl':(e1::M).9<20:=u0 L.1;show(kf&&kf&&decide ((e1::M).9+0+0<30))=kf;rw[dT (Qn hl' (by decide:20<=30):(e1::M).9+0+0<30)];rfl
  exact Snd.of pe (lD pe λ_=>rfl) (λ_ _ _ z=>by cases z) rfl
 |eff a Y=>intro X S E ok e h nd;let#[x,y,z,w,rfl,h]:=OQ h;exact Snd.lit (Y ok h nd).pe rfl (λ_ _ _ z=>by cases z) rfl|slc a lo hi Y ihl ihh =>
  intro X S E ok e h nd;let#[v,sl,pos,rfl,h]:=MQ h;let#[l,u,st,p2,rfl,h]:=B0 h;have n:=xA h;have A:=xA n.2;have L:=xA A.2;have part:∀(q:PX) (w:Option Expr),(∀{e:Expr},zC q S e=kf->PE X e (wp X.K G.ev q E).e)->Np w (isNop q) (λe=>!isNop q&&zC q S e)=kf ->
    PO X w (λW H R=>(if isNop q=kf then λ(R:Option Int->Hp->Prop)=>R kv H else λR=>(wp X.K G.ev q E).e W H λl H2=>GM l H2 R) R):=by
   intro q w ihq hq;cases w with
   |none=>have e:isNop q=true:=hq;simp only[e,if_true];exact jb|some e' =>
    have q1:=xA hq;have e:isNop q=false:=(Q2 _).mp q1.1;simp only[e,Qr,if_false];intro J s W H Q I w;refine Ia (ihq q1.2) J s W H Q I ?_;show(wp X.K G.ev q E).e W H (λ(x:V) (Z:Hp)=>∃i,x=.int i/\Q (kx i) Z);have e2:(λ(x:V) (Z:Hp)=>∃i,x=.int i/\Q (kx i) Z)=λ(x:V) (Z:Hp)=>GM x Z Q:=by funext x Z;exact(t6 x Z Q).symm
    rw[e2];exact w
  cases QAN.mp n.1;exact Snd.lit (x6 (pos:=pos) (p2:=p2) Zi (Y ok A.1 nd.1).pe (part lo l (λhc=>(ihl ok hc nd.2.1).pe) L.1) (part hi u (λhc=>(ihh ok hc nd.2.2).pe) L.2)) rfl (λ_ _ _ z=>by cases z) rfl
 |comp mask tgs tg d its cond elt ihi ihc ihe =>
  intro X S E ok e h nd;let#[e,gens,scope,pos,rfl,h]:=OQ h;let#[#[t,it,ifs,asy],rfl,h]:=NB h;have h0:=xA h;have hi:=xA h0.2;have n:=xA hi.2;have A:=xA n.2;have L:=xA A.2;have P:=xA L.2;have h5:=xA P.2;have ea:asy=0:=qV h0.1;cases ea;have C:CompSt X.N X.env.scope scope tgs mask:=by rw[ok.N,ok.sc];exact VU n.1
  let#[n1,n2,n3,n4]:=nd;have pi:PI X t it (iV λW H R=>(wp X.K G.ev its E).a W H λvs Z=>rC X.K d vs Z R):=xW ok P.1 n1 ((Q2 _).mp hi.1) λes p q=>ihi ok q n2;refine Snd.lit (Yb (pos:=pos) (g:=ME X.K tg) (tc:=if isNop cond=kf then λ_ H Q=>Q kf H else(wp X.K G.ev cond (λ_ _ _=>False)).t) (te:=(wp X.K G.ev elt (λ_ _ _=>False)).e) ok.calm pi C (λs H ex=>?_) (λx=>rW L.1 x)) rfl (λ_ _ _ z=>by cases z) rfl;have okc:=ok.comp scope tgs mask s H ex;refine#[JY okc (λz=>(QD z).elim) C.nd A.1,?_,(ihe okc h5.2 n4).pe];have hif:=h5.1;cases ifs with|nil=>have e:isNop cond=true:=hif;simp only[e,if_true];exact iY|cons c r=>have q1:=xA hif;have q2:=xA q1.2;cases Q3.mp q1.1;have e:isNop cond=false:=(Q2 _).mp q2.1;simp only[e,Qr,if_false];exact eY (ihc okc q2.2 n3).pt
end
end L2.L3
namespace L2.L3
open PySem PySem.Spec PyProof.Rows
section
variable{s:gp}{f:Expr->List gp->List gp->Bool}
set_option genSizeOf false in
set_option genInjectivity false in
inductive PT where
 |nil|seq (s r:PT)
 |set (i:Nat) (e:PX)
 |expr (e:PX)|ret (e:PX)
 |ife (c:PX) (a b:PT)
 |for_ (tg:Tg) (ik:ItK) (its:PX) (body:PT)
 |own (i:Nat) (e:PX)|tset (is:LN) (e:PX)|six (o i e:PX)|sdf (i:Nat) (k:PX)|sxo (j i:Nat)|pap (j:Nat) (k e:PX)|whl (c:PX) (body:PT)|frz (is:LN) (s:PT)
def bO(K:QA):V->V->V->Hp->(Hp->Prop)->Prop:=λo i v H Q=>match o,i with
 | .ref p,.int k=>∃h j,H p=kx (.lst h)/\kU h.9 k=kx j/\Q (CA H p (.lst (h.set j v)))|.ref p,.str z=>Am K H p (.str z) v Q|.ref p,.ref b=>Am K H p (.ref b) v Q|_,_=>False
noncomputable def To(i:Nat)(k:PX):PX:=.mt .setd (.var i) %[k,.dnew kf|1]
noncomputable def i6(j:Nat)(k e:PX):PX:=.mt .append (.idx (.var j) k) %[e|1]
def fw(J:It)(g:TG)(tb:TS)(D:Ends)(σ:St)(w:Hp):Prop:=∃W:Nat->Nat->St->Hp->Prop,(∃m,W 0 m σ w)/\∀i m σ H,W i m σ H ->
 (J.stop i H/\D.nx σ H)∨(J.go i H/\∃N:St->Hp->Prop,(∀h y,N h y->∃u,u < m/\W (i+1) u h y)/\∀x y,J.yld i H x y->g x σ y λz v=>tb { D with nx:=N,ct:=N,bk:=D.nx } z v)
def Mm(K:QA)(xs:List Item)(st:Hp->Prop)(h:Tg)(tb:TS)(D:Ends)(σ:St)(H:Hp):Prop:=∀J,Yields J xs st->fw J (ME K h) tb D σ H
def Ki(K:QA)(Γ:Ev)(E:XK)(o i e:PX):TS:=λD h H=>(wp K Γ e E).e h H λv k=>(wp K Γ o E).e h k λx w=>(wp K Γ i E).e h w λy u=>bO K x y v u λz=>D.nx h z
def kQ(K:QA)(Γ:Ev)(E:XK):PT->TS
 | .nil=>λD h H=>D.nx h H|.seq s r=>λD h H=>kQ K Γ E s { D with nx:=λh H=>kQ K Γ E r D h H } h H|.set i e=>λD h H=>(wp K Γ e E).e h H λx y=>D.nx (h.set i (kx x)) y|.own i e=>λD h H=>(wp K Γ e E).e h H λx y=>D.nx (h.set i (kx x)) y|.expr e=>λD h H=>(wp K Γ e E).e h H λ_ y=>D.nx h y|.ret e=>λD h H=>(wp K Γ e E).e h H D.rt|.ife c a b=>λD h H=>(wp K Γ c E).t h H λk y=>if k=kf then kQ K Γ E a D h y else kQ K Γ E b D h y|.for_ g m u z=>λD h H=>(wp K Γ u E).a h H λw y=>rC K m w y λv st n=>Mm K v st g (kQ K Γ E z) D h n|.tset l e=>λD h H=>(wp K Γ e E).e h H λx y=>ME K (.tp l) x h y D.nx|.six o i e=>Ki K Γ E o i e|.sxo j i=>Ki K Γ E (.var j) (.var i) (.lst .anil)|.pap j k e=>λD h H=>(wp K Γ (i6 j k e) E).e h H λ_ y=>D.nx h y|.sdf i k=>λD h H=>(wp K Γ (To i k) E).e h H λ_ y=>D.nx h y|.whl c z=>O4 (wp K Γ c E).t (kQ K Γ E z)|.frz _ s=>kQ K Γ E s
def xF(G:Glob):PT->Prop
 | .nil=>True|.seq s r=>xF G s/\xF G r|.set _ e=>LA G e|.own _ e=>LA G e|.tset _ e=>LA G e|.six o i e=>LA G o/\LA G i/\LA G e|.sdf i k=>LA G (To i k)|.sxo _ _=>True|.pap j k e=>LA G (i6 j k e)|.whl c h=>LA G c/\xF G h|.frz _ s=>xF G s|.expr e=>LA G e|.ret e=>LA G e|.ife c a b=>LA G c/\xF G a/\xF G b|.for_ _ y x h=>Hq G y/\LA G x/\xF G h
noncomputable def kF:Expr->Bool
 | .ListComp _ _ _ _ | .SetComp _ _ _ _ | .DictComp _ _ _ _ _=>kd
 |_=>kf
noncomputable def uQ(S:SC)(i:Nat)(x:Str):Bool:=S.N[i]?==kx x&&(S.sc.names.lookup x==kx .local||S.sc.names.lookup x==kx .cell)
noncomputable def zZ:PT->Bool
 | .nil=>kd|.seq _ _=>kd|.frz _ s=>zZ s|_=>kf
noncomputable def lT(s:gp)(f:List Expr->Expr->Bool):Bool:=match s with | .Assign h v _=>f h v|_=>kd
noncomputable def Pb(s:gp)(f:Expr->Bool):Bool:=match s with | .Expr v _=>f v|_=>kd
noncomputable def mf(s:gp)(f:Option Expr->Bool):Bool:=match s with | .Return v _=>f v|_=>kd
noncomputable def rf(s:gp)(f:Expr->List gp->List gp->Bool):Bool:=match s with | .If t x y _=>f t x y|_=>kd
noncomputable def sf(s:gp)(f:Expr->Expr->List gp->List gp->Pos->Bool):Bool:=match s with | .For t it x y p=>f t it x y p|_=>kd
noncomputable def Mp(s:gp)(f:Expr->List gp->List gp->Bool):Bool:=match s with | .While t x y _=>f t x y|_=>kd
noncomputable def Tp:Expr->Bool
 | .Tuple _ _ _=>kd|.List _ _=>kd|_=>kf
theorem aL{f:List Expr->Expr->Bool}(h:lT s f=kf):∃ts v p,s=.Assign ts v p/\f ts v=true:=by
 cases s with|Assign ts v p=>exact#[ts,v,p,rfl,h]|_=>exact(QD h).elim
theorem dW{f:Expr->Bool}(h:Pb s f=kf):∃v p,s=.Expr v p/\f v=true:=by
 cases s with|Expr v p=>exact#[v,p,rfl,h]|_=>exact(QD h).elim
theorem Lb{f:Option Expr->Bool}(h:mf s f=kf):∃v p,s=.Return v p/\f v=true:=by
 cases s with|Return v p=>exact#[v,p,rfl,h]|_=>exact(QD h).elim
theorem Nb(h:rf s f=kf):∃t x y p,s=.If t x y p/\f t x y=true:=by
 cases s with|If t x y p=>exact#[t,x,y,p,rfl,h]|_=>exact(QD h).elim
theorem Ob{f:Expr->Expr->List gp->List gp->Pos->Bool}(h:sf s f=kf):∃t it x y p,s=.For t it x y p/\f t it x y p=true:=by
 cases s with|For t it x y p=>exact#[t,it,x,y,p,rfl,h]|_=>exact(QD h).elim
theorem rj(h:Mp s f=kf):∃t x y p,s=.While t x y p/\f t x y=true:=by
 cases s with|While t x y p=>exact#[t,x,y,p,rfl,h]|_=>exact(QD h).elim
def setB(S:SC)(i:Nat)(c:Expr->Bool)(l:List gp):Bool:=OM l λst=>lT st λh v=>OM h λt=>SJ t λx _=>uQ S i x&&((kF v||S.sc.names.lookup x==kx .cell)&&c v)
def Mf:PX->Bool
 | .comp _ _ _ _ _ _ _=>kf|_=>kd
def vt:PX->PX
 | .eff a=>a|a=>a
def Vi(o i e:PX)(S:SC)(l:List gp):Bool:=OM l λst=>lT st λx v=>OM x λt=>XY t λy h _=>EQ h&&(kF v&&(zC e S v&&(zC o S y&&zC i S h)))
def gY(S:SC)(i:Nat)(e:PX)(l:List gp):Bool:=OM l λst=>lT st λy v=>OM y λt=>SJ t λx z=>Mb v λw u sc h=>Yk S i x&&(S.sc.kind==.function&&(z.line==h.line&&(!(sc.names.any λ(n,k)=>n==x&&(k==.local||k==.cell))&&(Mf (vt e)&&zC (vt e) S (.ListComp w u sc h)))))
def SR:PT->SC->List gp->Bool
 | .nil,_,l=>l.isEmpty|.seq s r,S,l=>Sb l λst l=>zZ s&&(SR s S [st]&&SR r S l)|.set i e,S,l=>setB S i (zC e S) l||gY S i e l
 | .own i e,S,l=>setB S i (zC e S) l||gY S i e l
 | .frz _ s,S,l=>SR s S l|.expr e,S,l=>OM l λst=>Pb st λv=>kF v&&zC e S v|.ret e,S,l=>OM l λst=>mf st λv=>Np v kd (zC e S)|.ife c a b,S,l=>OM l λst=>rf st λt x y=>zC c S t&&(SR a S x&&SR b S y)|.for_ tg ik its body,S,l=>OM l λst=>sf st λt it x y h=>y.isEmpty&&(bt kf S tg t&&(eT it&&(Jt (lF its) S ik (λu p=>zC its S (.List u p)) t it h&&SR body S x)))|.tset is e,S,l=>OM l λst=>lT st λz v=>OM z λt=>Tp v&&(kF v&&(tR t&&(bt kf S (.tp is) t&&zC e S v)))|.six o i e,S,l=>Vi o i e S l|.sxo j i,S,l=>Vi (.var j) (.var i) (.lst .anil) S l|.pap j k e,S,l=>OM l λst=>Pb st λv=>kF v&&zC (i6 j k e) S v|.sdf i k,S,l=>OM l λst=>Pb st λv=>kF v&&zC (To i k) S v|.whl c body,S,l=>OM l λst=>Mp st λt x y=>y.isEmpty&&(zC c S t&&SR body S x)
structure OkS(X:Cx)(S:SC)(G:Glob)(E:XK):Prop extends OkX X S G E where
 po:ni (k4 X.prog X.w) X.A X.env X.xe
 nd:X.N.Nodup
 cel:∀x,X.fn x=kf
end
section
variable{X:Cx}{S:SC}{G:Glob}{E:XK}
section
variable{i:Nat}{x:Str}{e:PX}{l:List gp}
theorem AJ{e:Expr}{t:Option Expr}{n:Nat}{env:Env}(h:kF e=kf):dv e t n env=p7 false:=by cases e<;>first|rfl|cases h
theorem J5(r:X.A.units+66<g7):fe X (bO X.K):=by
 intro y s w H o i v m n u Q I f g a h;cases o with
 |ref p =>
  cases i with|int k=>let#[Y,j,W,Z,q]:=h;exact Y5 y s w H _ _ v m n u Q I f g a #[p,Y,k,j,rfl,rfl,W,Z,q]|str z=>exact SS r y s w H _ _ v m n u Q I f g a h|ref b=>exact SS r y s w H _ _ v m n u Q I f g a h|_=>exact Qd h
 |_=>exact Qd h
theorem RZ(ok:OkX X S G E)(h:uQ S i x=kf):X.N[i]?=kx x/\Gn X.env.scope x:=by simp only[uQ,Qg,WR,beq_iff_eq]at h;rw[ok.N,ok.sc];exact#[h.1,h.2]
theorem o0(ok:OkS X S G E){v:Expr}{u pos:Pos}(g:uQ S i x=kf)(w:(kF v||S.sc.names.lookup x==kx .cell)=kf)(pe:PE X v (wp X.K G.ev e E).e) :
  PS X (.Assign [.Name x u] v pos) (kQ X.K G.ev E (.set i e)):=by
 let#[m,j]:=RZ ok.toOkX g;refine Ri (pos':=u) ok.nd m j pe ?_ (.inl (ok.cel x));cases z:kF v with
 |true=>exact AJ z|false =>
  rw[z,QAZ,beq_iff_eq,<- ok.sc]at w;have hk:X.env.kindOf x=kx .cell:=w;have key:∀(b c:Bool) (y h:Nat),(p7 (b&&X.env.kindOf x==kx .local&&y==h&&!c):Sem Bool)=p7 false:=λb c y h=>by
   rw[hk];have:(b&&(kx NameKind.cell==kx NameKind.local)&&y==h&&!c)=false:=by cases b<;>rfl
   rw[this]
  cases v with|ListComp n a sc f=>exact key _ _ _ _|SetComp n a sc f=>exact key _ _ _ _|DictComp k v a sc f=>exact key _ _ _ _|_=>cases z
theorem Ic(h:Mf e=kf):∃a b c d f g k,e=.comp a b c d f g k:=by
 cases e with|comp a b c d f g k=>exact#[a,b,c,d,f,g,k,rfl]|_=>exact(QD h).elim
theorem Ti(ok:OkS X S G E)(h:gY S i e l=kf)(nd:LA G e):∃st,l=[st]/\PS X st (kQ X.K G.ev E (.set i e)):=by
 have nd:LA G (vt e):=by cases e<;>exact nd
 have ew:kQ X.K G.ev E (.set i e)=kQ X.K G.ev E (.set i (vt e)):=by cases e<;>rfl
 rw[ew];let#[st,e1,q1]:=NB h;let#[ts,v,p,e2,q2]:=aL q1;let#[t,e3,q3]:=NB q2;let#[x,px,e4,q4]:=bG q3;let#[el,gs,sc,cp,e5,q5]:=OQ q4;subst e1 e2 e3 e4 e5;have L:=xA q5;have J:=xA L.2;have I:=xA J.2;have F:=xA I.2;have Y:=xA F.2;let#[mask,w,tg,ik,m,y,f,Z]:=Ic Y.1;rw[Z]at nd Y ⊢;refine#[_,rfl,?_];have h6:=Y.2;let#[el',O,j,pos,Z,g]:=OQ h6;cases Z;let#[#[t,it,o,W],rfl,g]:=NB g;have g0:=xA g;have M:=xA g0.2;have g1:=xA M.2;have g2:=xA g1.2;have g3:=xA g2.2;have R:=xA g3.2;have P:=xA R.2;have ea:W=0:=qV g0.1;cases ea;have C:CompSt X.N X.env.scope sc w mask:=by rw[ok.N,ok.sc];exact VU g1.1
 let#[n1,n2,n3,n4]:=nd;let#[l1,l2]:=Nc L.1;have a:X.env.scope.names.lookup x=kx .local:=by rw[ok.sc];exact l2
 refine Ea (g:=ME X.K tg) (tc:=if isNop y=kf then λ_ H Q=>Q kf H else(wp X.K G.ev y (λ_ _ _=>False)).t) (te:=(wp X.K G.ev f (λ_ _ _=>False)).e) ok.calm ok.nd (by rw[ok.N];exact l1) a (xW ok.toOkX (pos:=cp) R.1 n1 ((Q2 _).mp M.1) λes p q=>snd m ok.toOkX q n2) C (λs H ex=>?_) (λx=>rW g3.1 x) ?_;have u:=ok.toOkX.comp sc w mask s H ex;refine#[JY u (λz=>(QD z).elim) C.nd g2.1,?_,(snd f u P.2 n4).pe];have b:=P.1;cases o with|nil=>have e:isNop y=true:=b;simp only[e,if_true];exact iY|cons c r=>have B:=xA b;have A:=xA B.2;cases Q3.mp B.1;have e:isNop y=false:=(Q2 _).mp A.1;simp only[e,Qr,if_false];exact eY (snd y u A.2 n3).pt
 have k1:X.env.scope.kind=.function:=by rw[ok.sc];exact qV J.1
 have k2:(X.env.blockKind==.function)=true:=by simp[Env.blockKind,k1,ScopeKind.isAnnotationScope]
 have k3:(X.env.kindOf x==kx .local)=true:=by show(X.env.scope.names.lookup x==kx .local)=kf;rw[a];rfl
 show(p7 (X.env.blockKind==.function&&X.env.kindOf x==kx .local&&px.line==cp.line&&!(sc.names.any λ(n,k)=>n==x&&(k==.local||k==.cell))):Sem Bool)=p7 kf;rw[k2,k3,I.1,F.1];rfl
theorem t5(ok:OkS X S G E){o i:PX}(h:Vi o i e S l=kf)(r:LA G o)(q:LA G i)(n:LA G e):∃st,l=[st]/\PS X st (Ki X.K G.ev E o i e):=by
 let#[st,Z,j]:=NB h;let#[W,v,p,Y,g]:=aL j;let#[t,e3,h]:=NB g;subst Z Y e3;let#[m,z,y,s,f]:=MQ h;subst s;have b:=xA f;have a:=xA b.2;have k:=xA a.2;have u:=xA k.2;refine#[_,rfl,y6 (snd e ok.toOkX k.1 n).pe (yj (pos:=y) (snd o ok.toOkX u.1 r).pe (snd i ok.toOkX u.2 q).pe (J5 ok.un) ?_) ?_ ?_ ?_];intro w;cases z<;>first|rfl|exact(QD b.1).elim
 show dv v (kx (.Subscript m z y)) p.line X.env=p7 kd;exact AJ a.1;cases v<;>rfl;rfl
theorem Lu:∀(p:PT) {l:List gp},OkS X S G E->SR p S l=kf->xF G p->NX X l (kQ X.K G.ev E p)/\(zZ p=kf->∀st,l=[st]->PS X st (kQ X.K G.ev E p)):=by
 intro p;have one:∀{p:PT}{st:gp},PS X st (kQ X.K G.ev E p)->NX X [st] (kQ X.K G.ev E p)/\(zZ p=kf->∀f,[st]=[f]->PS X f (kQ X.K G.ev E p)):=λh=>#[tY h,λ_ f e=>by cases e;exact h]
 have w:∀{i:Nat}{e:PX}{l:List gp},OkS X S G E->(setB S i (zC e S) l||gY S i e l)=kf->LA G e->∃st,l=[st]/\PS X st (kQ X.K G.ev E (.set i e)):=λ{i e l} ok h nd=>by
  rcases(WR _ _).mp h with h|h
  rotate_left
  exact Ti ok h nd;let#[st,J,Z]:=NB h;let#[O,v,p,I,Y]:=aL Z;let#[t,e3,Q]:=NB Y;let#[x,px,H,P]:=bG Q;subst J I e3 H;have z:=xA P;have u:=xA z.2;exact#[_,rfl,o0 ok z.1 u.1 (snd e ok.toOkX u.2 nd).pe]
 induction p with
 |nil=>intro l ok h nd;cases Q3.mp h;exact#[Aa,λh=>(QD h).elim]|seq s r A B=>intro l ok h nd;let#[st,l,rfl,h]:=LK h;have z:=xA h;have u:=xA z.2;exact#[T5 ((A ok u.1 nd.1).2 z.1 st rfl) (B ok u.2 nd.2).1,λh=>(QD h).elim]|set i e=>intro l ok h nd;let#[st,rfl,q]:=w ok h nd;exact one q|own i e=>intro l ok h nd;let#[st,rfl,q]:=w ok h nd;exact one q|expr e=>intro l ok h nd;let#[st,rfl,h]:=NB h;let#[v,p,rfl,h]:=dW h;have z:=xA h;exact one (UQ (snd e ok.toOkX z.2 nd).pe (AJ z.1))|ret e =>
  intro l ok h nd;let#[st,rfl,h]:=NB h;let#[v,p,rfl,h]:=Lb h;cases v with|none=>exact(QD h).elim|some v=>exact one (E5 (snd e ok.toOkX h nd).pe)
 |ife c a b F C=>intro l ok h nd;let#[st,rfl,h]:=NB h;let#[t,x,y,p,rfl,h]:=Nb h;have z:=xA h;have u:=xA z.2;exact one (Kp (snd c ok.toOkX z.1 nd.1).pt (F ok u.1 nd.2.1).1 (C ok u.2 nd.2.2).1)|for_ tg ik W n g=>intro l ok h nd;let#[st,rfl,h]:=NB h;let#[t,it,x,y,p,rfl,h]:=Ob h;have M:=xA h;have z:=xA M.2;have u:=xA z.2;have m:=xA u.2;cases Q3.mp M.1;exact one (Si ok.po ok.calm (xb ok.toOkX m.1 nd.1 λN p q=>snd W ok.toOkX q nd.2.1) (JY ok.toOkX (λ_=>ok.cel) ok.nd z.1) (g ok m.2 nd.2.2).1 λx=>rW u.1 x)|tset R e =>
  intro l ok h nd;let#[st,J,Z]:=NB h;let#[O,v,p,I,Y]:=aL Z;let#[t,e3,h]:=NB Y;subst J I e3;have z:=xA h;have u:=xA z.2;have m:=xA u.2;have L:=xA m.2;cases t with
  |Tuple N k pt =>
   refine one (y6 (snd e ok.toOkX L.2 nd).pe (JY ok.toOkX (λ_=>ok.cel) ok.nd L.1) ?_ ?_ ?_);show dv v (kx (.Tuple N k pt)) p.line X.env=p7 kd;exact AJ u.1;cases v<;>first|rfl|exact(QD z.1).elim
   rfl
  |_=>exact(QD m.1).elim
 |six o i e=>intro l ok h nd;let#[st,rfl,u]:=t5 ok h nd.1 nd.2.1 nd.2.2;exact one u|sxo j i=>intro l ok h nd;let#[st,rfl,u]:=t5 (o:=.var j) (i:=.var i) (e:=.lst .anil) ok h trivial trivial trivial;exact one u|pap j k e=>intro l ok h nd;let#[st,rfl,h]:=NB h;let#[v,p,rfl,h]:=dW h;have z:=xA h;exact one (UQ (snd (i6 j k e) ok.toOkX z.2 nd).pe (AJ z.1))|sdf i k=>intro l ok h nd;let#[st,rfl,h]:=NB h;let#[v,p,rfl,h]:=dW h;have z:=xA h;exact one (UQ (snd (To i k) ok.toOkX z.2 nd).pe (AJ z.1))|whl c n g=>intro l ok h nd;let#[st,rfl,h]:=NB h;let#[t,x,y,p,rfl,h]:=rj h;have z:=xA h;have u:=xA z.2;cases Q3.mp z.1;exact one (A5 ok.po (snd c ok.toOkX u.1 nd.1).pt (g ok u.2 nd.2).1)|frz R s g=>intro l ok h nd;exact g ok h nd
end
end
noncomputable abbrev D:=Gz
set_option genInjectivity true in
inductive T where
 |d (x:D)|lst (ts:List T)|tup (ts:List T)|dct (b:Bool) (ks:List D) (ts:List T)
abbrev LT:=List T
mutual
def T.er:T->D
 | .d x=>x|.lst h=>.list (ersT h)|.tup h=>.tuple (ersT h)|.dct _ y h=>.dict (y.zip (ersT h))
def ersT:LT->List D
 |[]=>[]|t::r=>t.er::ersT r
end
theorem JA(ds:List D):ersT (ds.map T.d)=ds:=by
 induction ds with|nil=>rfl|cons d r h=>simp only[QT,ersT,h,T.er]
theorem C8:∀(ts:LT),(ersT ts).9=ts.9
 |[]=>rfl|t::r=>by simp only[ersT,QK,C8 r]
theorem uJ:∀(ts:LT),ersT ts=ts.map T.er
 |[]=>rfl|t::r=>by simp only[ersT,QT,uJ r]
def T.isD:T->Bool
 | .d _=>kf|_=>kd
set_option genInjectivity true in
inductive Sl where
 |own (t:T)|bor (t:T)
noncomputable abbrev kA:=List (Option Sl)
abbrev bD(x:D):Option Sl:=kx (.bor (.d x))
abbrev oW(t:T):Option Sl:=kx (.own t)
def OF(t:T)(n:Bool):Bool:=n||t.isD
def nA(t:T):Bool->T
 |true=>.d t.er|false=>t
theorem pA(x:D)(n:Bool):nA (.d x) n=.d x:=by cases n<;>rfl
theorem cZ(t:T)(n:Bool):(nA t n).er=t.er:=by cases n<;>rfl
noncomputable def XF:LT->Option (List D)
 |[]=>kx []|.d x::r=>(XF r).map (x::·)|_::_=>kv
theorem HA(ds:List D):XF (ds.map T.d)=kx ds:=by
 induction ds with|nil=>rfl|cons d r h=>simp only[QT,XF,h,Q4]
theorem yM:∀{ts:LT}{ds:List D},XF ts=kx ds->ts=ds.map T.d
 |[],ds,h=>by simp only[XF,Qj]at h;subst h;rfl|.d x::r,ds,h=>by
  simp only[XF]at h;cases e:XF r with|none=>rw[e]at h;cases h|some y=>rw[e]at h;cases h;rw[QT,yM e]
 | .lst _::_,_,h=>by simp[XF]at h|.tup _::_,_,h=>by simp[XF]at h|.dct _ _ _::_,_,h=>by simp[XF]at h
noncomputable def NC:List (D×D)->Option Bool
 | (.tuple _,_)::_=>kx kf|(.str _,_)::_=>kx kd|_=>kv
def AC:Bool->D->Prop
 |true,k=>∃q,k=tD (.t q)/\c7 (.t q)<=6|false,k=>∃z,k=.str z
open Classical in
noncomputable def cA:List D->D->Option Nat
 |[],_=>kv|x::r,k=>if x=k then kx 0 else(cA r k).map (·+1)
def OJ(b:Bool)(ks:List D)(ts:LT)(k:D)(t:T):T:=match cA ks k with
 |some n=>.dct b ks (ts.set n t)|none=>.dct b (ks++[k]) (ts++[t])
theorem aC:∀{ks:List D}{k:D}{n:Nat},cA ks k=kx n->ks[n]?=kx k
 |[],_,_,h=>by cases h|x::r,k,n,h=>by
  unfold cA at h;by_cases e:x=k;rw[tt e]at h;cases h;rw[e];rfl;rw[th e]at h;cases q:cA r k with|none=>rw[q]at h;cases h|some m=>rw[q]at h;cases h;simpa using aC q
theorem FA:∀{ks:List D}{k:D},cA ks k=kv↔k∉ks
 |[],_=>by simp[cA]|x::r,k=>by unfold cA;by_cases e:x=k;simp[e];rw[th e,Option.map_eq_none_iff,FA];simp[Q8 e]
theorem bX{ks:List D}{k:D}:(cA ks k).isSome=kf↔k∈ks:=by
 cases h:cA ks k with|none=>simp[FA.mp h]|some n=>simp[Qw (aC h)]
set_option genInjectivity true in
inductive Vw where
 |sc (x:D)|ls (ts:LT)|tp (ts:LT)|dc (b:Bool) (ks:List D) (ts:LT)
def LB(kvs:List (D×D)):Vw:=match NC kvs with
 |some b=>.dc b (kvs.map (·.1)) (kvs.map λp=>T.d p.2)|none=>.sc (.dict kvs)
def T.vw:T->Vw
 | .lst h=>.ls h|.tup h=>.tp h|.dct b u h=>.dc b u h|.d x=>match x with
  | .list z=>.ls (z.map T.d)|.tuple z=>.tp (z.map T.d)|.dict y=>LB y|.none=>.sc .none|.bool b=>.sc (.bool b)|.int i=>.sc (.int i)|.str s=>.sc (.str s)
def zD(ts:LT):T:=match XF ts with
 |some h=>.d (.tuple h)|none=>.tup ts
noncomputable abbrev XD:=kn×List (Str×D)
noncomputable abbrev XE:=XD->Prop
noncomputable abbrev TK:=T->Bool->kA->Prop
inductive Md where
 |fro|shal|bor|chg
 deriving DecidableEq
structure PSp where
 md:List Md:=[]
 run:LT->(T->LT->Prop)->XE->Prop
 mono:∀{ts:LT}{Q Q':T->LT->Prop}{E E':XE},(∀t os,Q t os->Q' t os)->(∀x,E x->E' x)->run ts Q E->run ts Q' E':=by intro _ _ _ _ _ h _ z;(repeat let#[y,z]:=z;refine#[y,?_]);first|exact h _ _ z|(intros;apply h;apply z<;>assumption)
structure PEv where
 sp:Str->PSp
 va:Str->Option D
def binT(w:Hz)(x y:Vw)(Q:T->Bool->Prop):Prop:=match w with
 | .Add=>(∃i j,x=.sc (.int i)/\y=.sc (.int j)/\Q (.d (.int (i+j))) kd)∨(∃a b,x=.sc (.str a)/\y=.sc (.str b)/\a.9+b.9<=kb/\Q (.d (.str (a++b))) kd) ∨
  (∃v u z h,x=.ls v/\y=.ls u/\XF v=kx z/\XF u=kx h/\z.9+h.9<=kb/\Q (.lst ((z++h).map T.d)) kf) ∨
  (∃v u z h,x=.tp v/\y=.tp u/\XF v=kx z/\XF u=kx h/\z≠[]/\h≠[]/\z.9+h.9<=kb/\Q (.d (.tuple (z++h))) kd)
 | .Sub=>∃i j,x=.sc (.int i)/\y=.sc (.int j)/\Q (.d (.int (i - j))) kd|.Mult=>(∃i j,x=.sc (.int i)/\y=.sc (.int j)/\lv i j/\Q (.d (.int (i * j))) kd)∨(∃a k,x=.sc (.str a)/\y=.sc (.int k)/\(-(2 ^ 31)<=k/\k<2 ^ 31/\a.9 * k.toNat<=kb)/\Q (.d (.str (Li a k))) kd)|.FloorDiv=>∃i j,x=.sc (.int i)/\y=.sc (.int j)/\(0<j/\j<2 ^ 200)/\Q (.d (.int (i / j))) kd|.Mod=>∃i j,x=.sc (.int i)/\y=.sc (.int j)/\0<j/\Q (.d (.int (i % j))) kd|_=>False
section
variable{Q:T->Bool->Prop}
theorem gm(i j:Int):binT .Add (.sc (.int i)) (.sc (.int j)) Q=Q (.d (.int (i+j))) false:=by simp[binT]
theorem cm(a b:Str):binT .Add (.sc (.str a)) (.sc (.str b)) Q=(a.9+b.9<=kb/\Q (.d (.str (a++b))) kd):=by simp[binT]
theorem um(xs ys:LT):binT .Add (.ls xs) (.ls ys) Q=∃ds es,XF xs=kx ds/\XF ys=kx es/\ds.9+es.9<=kb/\Q (.lst ((ds++es).map T.d)) true:=by simp[binT]
theorem xm(xs ys:LT):binT .Add (.tp xs) (.tp ys) Q=∃ds es,XF xs=kx ds/\XF ys=kx es/\ds≠[]/\es≠[]/\ds.9+es.9<=kb/\Q (.d (.tuple (ds++es))) false:=by simp[binT]
theorem vm(i j:Int):binT .Sub (.sc (.int i)) (.sc (.int j)) Q=Q (.d (.int (i - j))) false:=by simp[binT]
theorem km(i j:Int):binT .Mult (.sc (.int i)) (.sc (.int j)) Q=(lv i j/\Q (.d (.int (i * j))) kd):=by simp[binT]
theorem zm(i j:Int):binT .FloorDiv (.sc (.int i)) (.sc (.int j)) Q=((0<j/\j<2 ^ 200)/\Q (.d (.int (i / j))) kd):=by simp[binT]
theorem ym(i j:Int):binT .Mod (.sc (.int i)) (.sc (.int j)) Q=(0<j/\Q (.d (.int (i % j))) kd):=by simp[binT]
end
section
variable{Q:T->Prop}
def Bt:D->D->(Bool->Prop)->Prop
 | .int i,.int j,Q=>Q (decide (i=j))|.str x,.str y,Q=>Q (decide (x=y))|.bool x,.bool y,Q=>Q (decide (x=y))|a,b,Q=>FF a/\FF b/\Q (Qt a b)
noncomputable def SA:D->Bool
 | .none | .bool _ | .int _ | .str _=>kf
 |_=>kd
def Yt:D->D->(Bool->Prop)->Prop
 | .str x,.str y,Q=>Q (inStr y x)|a,.list ds,Q|a,.tuple ds,Q=>((SA a=kf/\ds.all SA=kf)∨(FF a/\FF (.list ds)))/\Q (ds.any λy=>Qt y a)
 |a,.dict kvs,Q=>∃b,(NC kvs=kx b∨kvs=[])/\AC b a/\Q (cA (kvs.map (·.1)) a).isSome|_,_,_=>False
def K0(f:Int->Int->Bool):D->D->(Bool->Prop)->Prop
 | .int i,.int j,Q=>Q (f i j)|_,_,_=>False
def g8:D->Bool
 | .none=>kf|_=>kd
def K2:D->D->(Bool->Prop)->Prop
 |a,.none,Q=>Q (g8 a)|.bool a,.bool b,Q=>Q (decide (a=b))|_,_,_=>False
def PR:fv->D->D->(Bool->Prop)->Prop
 | .Eq,a,b,Q=>Bt a b Q|.NotEq,a,b,Q=>Bt a b λk=>Q (!k)|.Lt,a,b,Q=>K0 (λi j=>decide (i<j)) a b Q|.LtE,a,b,Q=>K0 (λi j=>decide (i<=j)) a b Q|.Gt,a,b,Q=>K0 (λi j=>decide (j<i)) a b Q|.GtE,a,b,Q=>K0 (λi j=>decide (j<=i)) a b Q|.In,a,b,Q=>Yt a b Q|.NotIn,a,b,Q=>Yt a b λk=>Q (!k)|.Is,a,b,Q=>K2 a b Q|.IsNot,a,b,Q=>K2 a b λk=>Q (!k)
def Nd(h:fv)(x:D)(y:T)(Q:Bool->Prop):Prop:=match y with
 | .dct b u _=>AC b x/\((h=.In/\Q (cA u x).isSome)∨(h=.NotIn/\Q (!(cA u x).isSome)))|.d y=>PR h x y Q|.lst z=>PR h x (.list (ersT z)) Q|.tup z=>PR h x (.tuple (ersT z)) Q
def sI:D->(Bool->Prop)->Prop
 | .bool b,Q=>Q b|.int i,Q=>Q (i != 0)|.none,Q=>Q kd|.str z,Q=>z.9<=kb/\Q ((z.9:Int) != 0)|.list ds,Q=>Q (!ds.isEmpty)|.tuple ds,Q=>Q (!ds.isEmpty)|_,_=>False
def am:D->(Bool->Prop)->Prop
 | .bool b,Q=>Q b|_,_=>False
def iU(x:Vw)(k:D)(Q:T->Prop):Prop:=∃b y h n t,x=.dc b y h/\AC b k/\cA y k=kx n/\h[n]?=kx t/\Q t
def pO(x y:Vw)(Q:T->Prop):Prop:=(∃z i c,x=.sc (.str z)/\y=.sc (.int i)/\z.9<=kb/\BD z.cps.toList i=kx c/\Q (.d (.str #[(qB [c])]))) ∨
 (∃h i t,x=.ls h/\y=.sc (.int i)/\BD h i=kx t/\Q t)∨(∃h i t,x=.tp h/\y=.sc (.int i)/\BD h i=kx t/\Q t)
theorem Sk(z:Str)(i:Int):pO (.sc (.str z)) (.sc (.int i)) Q=(z.9<=kb/\∃c,BD z.cps.toList i=kx c/\Q (.d (.str #[(qB [c])]))):=by simp[pO]
theorem n8(ts:LT)(i:Int):pO (.ls ts) (.sc (.int i)) Q=∃t,BD ts i=kx t/\Q t:=by simp[pO]
theorem Rk(ts:LT)(i:Int):pO (.tp ts) (.sc (.int i)) Q=∃t,BD ts i=kx t/\Q t:=by simp[pO]
noncomputable def OR{α:Type}(xs:List α)(h x:Option Int):List α:=(xs.drop (HT.sIx xs.9 0 h)).take (HT.sIx xs.9 xs.9 x - HT.sIx xs.9 0 h)
def uO(x:Vw)(y u:Option Int)(Q:T->Bool->Prop):Prop:=(∃z,x=.sc (.str z)/\z.9<=kb/\Q (.d (.str (Wh z y u))) kd)∨(∃h v,x=.ls h/\XF h=kx v/\Q (.lst ((OR v y u).map T.d)) kf)
end
section
variable{Q:T->Bool->Prop}{h x:Option Int}
theorem Ji(z:Str):uO (.sc (.str z)) h x Q=(z.9<=kb/\Q (.d (.str (Wh z h x))) kd):=by simp[uO]
theorem ai(ts:LT):uO (.ls ts) h x Q=∃ds,XF ts=kx ds/\Q (.lst ((OR ds h x).map T.d)) true:=by simp[uO]
end
def uG:D->(Option Int->Prop)->Prop
 | .int i,Q=>Q (kx i)|_,_=>False
def jD(l:LS):D:=.list (l.map jk)
def z4(f:Bi)(vs:List Vw)(Q:T->Bool->Prop):Prop:=match f with
 | .len=>(∃z,vs=[.sc (.str z)]/\z.9<=kb/\Q (.d (.int z.9)) kd)∨(∃h,vs=[.ls h]/\Q (.d (.int h.9)) kd)∨(∃h,vs=[.tp h]/\Q (.d (.int h.9)) kd)|.any=>∃h,∃bs:List Bool,vs=[.ls h]/\XF h=kx (bs.map PyData.bool)/\Q (.d (.bool (bs.any id))) kd|.sorted=>(∃h,∃v:LS,vs=[.ls h]/\XF h=kx (v.map jk)/\v.9<64/\∀x:LS,x.Perm v->sh x=kf->Q (.lst ((x.map jk).map T.d)) kf) ∨
  (∃h,∃ls:List (LS),vs=[.ls h]/\XF h=kx (ls.map jD)/\ls.9<64/\∀u:List (LS),u.Perm ls->Q (.lst ((u.map jD).map T.d)) kf) ∨
  (∃h,∃w:LJ,vs=[.ls h]/\XF h=kx (w.map j0)/\w.9<64/\∀y:LJ,y.Perm w->y.Pairwise (·<=·)->Q (.lst ((y.map j0).map T.d)) kf)
 | .max=>∃i j,vs=[.sc (.int i),.sc (.int j)]/\Q (.d (.int (if j > i then j else i))) kd|.tuple=>∃h k,vs=[.ls h]/\XF h=kx k/\Q (.d (.tuple k)) kd|.int=>∃b:Bool,vs=[.sc (.bool b)]/\Q (.d (.int (if b then 1 else 0))) kd
section
variable{Q:T->Bool->Prop}
theorem Jg(ts:LT):z4 .len [.ls ts] Q=Q (.d (.int ts.9)) false:=by simp[z4]
theorem Cr(ts:LT):z4 .any [.ls ts] Q=∃bs:List Bool,XF ts=kx (bs.map PyData.bool)/\Q (.d (.bool (bs.any id))) false:=by simp[z4]
theorem om(i j:Int):z4 .max [.sc (.int i),.sc (.int j)] Q=Q (.d (.int (if j > i then j else i))) false:=t3 #[λ#[_,_,e,h]=>by cases e;exact h,λh=>#[_,_,rfl,h]]
theorem Br(ts:LT):z4 .tuple [.ls ts] Q=∃ds,XF ts=kx ds/\Q (.d (.tuple ds)) false:=by simp[z4]
end
section
variable{N:T->T->Prop}
def gn(m:Mt)(x:Vw)(vs:List Vw)(Q:T->Bool->Prop):Prop:=match m with
 | .split=>∃z y,x=.sc (.str z)/\vs=[.sc (.str y)]/\z.9<=kb/\0<y.9/\(w4 z y).9<=kb/\Q (.lst (((w4 z y).map jk).map T.d)) kf|.join=>∃z u,∃h:LS,x=.sc (.str z)/\vs=[.ls u]/\XF u=kx (h.map jk)/\(h.map (·.length)).sum+h.9 * z.9<=16777216/\Q (.d (.str (QBm z h))) kd|_=>False
theorem cq{Q:T->Bool->Prop}(z:Str)(ts:LT):gn .join (.sc (.str z)) [.ls ts] Q=∃ys:LS,XF ts=kx (ys.map jk)/\(ys.map (·.length)).sum+ys.9 * z.9<=16777216/\Q (.d (.str (QBm z ys))) false:=by simp[gn]
def Vw.isS:Vw->Bool
 | .sc (.str _)=>kf|_=>kd
noncomputable def isMut:Mt->Bool
 | .append=>kf|.pop=>kf|.setd=>kf|.extend=>kf|.join=>kd|.split=>kd
def dR(m:Mt)(x:Vw):Bool:=x.isS&&!isMut m
def zL(m:Mt)(s:T)(us:LT)(N:T->T->Prop):Prop:=match m with
 | .append=>∃h t,s=.lst h/\us=[t]/\h.9<kb/\N (.d .none) (.lst (h++[t]))|.pop=>∃h i k t,s=.lst h/\(us=[.d (.int i)]∨us=[]/\i=-1)/\kU h.9 i=kx k/\h[k]?=kx t/\N t (.lst (h.eraseIdx k))|.extend=>∃h x,s=.lst h/\us=[.lst x]/\h.9+x.9<=kb/\N (.d .none) (.lst (h++x))|_=>False
theorem U7(ts:LT)(t:T):zL .append (.lst ts) [t] N=(ts.9<kb/\N (.d .none) (.lst (ts++[t]))):=by simp[zL]
theorem V7(ts vs:LT):zL .extend (.lst ts) [.lst vs] N=(ts.9+vs.9<=kb/\N (.d .none) (.lst (ts++vs))):=by simp[zL]
theorem X7(ts:LT)(i:Int):zL .pop (.lst ts) [.d (.int i)] N=∃k t,kU ts.9 i=kx k/\ts[k]?=kx t/\N t (.lst (ts.eraseIdx k)):=by simp[zL]
noncomputable def MW:Mt->Bool
 | .append=>kf|.pop=>kf|.setd=>kd|.extend=>kf|.join=>kd|.split=>kd
def RI(m:Mt):T->Bool
 | .lst _=>MW m|_=>kd
noncomputable def Vw.seq:Vw->Option (LT)
 | .ls h=>kx h|.tp h=>kx h|_=>kv
def AB(u:ItK)(vs:List Vw)(R:LT->Prop):Prop:=match u with
 | .val=>(∃h,vs=[.ls h]/\R h)∨(∃h,vs=[.tp h]/\R h)∨(∃y h,vs=[.dc kf y h]/\R (y.map T.d))|.rng1=>∃j,vs=[.sc (.int j)]/\(-(2 ^ 62)<=j/\j<2 ^ 62)/\R ((Qo j.toNat).map λ(i:Nat)=>.d (.int (i:Int)))|.enum=>∃x h z,vs=[x]/\x.seq=kx h/\XF h=kx z/\R (z.zipIdx.map λp=>.d (.tuple [.int (p.2:Int),p.1]))|.itm=>(∃y h z,vs=[.dc kf y h]/\XF h=kx z/\R ((y.zip z).map λp=>.d (.tuple [p.1,p.2])))∨(vs=[.sc (.dict [])]/\R [])
end
section
variable{R:LT->Prop}
theorem jJ(ts:LT):AB .val [.ls ts] R=R ts:=by simp[AB]
theorem c8(ts:LT):AB .val [.tp ts] R=R ts:=by simp[AB]
theorem b8(j:Int):AB .rng1 [.sc (.int j)] R=((-(2 ^ 62)<=j/\j<2 ^ 62)/\R ((Qo j.toNat).map λ(i:Nat)=>.d (.int (i:Int)))):=by simp[AB]
theorem uU(ks:List D)(ts:LT):AB .itm [.dc kf ks ts] R=∃ds,XF ts=kx ds/\R ((ks.zip ds).map λp=>.d (.tuple [p.1,p.2])):=by apply t3;constructor;rintro(⟨_,_,ds,⟨⟩,h⟩| ⟨⟨⟩,_⟩);exact#[ds,h];rintro⟨ds,h⟩;exact .inl #[_,_,ds,rfl,h]
theorem xU(ks:List D)(ts:LT):AB .val [.dc kf ks ts] R=R (ks.map T.d):=by simp[AB]
theorem u8:AB .itm [.sc (.dict [])] R=R []:=by apply t3;constructor;rintro(⟨_,_,x,⟨⟩,h⟩| ⟨_,h⟩);exact h;exact λh=>.inr #[rfl,h]
end
noncomputable def iB:LN->LT->kA->Option kA
 |[],[],ρ=>kx ρ|i::is,t::ts,ρ=>iB is ts (ρ.set i (kx (.bor t)))|_,_,_=>kv
def nJ:Tg->T->kA->(kA->Prop)->Prop
 | .nm i,t,ρ,Q=>Q (ρ.set i (kx (.bor t)))|.tp is,t,ρ,Q=>match t.vw with
  | .tp x=>∃h,iB is x ρ=kx h/\Q h|_=>False
def Tg.ix:Tg->LN
 | .nm i=>[i]|.tp h=>h
def D5:PX->Option Nat
 | .var i=>kx i|_=>kv
noncomputable def dG:Option Sl->Option Sl
 |some (.own t)=>kx (.bor t)|s=>s
def lockA(ρ:kA):kA:=ρ.map dG
def lock:LN->kA->kA
 |[],ρ=>ρ|i::is,ρ=>lock is (ρ.modify i dG)
def zX:Option Sl->Option Sl
 |some (.own t)=>bD t.er|s=>s
noncomputable def frzAt:LN->kA->kA
 |[],ρ=>ρ|i::is,ρ=>frzAt is (ρ.modify i zX)
noncomputable def EI:Option Sl->Option Sl
 |some (.bor t)=>if t.isD=kf then kx (.bor t) else kv|s=>s
def kill:LN->kA->kA
 |[],ρ=>ρ|i::is,ρ=>kill is (ρ.modify i EI)
noncomputable def clear:LN->kA->kA
 |[],ρ=>ρ|i::is,ρ=>clear is (ρ.set i kv)
noncomputable def rA:LN->kA->Option (LT)
 |[],_=>kx []|i::is,ρ=>match ρ[i]? with
  |some (kx (.own t))=>(rA is ρ).map (t::·)|_=>kv
noncomputable def dB:LN->LT->kA->Option kA
 |[],[],ρ=>kx ρ|i::is,t::ts,ρ=>dB is ts (ρ.set i (kx (.own t)))|_,_,_=>kv
noncomputable def PB:List Bool->kA->kA
 |b::m,v::ρ=>(if b then kv else v)::PB m ρ|_,ρ=>ρ
def xL(k:Nat)(mask:List Bool)(ρ:kA):kA:=wE k kv++PB mask ρ
def sq{α:Type}(x:T)(ρ:kA)(b:kA->(α->kA->Prop)->Prop)(K:α->kA->Prop):Prop :=
 if x.isD=kf then b ρ K else b (lockA ρ) λy _=>K y ρ
def cu(f:kA->TK->Prop):kA->(T×Bool->kA->Prop)->Prop:=λy K=>f y λx n h=>K (x,n) h
def HF:List (T×Bool)->LT
 |[]=>[]|p::r=>p.1::HF r
def rO:List (T×Bool)->LT
 |[]=>[]|p::r=>nA p.1 p.2::rO r
noncomputable def vC:List (T×Bool)->List Vw
 |[]=>[]|p::r=>(nA p.1 p.2).vw::vC r
noncomputable def GE:List (T×Bool)->Bool
 |[]=>kf|p::r=>OF p.1 p.2&&GE r
noncomputable def FN:List (T×Bool)->Bool
 |[]=>kf|p::r=>OF p.1 p.2&&FN r
def yD(t:T):Option T:=match t.vw with
 | .ls h=>(XF h).map λx=>.lst (x.map T.d)|_=>if t.isD=kf then kx t else kv
def lA:List Md->List (T×Bool)->LT->Option (LT)
 |_,[],[]=>kx []|_,[],_::_=>kv|md,(x,n)::xs,os=>match md.headD .fro with
  | .fro=>match nA x n with
   | .d d=>(lA md.tail xs os).map (.d d::·)|_=>kv
  | .shal=>match yD (nA x n) with
   |some t=>(lA md.tail xs os).map (t::·)|none=>kv
  | .bor=>(lA md.tail xs os).map (nA x n::·)|.chg=>match os with
   |o::os=>(lA md.tail xs os).map (o::·)|[]=>kv
noncomputable def OB:List Md->LT->LT
 |_,[]=>[]|md,t::ts=>match md.headD .fro with
  | .chg=>t::OB md.tail ts|_=>OB md.tail ts
noncomputable def vA:List Md->PX->LN
 | .chg::md,.acons (.var j) as=>j::vA md as|_::md,.acons _ as=>vA md as|_,_=>[]
def Md.isMut:Md->Bool
 | .chg=>kf|_=>kd
structure D3 where
 e:kA->TK->Prop
 t:kA->(Bool->kA->Prop)->Prop
 a:List Md->kA->(List (T×Bool)->kA->Prop)->Prop
def SD:D3:=#[λ_ _=>False,λ_ _=>False,λ_ _ _=>False]
def vD(body:T->(Option T->Prop)->Prop):LT->LT->(LT->Prop)->Prop
 |[],acc,Q=>acc.9<=kb/\Q acc|x::xs,acc,Q=>body x fun
  |some y=>acc.9<kb/\vD body xs (acc++[y]) Q|none=>vD body xs acc Q
def pG(v:Tg)(u:kA)(c:kA->(Bool->kA->Prop)->Prop)(e:kA->TK->Prop)(x:T)(R:Option T->Prop):Prop :=
 nJ v x u λz=>c z λb h=>if b=kf then e h λy n _=>OF y n=kf/\R (kx y) else R kv
def Mi:Option (Option Sl)->(T->Prop)->Prop
 |some (kx (.own t)),Q=>Q t|some (kx (.bor t)),Q=>Q t|some kv,_=>False|none,_=>False
def xC:Option (Option Sl)->(T->Prop)->Prop
 |some (kx (.own t)),Q=>Q t|some (kx (.bor _)),_=>False|some kv,_=>False|none,_=>False
def Re:Option Nat->(Nat->Prop)->Prop
 |none,_=>False|some j,Q=>Q j
def f8:PX->Bool
 | .var _=>kf|_=>kd
def KH(v:Tg)(u:Nat)(e:kA->TK->Prop):LT->List D->kA->(List D->kA->Prop)->Prop
 |[],acc,ρ,Q=>acc.9<=kb/\Q acc ρ|x::xs,acc,ρ,Q=>nJ v x (wE u kv++ρ) λz=>e z λy n h=>OF y n=kf/\acc.9<kb/\KH v u e xs (acc++[y.er]) (h.drop u) Q
def pe(Ψ:PEv):PX->XE->D3
 | .var i,_=>let e:kA->TK->Prop:=λv Q=>Mi v[i]? λt=>Q t kd v
  #[e,λv Q=>e v λt _ h=>sI t.er λb=>Q b h,SD.a]
 | .int i,_=>#[λv Q=>Q (.d (.int i)) kd v,λv Q=>Q (i != 0) v,SD.a]|.str x,_=>#[λv Q=>Q (.d (.str x)) kd v,SD.t,SD.a]|.bl b,_=>#[λv Q=>Q (.d (.bool b)) kd v,λv Q=>Q b v,SD.a]|.non,_=>#[λv Q=>Q (.d .none) kd v,λv Q=>Q kd v,SD.a]|.glo x,_=>let e:kA->TK->Prop:=λv Q=>match Ψ.va x with
   |some d=>Q (.d d) kd v|none=>False
  #[e,λv Q=>e v λt _ h=>sI t.er λb=>Q b h,SD.a]
 | .bin op a b,E=>let e:kA->TK->Prop:=λv Q=>(pe Ψ a E).e v λx n h=>sq (nA x n) h (cu (pe Ψ b E).e) λy w=>binT op (nA x n).vw (nA y.1 y.2).vw λz k=>Q z k w
  #[e,λv Q=>e v λt _ h=>sI t.er λb=>Q b h,SD.a]
 | .cmp op a b,E=>let t:kA->(Bool->kA->Prop)->Prop:=λv Q=>(pe Ψ a E).e v λx n h=>sq (nA x n) h (cu (pe Ψ b E).e) λy w=>Nd op x.er (nA y.1 y.2) λk=>Q k w
  #[λv Q=>t v λk h=>Q (.d (.bool k)) kd h,t,SD.a]
 | .and a b,E=>#[λv Q=>(pe Ψ a E).e v λx _ h=>am x.er λc=>if c=kf then(pe Ψ b E).e h Q else Q (.d (.bool kd)) kd h,
   λv Q=>(pe Ψ a E).t v λc h=>if c=kf then(pe Ψ b E).t h Q else Q kd h,SD.a]
 | .or a b,E=>#[λv Q=>(pe Ψ a E).e v λx _ h=>am x.er λc=>if c=kf then Q (.d (.bool kf)) kd h else(pe Ψ b E).e h Q,
   λv Q=>(pe Ψ a E).t v λc h=>if c=kf then Q kf h else(pe Ψ b E).t h Q,SD.a]
 | .not a,E=>#[λv Q=>(pe Ψ a E).e v λx _ h=>sI x.er λc=>Q (.d (.bool (!c))) kd h,λv Q=>(pe Ψ a E).t v λc h=>Q (!c) h,SD.a]|.ife c a b,E=>#[λv Q=>(pe Ψ c E).t v λk h=>if k=kf then(pe Ψ a E).e h Q else(pe Ψ b E).e h Q,SD.t,SD.a]|.call f as,E=>let e:kA->TK->Prop:=λv Q=>∃Z,rA (vA (Ψ.sp f).md as) v=kx Z/\(vA (Ψ.sp f).md as).Nodup/\(pe Ψ as E).a (Ψ.sp f).md (clear (vA (Ψ.sp f).md as) v) λg h=>∃Y,lA (Ψ.sp f).md g Z=kx Y/\(Ψ.sp f).run Y (λr s=>∃w,dB (vA (Ψ.sp f).md as) s h=kx w/\Q r kf w) E
  #[e,λv Q=>e v λt _ h=>sI t.er λb=>Q b h,SD.a]
 | .bi f as,E=>let e:kA->TK->Prop:=λv Q=>(pe Ψ as E).a [] v λg h=>z4 f (vC g) λz k=>Q z k h
  #[e,λv Q=>e v λt _ h=>sI t.er λb=>Q b h,SD.a]
 | .mt m o as,E=>let e:kA->TK->Prop:=λv Q=>if isMut m=kf then Re (D5 o) λj=>xC v[j]? λt=>RI m t=kf/\(pe Ψ as E).a [] (v.set j (kx (.bor t))) λg w=>GE g=kf/\w[j]?=kx (kx (.bor t))/\zL m t (HF g) λr K=>Q r kf (w.set j (kx (.own K))) else(pe Ψ o E).e v λx n h=>dR m (nA x n).vw=kf/\sq (nA x n) h ((pe Ψ as E).a []) λg w=>gn m (nA x n).vw (vC g) λz k=>Q z k w
  #[e,λv Q=>e v λt _ h=>sI t.er λb=>Q b h,SD.a]
 | .idx a b,E=>let e:kA->TK->Prop:=λv Q=>(pe Ψ a E).e v λx n h=>sq (nA x n) h (cu (pe Ψ b E).e) λy w=>(pO (nA x n).vw (nA y.1 y.2).vw λz=>Q z kd w)∨(iU (nA x n).vw y.1.er λz=>Q z kd w)
  #[e,λv Q=>e v λt _ h=>sI t.er λb=>Q b h,SD.a]
 | .slc a lo hi,E=>#[λv Q=>(pe Ψ a E).e v λx n h =>
   sq (α:=Option Int) (nA x n) h (if isNop lo=kf then λv (R:Option Int->kA->Prop)=>R kv v else λv R=>(pe Ψ lo E).e v λl _ w=>uG l.er λo=>R o w) λl w =>
   sq (α:=Option Int) (nA x n) w (if isNop hi=kf then λv (R:Option Int->kA->Prop)=>R kv v else λv R=>(pe Ψ hi E).e v λu _ q=>uG u.er λo=>R o q) λu q=>uO (nA x n).vw l u λz k=>Q z k q,SD.t,SD.a]
 | .nop,_=>SD|.lst as,E=>#[λv Q=>(pe Ψ as E).a [] v λg h=>GE g=kf/\g.9<=kb/\Q (.lst (HF g)) kf h,SD.t,SD.a]|.tup as,E=>#[λv Q=>(pe Ψ as E).a [] v λg h=>GE g=kf/\g.9<=kb/\Q (zD (HF g)) kf h,SD.t,SD.a]|.comp mask tgs tg ik its cond elt,E=>#[λv Q=>(pe Ψ its E).a [] v λg h=>AB ik (vC g) λp =>
   vD (pG tg (xL tgs.9 mask (lockA h)) (if isNop cond=kf then λv R=>R kf v else(pe Ψ cond (λ_=>False)).t) (pe Ψ elt (λ_=>False)).e) p [] λW=>Q (.lst W) kf h,SD.t,SD.a]
 | .dnew b,_=>#[λv Q=>Q (.dct b [] []) kf v,SD.t,SD.a]|.dsp a b,E=>#[λv Q=>(pe Ψ a E).e v λy m h=>OF y m=kf/\(pe Ψ b E).e h λx n w=>OF x n=kf/\AC kf y.er/\Q (.dct kf [y.er] [x]) kf w,SD.t,SD.a]|.ng i,_=>#[λv Q=>Q (.d (.int (-i))) kd v,SD.t,SD.a]|.eff (.comp mask tgs tg ik its cond elt),E=>#[λv Q=>(isNop cond=kf/\(tg.ix.all λj=>decide (j<tgs.9))=kf)/\(pe Ψ its E).a [] v λg h=>FN g=kf/\AB ik (vC g) λp =>
   KH tg tgs.9 (pe Ψ elt (λ_=>False)).e p [] (PB mask h) λA w=>Q (.lst (A.map T.d)) kf w,SD.t,SD.a]
 | .eff _,_=>SD|.anil,_=>#[SD.e,SD.t,λ_ v Q=>Q [] v]|.acons a as,E=>#[SD.e,SD.t,λX v Q=>if(X.headD .fro).isMut=kf then f8 a=kf/\(pe Ψ as E).a X.tail v λg h=>Q ((.d .none,kf)::g) h
   else(pe Ψ a E).e v λx n h=>sq (α:=List (T×Bool)) (if n=kf then .d .none else x) h ((pe Ψ as E).a X.tail) λg w=>Q ((x,n)::g) w]
structure PEnds where
 nx:kA->Prop
 rt:T->kA->Prop
 bk:kA->Prop:=λ_=>False
 ct:kA->Prop:=λ_=>False
noncomputable def NF:PX->LN
 | .var i=>[i]|.idx a _=>NF a|.ife _ a b=>NF a++NF b|.and a b | .or a b=>NF a++NF b
 | .acons a h=>NF a++NF h|_=>[]
noncomputable def MM:Option (Option Sl)->Bool
 |some (kx (.own _))=>kf|some (kx (.bor _))=>kd|some kv=>kd|none=>kd
def oC(ρ:kA):LN->LN
 |[]=>[]|i::is=>if MM ρ[i]?=kf then i::oC ρ is else oC ρ is
noncomputable def HC:LN->kA->kA->kA
 |[],_,ρ=>ρ|i::L,ρ0,ρ=>HC L ρ0 (ρ.set i (ρ0[i]?.getD kv))
def XV(J L:LN)(h:kA)(N:kA->Prop)(ρ:kA):Prop:=(∀i∈L,i∉J/\ρ[i]?=h[i]?.map dG)/\N (HC L h ρ)
def yI(body:PEnds->kA->Prop)(z:Tg)(Z:PEnds):LT->kA->Prop
 |[],ρ=>Z.nx ρ|x::xs,ρ=>nJ z x ρ λy=>body { Z with nx:=λh=>yI body z Z xs h,ct:=λh=>yI body z Z xs h,bk:=Z.nx } y
def Eu(ρ:kA)(i:Nat)(R:T->kA->Prop):Option (Option Sl)->Prop
 |some (kx (.own t))=>R t (ρ.set i kv)|some (kx (.bor t))=>t.isD=kf/\R t ρ|some kv=>False|none=>False
def xE(Ψ:PEv)(E:XE)(y:T->kA->Prop):PX->kA->Prop
 | .var i,ρ=>Eu ρ i y ρ[i]?|.ife c a b,ρ=>(pe Ψ c E).t ρ λk h=>if k=kf then xE Ψ E y a h else xE Ψ E y b h|e,ρ=>(pe Ψ e E).e ρ λx n h=>OF x n=kf/\y x h
def Ho:T->D->D->(T->Prop)->Prop
 | .lst ts,.int i,x,Q=>∃n,kU ts.9 i=kx n/\Q (.lst (ts.set n (.d x)))|.dct b ks ts,k,x,Q=>AC b k/\ks.9<kb/\Q (OJ b ks ts k (.d x))|_,_,_,_=>False
noncomputable def Mu:PX->Option (Nat×Option PX)
 | .var j=>kx (j,kv)|.idx (.var j) k=>kx (j,kx k)|_=>kv
def Ui(k:D)(t:T)(Q:T->Prop):Prop:=∃h x,t=.dct kf h x/\AC kf k/\h.9<kb/\((∃n,cA h k=kx n/\Q t)∨(cA h k=kv/\Q (.dct kf (h++[k]) (x++[.dct kf [] []]))))
def Fd:T->Bool
 | .dct kf _ _=>kf|_=>kd
def zi(z:D)(t:T)(Q:T->(T->T)->Prop):Prop:=∃b x h n s,t=.dct b x h/\AC b z/\cA x z=kx n/\h[n]?=kx s/\Q s λy=>.dct b x (h.set n y)
def ft(k:D)(t:T)(Q:T->Prop):Prop:=∃h x,t=.dct kd h x/\AC kd k/\h.9<kb/\cA h k=kv/\Q (.dct kd (h++[k]) (x++[.lst []]))
def lB(Ψ:PEv)(E:XE):PT->PEnds->kA->Prop
 | .nil,Z,u=>Z.nx u|.seq s r,Z,u=>lB Ψ E s { Z with nx:=λw=>lB Ψ E r Z w } u|.set i e,Z,u=>(pe Ψ e E).e u λx n h=>OF x n=kf/\Z.nx (h.set i (bD x.er))|.expr e,Z,u=>(pe Ψ e E).e u λ_ _ h=>Z.nx h|.ret e,Z,u=>xE Ψ E Z.rt e u|.ife c a b,Z,u=>(pe Ψ c E).t u λk h=>if k=kf then lB Ψ E a Z h else lB Ψ E b Z h|.for_ tg ik its body,Z,u=>(pe Ψ its E).a [] u λY h=>AB ik (vC Y) λf =>
   if FN Y=kf then yI (lB Ψ E body) tg { Z with nx:=λv=>Z.nx (kill tg.ix v) } f h
   else yI (lB Ψ E body) tg { Z with nx:=λv=>XV tg.ix (oC h (NF its)) h Z.nx (kill tg.ix v) } f (lock (oC h (NF its)) h)
 | .own i e,Z,u=>(pe Ψ e E).e u λx n h=>OF x n=kf/\Z.nx (h.set i (kx (.own x)))|.tset is e,Z,u=>(pe Ψ e E).e u λx n h=>OF x n=kf/\nJ (.tp is) (.d x.er) h Z.nx|.six o i e,Z,u=>match Mu o with
  |none=>False|some (j,kv)=>xC u[j]? λt=>(pe Ψ e E).e (u.set j (kx (.bor t))) λx n h=>OF x n=kf/\(pe Ψ i E).e h λy m v=>OF y m=kf/\v[j]?=kx (kx (.bor t))/\Ho t y.er x.er λp=>Z.nx (v.set j (kx (.own p)))|some (j,kx k)=>xC u[j]? λt=>(pe Ψ e E).e (u.set j (kx (.bor t))) λx n h=>OF x n=kf/\(pe Ψ k E).e h λz l v=>OF z l=kf/\zi z.er t λs put=>(pe Ψ i E).e v λy m g=>OF y m=kf/\g[j]?=kx (kx (.bor t))/\Ho s y.er x.er λK=>Z.nx (g.set j (kx (.own (put K))))
 | .sdf j k,Z,u=>xC u[j]? λt=>Fd t=kf/\(pe Ψ k E).e (u.set j (kx (.bor t))) λy m h=>OF y m=kf/\h[j]?=kx (kx (.bor t))/\Ui y.er t λp=>Z.nx (h.set j (kx (.own p)))|.sxo j i,Z,u=>xC u[j]? λt=>i≠j/\Mi u[i]? λy=>∃d,y=.d d/\ft d t λp=>Z.nx (u.set j (kx (.own p)))|.pap j k e,Z,u=>xC u[j]? λt=>(pe Ψ k E).e (u.set j (kx (.bor t))) λz l h=>OF z l=kf/\zi z.er t λs put=>∃X,s=.lst X/\(pe Ψ e E).e h λx n v=>OF x n=kf/\v[j]?=kx (kx (.bor t))/\X.9<kb/\Z.nx (v.set j (kx (.own (put (.lst (X++[.d x.er]))))))|.whl c body,Z,u=>∃W:Nat->kA->Prop,(∃m,W m u)/\∀m u,W m u->(pe Ψ c E).t u λb h=>if b=kf then
   lB Ψ E body { Z with nx:=λw=>∃q,q < m/\W q w,ct:=λw=>∃q,q < m/\W q w,bk:=Z.nx } h else Z.nx h
 | .frz is s,Z,u=>lB Ψ E s Z (frzAt is u)
abbrev pF(Ψ:PEv):PT->PEnds->kA->Prop:=lB Ψ λ_=>False
theorem _root_.L2.Same.rd{H x:Hp}(e:Same H x){a:ko}{u:HO}(h:Rd H a u):Rd x a u:=by
 rcases h with h|⟨o,h⟩
 exact .inl (e _ _ h);exact .inr #[o,e _ _ h]
theorem _root_.L2.Same.tupl{K:QA}{H x:Hp}{a:ko}{xs:LV}(e:Same H x)(h:jE K H a xs):jE K x a xs:=by rcases h with h|h;exact .inl (e.rd h);exact .inr h
mutual
theorem TY{K:QA}{H x:Hp}(e:Same H x):∀{k:NK}{v:V},Cm K H k v->Cm K x k v
 | .s _,_,h=>h|.t _,_,#[a,xs,h,q,p]=>#[a,xs,h,e.tupl q,kys_mono e p]
theorem kys_mono{K:QA}{H y:Hp}(e:Same H y):∀{ks:List NK}{vs:LV},KyVs K H ks vs->KyVs K y ks vs
 |[],_,h=>h|_::_,_,#[x,r,h,p,q]=>#[x,r,h,TY e p,kys_mono e q]
end
section
variable{K:QA}{H x:Hp}{vs:LV}{ds:List D}
theorem _root_.L2.Same.key(e:Same H x){b:ko}{k:NK}(h:UO K H b k):UO K x b k:=#[TY e h.1,h.2]
theorem mI.mono(e:Same H x){b:Bool}{o:HO}{ks:List D}(h:mI K H b o ks vs):mI K x b o ks vs:=by
 cases b with|true=>let#[f,y,a,k,w,v,u]:=h;exact#[f,y,a,k,w,λp z=>e.key (v p z),u]|false=>exact h
theorem Rep.mono2(e:Same H x):(∀{v:V}{d:D},Rep K H v d->Rep K x v d)/\∀{vs:LV}{ds:List D},Reps K H vs ds->Reps K x vs ds :=
 Rep.both (P:=Rep K x) (R:=Reps K x) .non .bl .int .str (λh _ r=>.lst (e.seq h) r) (λh _ r=>.tup (e.tupl h) r) (λh q _ r=>.dct (e _ _ h) (q.mono e) r) .nil λ_ _ h r=>.cons h r
theorem Rep.mono(e:Same H x){v:V}{d:D}(h:Rep K H v d):Rep K x v d:=(Rep.mono2 e).1 h
theorem Reps.mono(e:Same H x)(h:Reps K H vs ds):Reps K x vs ds:=(Rep.mono2 e).2 h
theorem Reps.append{ws:LV}{es:List D}(h:Reps K H vs ds)(r:Reps K H ws es):Reps K H (vs++ws) (ds++es):=Reps.ind (R:=λvs ds=>Reps K H (vs++ws) (ds++es)) r (λh t=>.cons h t) h
theorem Reps.get{K:QA}{H:Hp}:∀{vs:LV}{ds:List D}{i:Nat}{d:D},Reps K H vs ds->ds[i]?=kx d->∃v,vs[i]?=kx v/\Rep K H v d
 |_,_,i,_,.nil,h=>by simp at h|_,_,0,_,.cons h _,e=>by simp at e;subst e;exact#[_,rfl,h]|_,_,i+1,d,.cons _ t,e=>by let#[v,z,y]:=Reps.get (i:=i) t (by simpa using e);exact#[v,by simpa using z,y]
theorem Reps.drop{K:QA}{H:Hp}:∀{vs:LV}{ds:List D}(n:Nat),Reps K H vs ds->Reps K H (vs.drop n) (ds.drop n)
 |_,_,0,r=>r|_,_,_+1,.nil=>.nil|_,_,n+1,.cons _ t=>Reps.drop n t
theorem Reps.take{K:QA}{H:Hp}:∀{vs:LV}{ds:List D}(n:Nat),Reps K H vs ds->Reps K H (vs.take n) (ds.take n)
 |_,_,0,_=>.nil|_,_,_+1,.nil=>.nil|_,_,n+1,.cons h t=>.cons h (Reps.take n t)
theorem Reps.bools{K:QA}{H:Hp}:∀{vs:LV}{bs:List Bool},Reps K H vs (bs.map PyData.bool)->vs=bs.map V.bl
 |_,[],.nil=>rfl|_,b::bs,.cons h t=>by cases h;rw[QT,Reps.bools t]
theorem DB{p:ko}{o:HO}(h:H p=kv):Same H (CA H p o):=λb u q=>by rw[uA (sA q h)];exact q
end
mutual
inductive Tr(K:QA)(F H:Hp):Bool->V->T->(ko->Prop)->Prop where
 |d {st:Bool}{v:V}{x:D}{S:eB}:Rep K F v x->(∀b,¬ S b)->Tr K F H st v (.d x) S
 |lst {st:Bool}{a:ko}{vs:LV}{ts:LT}{S S':eB}:H a=kx (.lst vs)->F a=kv->Trs K F H st vs ts S'->¬ S' a->(∀b,S b↔b=a∨S' b)->Tr K F H st (.ref a) (.lst ts) S
 |tup {st:Bool}{a:ko}{vs:LV}{ts:LT}{S S':eB}:H a=kx (.tup vs)->F a=kv->Trs K F H st vs ts S'->¬ S' a->(∀b,S b↔b=a∨S' b)->Tr K F H st (.ref a) (.tup ts) S
 |lstF {a:ko}{vs:LV}{ds:List D}{S:eB}:RC K F a vs->Reps K F vs ds->(∀b,¬ S b)->Tr K F H kd (.ref a) (.lst (ds.map T.d)) S
 |dct {st b:Bool}{a:ko}{o:HO}{ks:List D}{vs:LV}{ts:LT}{S S':eB}:H a=kx o->mI K F b o ks vs->F a=kv->Trs K F H st vs ts S'->¬ S' a->(∀b,S b↔b=a∨S' b)->Tr K F H st (.ref a) (.dct b ks ts) S
inductive Trs(K:QA)(F H:Hp):Bool->LV->LT->(ko->Prop)->Prop where
 |nil {st:Bool}{S:eB}:(∀b,¬ S b)->Trs K F H st [] [] S
 |cons {st:Bool}{v:V}{t:T}{vs:LV}{ts:LT}{S S1 S2:eB}:Tr K F H st v t S1->Trs K F H st vs ts S2->(∀b,S1 b->¬ S2 b)->(∀b,S b↔S1 b∨S2 b)->Trs K F H st (v::vs) (t::ts) S
end
section
variable{K:QA}{F H w c:Hp}
section
variable{R:Bool->LV->LT->(ko->Prop)->Prop}{st b:Bool}{v:V}{t:T}{S:eB}{vs:LV}{ts:LT}{ds ks:List D}{i:Int}{kvs:List (D×D)}
theorem Tr.both{P:Bool->V->T->(ko->Prop)->Prop}
    (d:∀{st:Bool}{v:V}{x:D}{S:eB},Rep K F v x->(∀b,¬ S b)->P st v (.d x) S)
    (lst:∀{st:Bool}{a:ko}{vs:LV}{ts:LT}{S S':eB},H a=kx (.lst vs)->F a=kv->Trs K F H st vs ts S'->¬ S' a->(∀b,S b↔b=a∨S' b)->R st vs ts S'->P st (.ref a) (.lst ts) S)
    (tup:∀{st:Bool}{a:ko}{vs:LV}{ts:LT}{S S':eB},H a=kx (.tup vs)->F a=kv->Trs K F H st vs ts S'->¬ S' a->(∀b,S b↔b=a∨S' b)->R st vs ts S'->P st (.ref a) (.tup ts) S)
    (y:∀{a:ko}{vs:LV}{ds:List D}{S:eB},RC K F a vs->Reps K F vs ds->(∀b,¬ S b)->P kd (.ref a) (.lst (ds.map T.d)) S)
    (dct:∀{st b:Bool}{a:ko}{o:HO}{ks:List D}{vs:LV}{ts:LT}{S S':eB},H a=kx o->mI K F b o ks vs->F a=kv->Trs K F H st vs ts S'->¬ S' a->(∀b,S b↔b=a∨S' b)->R st vs ts S'->P st (.ref a) (.dct b ks ts) S)
    (u:∀{st:Bool}{S:eB},(∀b,¬ S b)->R st [] [] S)
    (z:∀{st:Bool}{v:V}{t:T}{vs:LV}{ts:LT}{S S1 k:eB},Tr K F H st v t S1->Trs K F H st vs ts k->(∀b,S1 b->¬ k b)->(∀b,S b↔S1 b∨k b)->P st v t S1->R st vs ts k->R st (v::vs) (t::ts) S) :
    (∀{st:Bool}{v:V}{t:T}{S:eB},Tr K F H st v t S->P st v t S)/\∀{st:Bool}{vs:LV}{ts:LT}{S:eB},Trs K F H st vs ts S->R st vs ts S :=
  #[λh=>Tr.rec (motive_1:=λst v t S _=>P st v t S) (motive_2:=λst vs ts S _=>R st vs ts S) @d @lst @tup @y @dct @u @z h,
   λh=>Trs.rec (motive_1:=λst v t S _=>P st v t S) (motive_2:=λst vs ts S _=>R st vs ts S) @d @lst @tup @y @dct @u @z h]
theorem Tr.mono2(e:Same F w):(∀{st:Bool}{v:V}{t:T}{S:eB},Tr K F H st v t S->(∀b,S b->c b=H b/\w b=kv)->Tr K w c st v t S)/\∀{st:Bool}{vs:LV}{ts:LT}{S:eB},Trs K F H st vs ts S->(∀b,S b->c b=H b/\w b=kv)->Trs K w c st vs ts S :=
 Tr.both (P:=λst v t S=>(∀b,S b->c b=H b/\w b=kv)->Tr K w c st v t S) (R:=λst v t S=>(∀b,S b->c b=H b/\w b=kv)->Trs K w c st v t S)
  (λr n _=>.d (r.mono e) n)
  (λ{_ a _ _ _ _} h _ _ n q x k=>.lst ((k a ((q a).mpr (.inl rfl))).1.trans h) (k a ((q a).mpr (.inl rfl))).2 (x λb hb=>k b ((q b).mpr (.inr hb))) n q)
  (λ{_ a _ _ _ _} h _ _ n q x k=>.tup ((k a ((q a).mpr (.inl rfl))).1.trans h) (k a ((q a).mpr (.inl rfl))).2 (x λb hb=>k b ((q b).mpr (.inr hb))) n q)
  (λh r n _=>.lstF (e.seq h) (r.mono e) n)
  (λ{_ _ a _ _ _ _ _ _} h u _ _ n q x k=>.dct ((k a ((q a).mpr (.inl rfl))).1.trans h) (u.mono e) (k a ((q a).mpr (.inl rfl))).2 (x λb hb=>k b ((q b).mpr (.inr hb))) n q)
  (λn _=>.nil n)
  (λ_ _ n q z y k=>.cons (z λb hb=>k b ((q b).mpr (.inl hb))) (y λb hb=>k b ((q b).mpr (.inr hb))) n q)
theorem Tr.mono(e:Same F w)(h:Tr K F H st v t S)(k:∀b,S b->c b=H b/\w b=kv):Tr K w c st v t S:=(Tr.mono2 e).1 h k
theorem Trs.mono(e:Same F w)(h:Trs K F H st vs ts S)(k:∀b,S b->c b=H b/\w b=kv):Trs K w c st vs ts S:=(Tr.mono2 e).2 h k
theorem Tr.weak2:(∀{st:Bool}{v:V}{t:T}{S:eB},Tr K F H st v t S->Tr K F H kd v t S)/\∀{st:Bool}{vs:LV}{ts:LT}{S:eB},Trs K F H st vs ts S->Trs K F H kd vs ts S :=
 Tr.both (P:=λ_ v t S=>Tr K F H kd v t S) (R:=λ_ v t S=>Trs K F H kd v t S) .d (λh f _ n q x=>.lst h f x n q) (λh f _ n q x=>.tup h f x n q) .lstF (λh u f _ n q x=>.dct h u f x n q) .nil λ_ _ n q z y=>.cons z y n q
theorem Tr.weak(h:Tr K F H st v t S):Tr K F H kd v t S:=Tr.weak2.1 h
theorem Trs.weak(h:Trs K F H st vs ts S):Trs K F H kd vs ts S:=Tr.weak2.2 h
theorem g9{C:eB}{a:ko}{S':eB}(q:∀b,S b↔b=a∨S' b)(h:C a)(k:∀b,S' b->C b)(b:ko)(hb:S b):C b:=((q b).mp hb).elim (λe=>e▸h) (k b)
theorem Tr.dom2:(∀{st:Bool}{v:V}{t:T}{S:eB},Tr K F H st v t S->∀b,S b->H b≠kv/\F b=kv)/\∀{st:Bool}{vs:LV}{ts:LT}{S:eB},Trs K F H st vs ts S->∀b,S b->H b≠kv/\F b=kv :=
 have y:∀{a:ko}{o:HO},H a=kx o->H a≠none:=λh z=>by rw[h]at z;cases z
 Tr.both (P:=λ_ _ _ S=>∀b,S b->H b≠kv/\F b=kv) (R:=λ_ _ _ S=>∀b,S b->H b≠kv/\F b=kv)
  (λ_ n b hb=>ti hb (n b)) (λh f _ _ q x=>g9 q #[y h,f] x) (λh f _ _ q x=>g9 q #[y h,f] x) (λ_ _ n b hb=>ti hb (n b)) (λh _ f _ _ q x=>g9 q #[y h,f] x)
  (λn b hb=>ti hb (n b)) λ_ _ _ q k u b hb=>((q b).mp hb).elim (k b) (u b)
theorem Tr.dom(h:Tr K F H st v t S):∀b,S b->H b≠kv/\F b=none:=Tr.dom2.1 h
theorem Trs.dom(h:Trs K F H st vs ts S):∀b,S b->H b≠kv/\F b=none:=Tr.dom2.2 h
theorem Tr.kept2(e:Same F w):(∀{st:Bool}{v:V}{t:T}{S:eB},Tr K F H st v t S->(∀b u,S b->H b=kx u->w b=kx u)->Rep K w v t.er)/\∀{st:Bool}{vs:LV}{ts:LT}{S:eB},Trs K F H st vs ts S->(∀b u,S b->H b=kx u->w b=kx u)->Reps K w vs (ersT ts) :=
 Tr.both (P:=λ_ v t S=>(∀b u,S b->H b=kx u->w b=kx u)->Rep K w v t.er) (R:=λ_ v t S=>(∀b u,S b->H b=kx u->w b=kx u)->Reps K w v (ersT t))
  (λr _ _=>r.mono e)
  (λ{_ a _ _ _ _} h _ _ _ q x k=>by unfold T.er;exact .lst (RC.of (k a _ ((q a).mpr (.inl rfl)) h)) (x λb u hb=>k b u ((q b).mpr (.inr hb))))
  (λ{_ a _ _ _ _} h _ _ _ q x k=>by unfold T.er;exact .tup (jE.of (k a _ ((q a).mpr (.inl rfl)) h)) (x λb u hb=>k b u ((q b).mpr (.inr hb))))
  (λh r _ _=>by unfold T.er;rw[JA];exact .lst (e.seq h) (r.mono e))
  (λ{_ _ a _ _ _ _ _ _} h f _ _ _ q x k=>by unfold T.er;exact .dct (k a _ ((q a).mpr (.inl rfl)) h) (f.mono e) (x λb u hb=>k b u ((q b).mpr (.inr hb))))
  (λ_ _=>.nil)
  (λ_ _ _ q z y k=>.cons (z λb u hb=>k b u ((q b).mpr (.inl hb))) (y λb u hb=>k b u ((q b).mpr (.inr hb))))
theorem Tr.kept(e:Same F w)(h:Tr K F H st v t S)(k:∀b u,S b->H b=kx u->w b=kx u):Rep K w v t.er:=(Tr.kept2 e).1 h k
theorem Tr.rep(f:Same F H)(h:Tr K F H st v t S):Rep K H v t.er:=h.kept f λ_ _ _ e=>e
theorem Trs.ind(z:∀{st:Bool}{S:eB},(∀b,¬ S b)->R st [] [] S)
  (x:∀{st:Bool}{v:V}{t:T}{vs:LV}{ts:LT}{S S1 y:eB},Tr K F H st v t S1->Trs K F H st vs ts y->(∀b,S1 b->¬ y b)->(∀b,S b↔S1 b∨y b)->R st vs ts y->R st (v::vs) (t::ts) S) (h:Trs K F H st vs ts S):R st vs ts S :=
 (Tr.both (P:=λ_ _ _ _=>True) (λ_ _=>trivial) (λ_ _ _ _ _ _=>trivial) (λ_ _ _ _ _ _=>trivial) (λ_ _ _=>trivial) (λ_ _ _ _ _ _ _=>trivial) z λh t n q _ r=>x h t n q r).2 h
theorem Trs.length(h:Trs K F H st vs ts S):vs.9=ts.length:=Trs.ind (R:=λ_ vs ts _=>vs.9=ts.9) (λ_=>rfl) (λ_ _ _ _ e=>aj Nat.succ e) h
theorem Trs.of_reps(h:Reps K F vs ds):Trs K F H st vs (ds.map T.d) (λ_=>False) :=
 Reps.ind (R:=λvs ds=>Trs K F H st vs (ds.map T.d) λ_=>False) (.nil λ_ z=>z) (λh t=>.cons (.d h λ_ z=>z) t (λ_ z=>z.elim) λb=>by simp) h
theorem Trs.un(h:Trs K F H st vs ts S)(e:XF ts=kx ds):Reps K F vs ds/\∀b,¬ S b:=by
 have u:=yM e;clear e;revert ds;refine Trs.ind (R:=λ_ vs ts S=>∀{ds:List D},ts=ds.map T.d->Reps K F vs ds/\∀b,¬ S b) (λn ds e=>?_) (λh _ _ q x ds e=>?_) h;cases ds with|nil=>exact#[.nil,n]|cons d r=>cases e
 cases ds with
 |nil=>cases e|cons d r =>
  injection e with e1 e2;let#[z,y]:=x e2;subst e1;cases h with|d rep m=>exact#[.cons rep z,λb hb=>((q b).mp hb).elim (m b) (y b)]
theorem Trs.get{i:Nat}(h:Trs K F H st vs ts S)(e:ts[i]?=kx t):∃v S1,vs[i]?=kx v/\Tr K F H st v t S1/\∀b,S1 b->S b:=by
 revert i;refine Trs.ind (R:=λst vs ts S=>∀{i:Nat},ts[i]?=kx t->∃v S1,vs[i]?=kx v/\Tr K F H st v t S1/\∀b,S1 b->S b) (λn i e=>by cases e) (λh _ n q x i e=>?_) h;cases i with|zero=>cases e;exact#[_,_,rfl,h,λb hb=>(q b).mpr (.inl hb)]|succ i=>let#[v,S1,u,z,y]:=x (i:=i) e;exact#[v,S1,u,z,λb hb=>(q b).mpr (.inr (y b hb))]
theorem Trs.at(r:Trs K F H st vs ts S)(h:BD ts i=kx t):∃v S1,BD vs i=kx v/\Tr K F H st v t S1/\∀b,S1 b->S b:=by
 unfold BD at h ⊢;rw[r.9];cases e:kU ts.9 i with|none=>rw[e]at h;cases h|some j=>rw[e]at h;exact r.get h
theorem Trs.append{ws:LV}{us:LT}{S1 x:eB}(h:Trs K F H st vs ts S1)(r:Trs K F H st ws us x)(k:∀b,S1 b->¬ x b):Trs K F H st (vs++ws) (ts++us) (λb=>S1 b∨x b) :=
 Trs.ind (R:=λst vs ts S1=>Trs K F H st ws us x->(∀b,S1 b->¬ x b)->Trs K F H st (vs++ws) (ts++us) λb=>S1 b∨x b)
  (λ{_ S} n r _=>by have e:(λb=>S b∨x b)=x:=funext λb=>t3 #[λz=>z.resolve_left (n b),.inr];rw[e];exact r)
  (λh _ n q y r k=>.cons h (y r λb hb=>k b ((q b).mpr (.inr hb))) (λb hb z=>z.elim (n b hb) (k b ((q b).mpr (.inl hb)))) λb=>by rw[q b,or_assoc]) h r k
theorem Trs.one(h:Tr K F H st v t S):Trs K F H st [v] [t] S:=.cons h (.nil (S:=λ_=>False) λ_ z=>z) (λ_ _ z=>z) λb=>by simp
theorem FH(e:(T.d (.dict kvs)).vw=.ls ts):False:=by
 have e:LB kvs=.ls ts:=e;unfold LB at e;cases h:NC kvs with|none=>rw[h]at e;cases e|some b=>rw[h]at e;cases e
theorem RL(e:(T.d (.dict kvs)).vw=.tp ts):False:=by
 have e:LB kvs=.tp ts:=e;unfold LB at e;cases h:NC kvs with|none=>rw[h]at e;cases e|some b=>rw[h]at e;cases e
theorem Tr.ls(f:Same F H)(h:Tr K F H st v t S)(e:t.vw=.ls ts):∃a vs S',v=.ref a/\RC K H a vs/\Trs K F H kd vs ts S'/\∀b,S' b->S b:=by
 cases h with
 |d r n =>
  cases r with|lst q r=>injection e with e;subst e;exact#[_,_,_,rfl,f.seq q,Trs.of_reps r,λb hb=>hb.elim]|dct _ _ _=>exact(FH e).elim|_=>cases e
 |lst h _ r n q=>injection e with e;subst e;exact#[_,_,_,rfl,RC.of h,r.weak,λb hb=>(q b).mpr (.inr hb)]|tup=>cases e|dct=>cases e|lstF h r n=>injection e with e;subst e;exact#[_,_,_,rfl,f.seq h,Trs.of_reps r,λb hb=>hb.elim]
theorem Tr.tp(f:Same F H)(h:Tr K F H st v t S)(e:t.vw=.tp ts):∃a vs S',v=.ref a/\jE K H a vs/\Trs K F H kd vs ts S'/\∀b,S' b->S b:=by
 cases h with
 |d r n =>
  cases r with|tup q r=>injection e with e;subst e;exact#[_,_,_,rfl,f.tupl q,Trs.of_reps r,λb hb=>hb.elim]|dct _ _ _=>exact(RL e).elim|_=>cases e
 |tup h _ r n q=>injection e with e;subst e;exact#[_,_,_,rfl,jE.of h,r.weak,λb hb=>(q b).mpr (.inr hb)]|lst=>cases e|lstF=>cases e|dct=>cases e
theorem AY{u:Bool}{o:HO}(h:mI K H u o ks vs)(e:NC (ks.zip ds)=kx b):u=b:=by
 cases ks with
 |nil=>cases e|cons k ks =>
  cases ds with
  |nil=>cases e|cons d ds =>
   cases u with
   |true =>
    let#[m,kvs,_,y,_,g,_]:=h;cases kvs with
    |nil=>cases y|cons p r =>
     have a:=(g p QF).1;let#[f,n,j]:=p;cases f with|s x=>cases a|t l=>rw[QT]at y;injection y with y _;subst y;injection e
   |false =>
    rcases h with⟨kvs,_,_,y,_⟩| ⟨_,_,y,_⟩
    rotate_left
    cases y;cases kvs with
    |nil=>cases y|cons p r =>
     rw[QT]at y;injection y with y _;subst y;let#[k,v]:=p;cases k with|inl i=>cases e|inr z=>injection e
theorem Tr.dc(f:Same F H)(h:Tr K F H st v t S)(e:t.vw=.dc b ks ts):∃a o vs S',v=.ref a/\H a=kx o/\mI K F b o ks vs/\Trs K F H kd vs ts S'/\(∀b,S' b->S b)/\∀w c,Same F w->Same w c->(∀b,S b->c b=H b)->c a=kx o:=by
 cases h with
 |d r n =>
  cases r with
  |@dct p a o y l ds h q r =>
   have hl:y.9=ds.length:=by rw[q.len,Reps.length r]
   have g:(y.zip ds).map (λx=>x.1)=y:=WB (wW hl);have u:(y.zip ds).map (λx=>x.2)=ds:=WC (wW hl.symm);have e:LB (y.zip ds)=.dc b ks ts:=e;unfold LB at e;cases z:NC (y.zip ds) with
   |none=>rw[z]at e;cases e|some m =>
    rw[z]at e;injection e with z1 z2 z3;subst z1;rw[g]at z2;subst z2;have e3:ts=ds.map T.d:=by have j:=aj (List.map T.d) u;rw[QU]at j;rw[<- z3,<- j];rfl
    subst e3;cases AY q z;exact#[_,_,_,_,rfl,f _ _ h,q,Trs.of_reps r,λb hb=>hb.elim,λw c g u _=>u _ _ (g _ _ h)]
  |_=>cases e
 |dct h q _ r n s=>injection e with z1 z2 z3;subst z1 z2 z3;exact#[_,_,_,_,rfl,h,q,r.weak,λb hb=>(s b).mpr (.inr hb),λw c _ _ k=>(k _ ((s _).mpr (.inl rfl))).trans h]|lst=>cases e|tup=>cases e|lstF=>cases e
theorem Tr.sc{x:D}(h:Tr K F H st v t S)(e:t.vw=.sc x):t=.d x/\Rep K F v x:=by
 cases h with
 |@d _ _ y _ r n =>
  cases y with
  |list ds=>cases e|tuple ds=>cases e|dict ds =>
   have e:LB ds=.sc x:=e;unfold LB at e;cases z:NC ds with|none=>rw[z]at e;injection e with e;subst e;exact#[rfl,r]|some b=>rw[z]at e;cases e
  |_=>injection e with e;subst e;exact#[rfl,r]
 |tup=>cases e|lst=>cases e|lstF=>cases e|dct=>cases e
theorem Tr.int(h:Tr K F H st v t S)(e:t.vw=.sc (.int i)):v=.int i:=by let#[_,r]:=h.sc e;cases r;rfl
theorem Tr.str{i:Str}(h:Tr K F H st v t S)(e:t.vw=.sc (.str i)):v=.str i:=by let#[_,r]:=h.sc e;cases r;rfl
theorem Tr.bool{i:Bool}(h:Tr K F H st v t S)(e:t.vw=.sc (.bool i)):v=.bl i:=by let#[_,r]:=h.sc e;cases r;rfl
end
end
def Sl.t:Sl->T
 | .own t=>t|.bor t=>t
def Sl.st:Sl->Bool
 | .own _=>kf|.bor _=>kd
noncomputable abbrev Ft:=Nat->ko->Prop
structure Rl(K:QA)(F H:Hp)(S:Ft)(ρ:kA)(σ:St):Prop where
 fh:Same F H
 len:ρ.9=σ.9
 sl:∀(i:Nat) s,ρ[i]?=kx (kx s)->∃v,σ[i]?=kx (kx v)/\Tr K F H s.st v s.t (S i)
 dj:∀(i j:Nat) t s,i≠j->ρ[i]?=kx (kx (.own t))->ρ[j]?=kx (kx s)->∀b,S i b->¬ S j b
def U(ρ:kA)(S:Ft)(b:ko):Prop:=∃(i:Nat) (t:T),ρ[i]?=kx (kx (.own t))/\S i b
structure Stp(F H:Hp)(S:Ft)(ρ:kA)(F' H':Hp)(S':Ft)(ρ':kA):Prop where
 ff:Same F F'
 hh:∀b u,H b=kx u->¬ U ρ S b->H' b=kx u
 dm:∀b,H' b=kv->H b=kv
 fn:∀b,F b=kv->F' b≠kv->U ρ S b∨H b=kv
 uu:∀b,U ρ' S' b->U ρ S b∨H b=kv
 bo:∀(j:Nat) t,ρ'[j]?=kx (kx (.bor t))->t.isD=kd->ρ[j]?=kx (kx (.bor t))/\S' j=S j
structure Ste(F H:Hp)(S:Ft)(ρ:kA)(F' H':Hp)(S':Ft)(ρ':kA):Prop extends Stp F H S ρ F' H' S' ρ' where
 ow:∀(j:Nat) t,ρ'[j]?=kx (kx (.own t))->∃t0,ρ[j]?=kx (kx (.own t0))
section
variable{K:QA}{F H X m B E:Hp}{S S1 C:Ft}{ρ l A:kA}{σ:St}
section
variable{v:V}{t:T}{Z W:eB}{i:Nat}{s:Sl}{b p:ko}{vs:LN}{g:Hp}{c:Ft}{y:kA}{n:Bool}
theorem Stp.refl:Stp F H S ρ F H S ρ:=#[.refl _,λ_ _ h _=>h,λ_ h=>h,λb h z=>ti h z,λ_ h=>.inl h,λ_ _ h _=>#[h,rfl]]
theorem Ste.refl:Ste F H S ρ F H S ρ:=#[Stp.refl,λ_ t h=>#[t,h]]
theorem Stp.trans(a:Stp F H S ρ X m S1 l)(b:Stp X m S1 l B E C A):Stp F H S ρ B E C A where
 ff:=a.ff.trans b.ff
 hh:=λx u h n=>b.hh x u (a.hh x u h n) λz=>by rcases a.uu x z with q|q;exact n q;rw[q]at h;cases h
 dm:=λx h=>a.dm x (b.dm x h)
 fn:=λx h z=>by
  by_cases q:X x=kv;rcases b.fn x q z with w|w
  ·exact a.uu x w
  exact .inr (a.dm x w);exact a.fn x h q
 uu:=λx h=>by rcases b.uu x h with w|w;exact a.uu x w;exact .inr (a.dm x w)
 bo:=λj t h n=>by let#[o,f]:=b.bo j t h n;let#[e,k]:=a.bo j t o n;exact#[e,f.trans k]
theorem Ste.trans(a:Ste F H S ρ X m S1 l)(b:Ste X m S1 l B E C A):Ste F H S ρ B E C A:=#[a.toStp.trans b.toStp,λj t h=>by let#[x,z]:=b.ow j t h;exact a.ow j x z]
theorem Stp.keep(s:Stp F H S ρ X m S1 l){st:Bool}(h:Tr K F H st v t Z)(n:∀b,Z b->¬ U ρ S b):Tr K X m st v t Z :=
 h.mono s.ff λb hb=>by
  let#[x,w]:=h.dom b hb;refine#[?_,?_];cases e:H b with|none=>exact ti e x|some u=>exact s.hh b u e (n b hb)
  by_cases q:X b=kv
  ·exact q
  rcases s.fn b w q with z|z
  ·exact ti z (n b hb)
  exact ti z x
theorem Rl.dom(I:Rl K F H S ρ σ)(h:ρ[i]?=kx (kx s))(hb:S i b):H b≠kv/\F b=none:=by let#[v,_,r]:=I.sl i s h;exact r.dom b hb
theorem Rl.isD(I:Rl K F H S ρ σ)(h:ρ[i]?=kx (kx s))(x:s.t.isD=kf):¬ S i b:=by
 let#[v,_,r]:=I.sl i s h;generalize s.t=t at r x;generalize s.st=st at r;cases r with|d r n=>exact n b|_=>cases x
structure Held(F H:Hp)(S:Ft)(ρ:kA)(Z:eB):Prop where
 dom:∀b,Z b->H b≠kv/\F b=kv
 nw:∀(i:Nat) s,ρ[i]?=kx (kx s)->∀b,Z b->¬ S i b
theorem Held.nu(h:Held F H S ρ Z):∀b,Z b->¬ U ρ S b:=λb hb #[i,t,z,x]=>h.nw i _ z b hb x
theorem Held.step(h:Held F H S ρ Z)(s:Stp F H S ρ X m S1 l)(j:Rl K X m S1 l σ):Held X m S1 l Z where
 dom:=λb hb=>by
  let#[u,k]:=h.dom b hb;refine#[λz=>u (s.dm b z),?_];by_cases q:X b=kv;exact q;rcases s.fn b k q with z|z
  ·exact ti z (h.nu b hb)
  exact ti z u
 nw:=λi w e b hb z=>by
  cases w with
  |own t=>rcases s.uu b ⟨i,t,e,z⟩ with q|q;exact h.nu b hb q;exact(h.dom b hb).1 q
  |bor t =>
   cases x:t.isD with|true=>exact j.isD e x z|false=>let#[f,a]:=s.bo i t e x;rw[a]at z;exact h.nw i _ f b hb z
theorem Held.none:Held F H S ρ λ_=>False:=#[λ_ z=>z.elim,λ_ _ _ _ z=>z.elim]
theorem Held.or{Y:eB}(a:Held F H S ρ Z)(b:Held F H S ρ Y):Held F H S ρ λx=>Z x∨Y x:=#[λx h=>h.elim (a.dom x) (b.dom x),λi s e x h=>h.elim (a.nw i s e x) (b.nw i s e x)]
noncomputable def xJ(F H:Hp)(W:eB):Hp:=open Classical in λb=>if W b then H b else F b
theorem vJ(h:W b):xJ F H W b=H b:=tt h
theorem sC(h:¬ W b):xJ F H W b=F b:=th h
theorem vH(h:∀b,W b->F b=kv):Same F (xJ F H W):=λb u e=>by rw[sC λz=>by rw[h b z]at e;cases e];exact e
theorem Zd(f:Same F H):Same (xJ F H W) H:=λb u e=>by by_cases hb:W b;rw[vJ hb]at e;exact e;rw[sC hb]at e;exact f b u e
theorem Rl.frz(I:Rl K F H S ρ σ)(h:Held F H S ρ W):Rl K (xJ F H W) H S ρ σ where
 fh:=Zd I.fh
 len:=I.len
 sl:=λi s e=>by let#[v,u,x]:=I.sl i s e;refine#[v,u,x.mono (vH λb hb=>(h.dom b hb).2) λb hb=>#[rfl,?_]];rw[sC λz=>h.nw i s e b z hb];exact(x.dom b hb).2
 dj:=I.dj
theorem Stp.frz(s:Stp F H S ρ X m S1 l)(x:∀b,W b->X b=kv)(fr:∀b,W b->H b=kv∨U ρ S b):Stp F H S ρ (xJ X m W) m S1 l :=
 #[s.ff.trans (vH x),s.hh,s.dm,λb h z=>by by_cases q:W b;exact(fr b q).symm;rw[sC q]at z;exact s.fn b h z,s.uu,s.bo]
theorem Ste.frz(s:Ste F H S ρ X m S1 l)(h:∀b,W b->X b=kv)(fr:∀b,W b->H b=kv∨U ρ S b):Ste F H S ρ (xJ X m W) m S1 l:=#[s.toStp.frz h fr,s.ow]
theorem Stp.new(s:Stp F H S ρ X m S1 l){p:ko}(h:m p=kv)(o:HO):Stp F H S ρ X (CA m p o) S1 l :=
 #[s.ff,λb u e n=>DB h b u (s.hh b u e n),λb e=>by by_cases hb:b=p;rw[hb,iA]at e;cases e;rw[uA hb]at e;exact s.dm b e,s.fn,s.uu,s.bo]
theorem Ste.new(s:Ste F H S ρ X m S1 l){p:ko}(h:m p=kv)(o:HO):Ste F H S ρ X (CA m p o) S1 l:=#[s.toStp.new h o,s.ow]
theorem Rl.same(I:Rl K F H S ρ σ)(h:Same H m):Rl K F m S ρ σ where
 fh:=I.fh.trans h
 len:=I.len
 sl:=λi s e=>by
  let#[v,z,x]:=I.sl i s e;refine#[v,z,x.mono (.refl _) λb hb=>#[?_,(x.dom b hb).2]];cases e:H b with|none=>exact ti e (x.dom b hb).1|some u=>exact h b u e
 dj:=I.dj
theorem Rl.new(I:Rl K F H S ρ σ){p:ko}(h:H p=kv)(o:HO):Rl K F (CA H p o) S ρ σ:=I.same (DB h)
theorem Stp.newT(s:Stp F H S ρ X m S1 l)(h:m p=kv)(u:X p=kv)(o:HO):Stp F H S ρ (CA X p o) (CA m p o) S1 l :=
 let x:=s.new h o
 #[s.ff.trans (DB u),x.hh,x.dm,λb e z=>by by_cases hb:b=p;rw[hb];exact .inr (s.dm p h);rw[uA hb]at z;exact s.fn b e z,s.uu,s.bo]
theorem Ste.newT(s:Ste F H S ρ X m S1 l)(h:m p=kv)(x:X p=kv)(o:HO):Ste F H S ρ (CA X p o) (CA m p o) S1 l:=#[s.toStp.newT h x o,s.ow]
theorem Rl.newT(I:Rl K F H S ρ σ)(h:H p=kv)(o:HO):Rl K (CA F p o) (CA H p o) S ρ σ where
 fh:=λb u e=>by by_cases hb:b=p;rw[hb,iA]at e ⊢;exact e;rw[uA hb]at e ⊢;exact I.fh b u e
 len:=I.len
 sl:=λi s e=>by let#[v,k,x]:=I.sl i s e;refine#[v,k,x.mono (DB (I.fh.free h)) λb hb=>?_];have w:b≠p:=λz=>(x.dom b hb).1 (by rw[z];exact h);rw[uA w,uA w];exact#[rfl,(x.dom b hb).2]
 dj:=I.dj
theorem O1(ρ:kA)(i:Nat):(lockA ρ)[i]?=ρ[i]?.map dG:=by unfold lockA;rw[QX]
theorem JB{ρ:kA}(h:(lockA ρ)[i]?=kx (kx s)):∃x,ρ[i]?=kx (kx x)/\s=.bor x.t:=by
 rw[O1]at h;cases e:ρ[i]? with
 |none=>rw[e]at h;cases h|some o =>
  rw[e]at h;cases o with
  |none=>cases h|some x =>
   cases x with|own t=>injection h with h;injection h with h;subst h;exact#[_,rfl,rfl]|bor t=>injection h with h;injection h with h;subst h;exact#[_,rfl,rfl]
theorem xD(b:ko):¬ U (lockA ρ) S b:=λ#[i,t,h,_]=>by let#[x,_,e]:=JB h;cases e
theorem Rl.lockA(I:Rl K F H S ρ σ):Rl K F H S (lockA ρ) σ where
 fh:=I.fh
 len:=by unfold L3.lockA;rw[QC];exact I.len
 sl:=λi s e=>by let#[x,h,rfl]:=JB e;let#[v,u,z]:=I.sl i x h;exact#[v,u,z.weak]
 dj:=λi j t s _ h=>by let#[x,_,e]:=JB h;cases e
theorem Stp.unlockA(s:Stp F H S (L3.lockA ρ) X m S1 l):Stp F H S ρ X m S ρ :=
 #[s.ff,λb u e _=>s.hh b u e (xD b),s.dm,λb h z=>(s.fn b h z).elim (λq=>ti q (xD b)) .inr,λ_ h=>.inl h,λ_ _ h _=>#[h,rfl]]
theorem Rl.unlockA(I:Rl K F H S ρ σ)(s:Stp F H S (L3.lockA ρ) X m S1 l)(f:Same X m):Rl K X m S ρ σ where
 fh:=f
 len:=I.len
 sl:=λi sl e=>by let#[v,x,h]:=I.sl i sl e;exact#[v,x,s.keep h λb _=>xD b]
 dj:=I.dj
structure VR(K:QA)(vs:LN)(g:Hp)(c:Ft)(y:kA)(F H:Hp)(S:Ft)(ρ:kA)(v:V)(t:T)(n:Bool)(Z:eB):Prop where
 tr:Tr K F H n v t Z
 fr:n=kf->∀b,Z b->g b=kv∨U y c b
 tm:n=kd->∀b,Z b->∃(i:Nat) (s:Sl),i∈vs/\ρ[i]?=kx (kx s)/\S i b
 nw:n=kf->∀(i:Nat) s,ρ[i]?=kx (kx s)->∀b,Z b->¬ S i b
theorem VR.d{vs:LN}{g:Hp}{c:Ft}{y:kA}{v:V}{x:D}(n:Bool)(r:Rep K F v x):VR K vs g c y F H S ρ v (.d x) n (λ_=>False) :=
 #[.d r λ_ z=>z,λ_ _ z=>z.elim,λ_ _ z=>z.elim,λ_ _ _ _ _ z=>z.elim]
theorem VR.held(h:VR K vs g c y F H S ρ v t kf Z):Held F H S ρ Z:=#[λb hb=>h.tr.dom b hb,h.nw rfl]
theorem VR.vars{ws:LN}(h:VR K vs g c y F H S ρ v t n Z)(k:∀i∈vs,i∈ws):VR K ws g c y F H S ρ v t n Z :=
 #[h.tr,h.fr,λe b hb=>let#[i,s,z,x]:=h.tm e b hb;#[i,s,k i z,x],h.nw]
theorem VR.from(s:Stp F H S ρ X m S1 l)(h:VR K vs m S1 l B E C A v t n Z):VR K vs H S ρ B E C A v t n Z :=
 #[h.tr,λe b hb=>by rcases h.fr e b hb with q|q;exact .inl (s.dm b q);exact(s.uu b q).symm,h.tm,h.nw]
theorem VR.frz(s:Ste F H S ρ X m S1 l)(I:Rl K X m S1 l σ)(h:VR K vs H S ρ X m S1 l v t n Z) :
  ∃B o,Ste F H S ρ B m S1 l/\Rl K B m S1 l σ/\Tr K B m kd v (nA t n) o/\(OF t n=kf->Rep K B v t.er)/\(∀b,o b->∃(i:Nat) (s:Sl),i∈vs/\l[i]?=kx (kx s)/\S1 i b) /\
   ∀st a t' k,Tr K X m st a t' k->(∀b,k b->∃(i:Nat) (s:Sl),l[i]?=kx (kx s)/\S1 i b)->Tr K B m st a t' k:=by
 cases n with
 |true =>
  have w:=h.held;have j:=vH (H:=m) λb hb=>(w.dom b hb).2;have f:=h.tr.kept j λb u hb e=>by rw[vJ hb];exact e
  refine#[xJ X m Z,λ_=>False,s.frz (λb hb=>(w.dom b hb).2) (h.fr rfl),I.frz w,.d f λ_ z=>z,λ_=>f,λb z=>z.elim,λst a t' k r G=>r.mono j λb hb=>#[rfl,?_]];let#[i,Y,L,J]:=G b hb;rw[sC λz=>w.nw i Y L b z J];exact(r.dom b hb).2
 |false =>
  refine#[X,Z,s,I,h.tr,?_,h.tm rfl,λ_ _ _ _ r _=>r];intro e;have q:=h.tr;cases t with
  |d x=>cases q with|d r n=>exact r
  |_=>cases e
end
end
noncomputable abbrev zB(K:QA)(vs:LN)(F H:Hp)(S:Ft)(ρ:kA)(σ:St)(Q:TK)(R:VK):Prop :=
 ∀v z x y h t n Z,Ste F H S ρ z x y h->Rl K z x y h σ->VR K vs H S ρ z x y h v t n Z->Q t n h->R v x
noncomputable abbrev KJ(K:QA)(F H:Hp)(S:Ft)(ρ:kA)(σ:St)(Q:Bool->kA->Prop)(R:Bool->Hp->Prop):Prop :=
 ∀b z x y h,Ste F H S ρ z x y h->Rl K z x y h σ->Q b h->R b x
section
variable{K:QA}{ws:LN}{F H B A:Hp}{S S1:Ft}{ρ Y:kA}{σ:St}{v w:V}{a b:T}{J G:eB}{Q:TK}{R:VK}{E C:Bool}
section
variable{X o:Hp}{m:Ft}{u:kA}{p:ko}{vs:LV}{ds:List D}
theorem zB.from(k:zB K ws F H S ρ σ Q R)(s:Ste F H S ρ X o m u):zB K ws X o m u σ Q R:=λv f e y h t n Z x z r q=>k v f e y h t n Z (s.trans x) z (r.from s.toStp) q
theorem KJ.from{Q:Bool->kA->Prop}{R:Bool->Hp->Prop}(k:KJ K F H S ρ σ Q R)(s:Ste F H S ρ X o m u):KJ K X o m u σ Q R:=λb f e y h x z q=>k b f e y h (s.trans x) z q
theorem zB.vars{us:LN}(k:zB K ws F H S ρ σ Q R)(h:∀i∈us,i∈ws):zB K us F H S ρ σ Q R:=λv e z y x t n Z s I r q=>k v e z y x t n Z s I (r.vars h) q
theorem zB.d(k:zB K ws F H S ρ σ Q R)(s:Ste F H S ρ B A S1 Y)(I:Rl K B A S1 Y σ){x:D}{n:Bool}(r:Rep K B v x)(q:Q (.d x) n Y):R v A:=k v B A S1 Y _ n _ s I (VR.d n r) q
theorem zB.list(k:zB K ws F H S ρ σ Q R)(s:Ste F H S ρ B A S1 Y)(I:Rl K B A S1 Y σ)(x:A p=kv){ts:LT}{W:eB}(r:Trs K B A kf vs ts W)
  (fr:∀b,W b->H b=kv∨U ρ S b) (y:Held B A S1 Y W) (q:Q (.lst ts) kf Y):R (.ref p) (CA A p (.lst vs)):=by
 have g:∀b,A b≠kv->b≠p:=λb h z=>h (by rw[z];exact x);refine k _ B _ S1 Y _ kf (λb=>b=p∨W b) (s.new x _) (I.new x _) #[.lst iA (I.fh.free x) (r.mono (.refl _) λb hb=>#[?_,(y.dom b hb).2]) (λz=>(y.dom p z).1 x) (λb=>wy),λ_ b hb=>?_,λz=>(by cases z),λ_ i f e b hb z=>?_] q;rw[uA (g b (y.dom b hb).1)];rcases hb with rfl|hb
 ·exact .inl (s.dm _ x)
 exact fr b hb;rcases hb with rfl|hb
 ·exact(I.dom e z).1 x
 exact y.nw i f e b hb z
theorem zB.listD(k:zB K ws F H S ρ σ Q R)(s:Ste F H S ρ B A S1 Y)(I:Rl K B A S1 Y σ)(h:A p=kv)(r:Reps K B vs ds)(q:Q (.lst (ds.map T.d)) kf Y):R (.ref p) (CA A p (.lst vs)) :=
 k.list s I h (Trs.of_reps r) (λb z=>z.elim) .none q
theorem zB.tupD(k:zB K ws F H S ρ σ Q R)(s:Ste F H S ρ B A S1 Y)(I:Rl K B A S1 Y σ)(h:A p=kv){n:Bool}(r:Reps K B vs ds)(q:Q (.d (.tuple ds)) n Y):R (.ref p) (CA A p (.tup vs)) :=
 zB.d k (s.newT h (I.fh.free h) _) (I.newT h _) (.tup (jE.of iA) (r.mono (DB (I.fh.free h)))) q
theorem zB.tup(k:zB K ws F H S ρ σ Q R)(s:Ste F H S ρ B A S1 Y)(I:Rl K B A S1 Y σ){p:ko}(x:A p=kv){vs:LV}{ts:LT}{W:eB}(r:Trs K B A kf vs ts W)
  (fr:∀b,W b->H b=kv∨U ρ S b) (y:Held B A S1 Y W) (q:Q (zD ts) kf Y):R (.ref p) (CA A p (.tup vs)):=by
 unfold zD at q;cases e:XF ts with
 |some ds=>rw[e]at q;exact k.tupD s I x (r.un e).1 q|none =>
  rw[e]at q;have g:∀b,A b≠kv->b≠p:=λb h z=>h (by rw[z];exact x);refine k _ B _ S1 Y _ kf (λb=>b=p∨W b) (s.new x _) (I.new x _) #[.tup iA (I.fh.free x) (r.mono (.refl _) λb hb=>#[?_,(y.dom b hb).2]) (λz=>(y.dom p z).1 x) (λb=>wy),λ_ b hb=>?_,λz=>(by cases z),λ_ i f e b hb z=>?_] q;rw[uA (g b (y.dom b hb).1)];rcases hb with rfl|hb
  ·exact .inl (s.dm _ x)
  exact fr b hb;rcases hb with rfl|hb
  ·exact(I.dom e z).1 x
  exact y.nw i f e b hb z
theorem jm{op:Hz}(s:Ste F H S ρ B A S1 Y)(I:Rl K B A S1 Y σ)(W:Tr K B A E v a J)(Z:Tr K B A C w b G)(h:binT op a.vw b.vw λz n=>Q z n Y)(k:zB K ws F H S ρ σ Q R):ue K op v w A R:=by
 have L:∀{i j:Int},a.vw=.sc (.int i)->b.vw=.sc (.int j)->v=.int i/\w=.int j:=λf e=>#[W.int f,Z.int e]
 cases op with
 |Add =>
  rcases h with⟨i,j,f,e,h⟩| ⟨x,y,f,e,h⟩| ⟨O,M,ds,es,f,e,e1,e2,hl,q⟩| ⟨O,M,ds,es,f,e,e1,e2,hn,hn2,hl,q⟩
  let#[rfl,rfl]:=L f e;exact k.d s I (.int _) h;obtain rfl:=W.str f;obtain rfl:=Z.str e;exact#[h.1,k.d s I (.str _) h.2];let#[p,P,_,rfl,hp,rp,_]:=W.ls I.fh f;let#[p2,N,_,rfl,hq,rq,_]:=Z.ls I.fh e;have r:=(rp.un e1).1;have g:=(rq.un e2).1;exact .inl #[P,N,hp,hq,by rw[r.9,g.9];exact hl,λl hl=>k.listD s I hl (r.append g) q];let#[p,P,_,rfl,hp,rp,_]:=W.tp I.fh f;let#[p2,N,_,rfl,hq,rq,_]:=Z.tp I.fh e;have r:=(rp.un e1).1;have g:=(rq.un e2).1;refine .inr #[p,p2,P,N,rfl,rfl,hp,hq,?_,by rw[r.9,g.9];exact hl,λz=>?_,λ_ l hl=>?_];intro z;subst z;cases r;exact hn rfl;subst z;cases g;exact ti rfl hn2;exact k.tupD s I hl (r.append g) q
 |Sub=>let#[i,j,f,e,h]:=h;let#[rfl,rfl]:=L f e;exact k.d s I (.int _) h|Mult =>
  rcases h with⟨i,j,f,e,h⟩| ⟨x,y,f,e,h⟩
  let#[rfl,rfl]:=L f e;exact#[h.1,k.d s I (.int _) h.2];obtain rfl:=W.str f;obtain rfl:=Z.int e;exact#[h.1,k.d s I (.str _) h.2]
 |FloorDiv=>let#[i,j,f,e,h]:=h;let#[rfl,rfl]:=L f e;exact#[h.1,k.d s I (.int _) h.2]|Mod=>let#[i,j,f,e,h]:=h;let#[rfl,rfl]:=L f e;exact#[h.1,k.d s I (.int _) h.2]|_=>exact h.elim
theorem zg{x y:D}{r:Bool->Prop}(neg:Bool)(e:Rep K A v x)(z:Rep K A w y)(h:Bt x y λk=>r (if neg then !k else k))(k:∀c,r c->R (.bl c) A):rEq K neg v w A R:=by
 have n:FF x/\FF y/\r (if neg then !PyData.eqv x y else Qt x y)->(∃l f,Rep K A v l/\Rep K A w f/\FF l/\FF f/\R (.bl (if neg then !PyData.eqv l f else Qt l f)) A):=λ#[Z,s,q] =>
  #[x,y,e,z,Z,s,k _ q]
 unfold Bt at h;split at h;cases e;cases z;exact k _ h;cases e;cases z;exact k _ h;cases e;cases z;exact k _ h;have g:=n h;rename_i n1 n2 n3;cases e with
 |int i =>
  cases z with|int j=>exact ti rfl (n1 i j rfl)|_=>exact g
 |str i =>
  cases z with|str j=>exact ti rfl (n2 i j rfl)|_=>exact g
 |bl i =>
  cases z with|bl j=>exact ti rfl (n3 i j rfl)|_=>exact g
 |_=>exact g
theorem U8{F:Hp}{v w:V}{a b:D}(x:Rep K F v a)(h:Rep K F w b)(z:SA a=kf)(y:SA b=kf):Cd v w=Qt a b:=by cases x<;>cases h<;>first|exact ti (show kd=kf from z) QD|exact ti (show kd=kf from y) QD | (simp only[Qt];rfl) | (simp only[Qt])
theorem xX{F:Hp}{v:V}{a:D}(h:Rep K F v a)(x:SA a=kf):nG v=true:=by cases h<;>first|rfl|exact ti (show kd=kf from x) QD
theorem sU{F:Hp}(h:Reps K F vs ds)(f:ds.all SA=kf):vs.all nG=kf :=
 Reps.ind (R:=λvs ds=>ds.all SA=kf->vs.all nG=kf) (λ_=>rfl) (λh x f=>by rw[qa,Qg]at f ⊢;exact#[xX h f.1,x f.2]) h f
theorem gN{F:Hp}{v:V}{a:D}(x:Rep K F v a)(z:SA a=kf):∀{vs:LV}{ds:List D},Reps K F vs ds->ds.all SA=kf->inV v vs=ds.any λy=>Qt y a
 |_,_,.nil,_=>rfl|_,_,.cons h t,f=>by rw[qa,Qg]at f;have e:=gN x z t f.2;unfold inV at e ⊢;rw[wu,wu,U8 h x f.1 z,e]
end
mutual
theorem oY{F:Hp}:∀{k:NK}{v:V},Rep K F v (tD k)->Cm K F k v
 | .s x,v,h=>by have h:Rep K F v (.str x):=h;cases h;rfl|.t ks,v,h=>by
  have h:Rep K F v (.tuple (tDs ks)):=h;cases h with|tup z y=>exact#[_,_,rfl,z,reps_key y]
theorem reps_key{F:Hp}:∀{ks:List NK}{vs:LV},Reps K F vs (tDs ks)->KyVs K F ks vs
 |[],vs,h=>by have h:Reps K F vs []:=h;cases h;rfl|k::ks,vs,h=>by
  have h:Reps K F vs (tD k::tDs ks):=h;cases h with|cons h t=>exact#[_,_,rfl,oY h,reps_key t]
end
section
variable{k x y:D}{o:HO}{ks ds:List D}{vs xs:LV}{X:Bool->Prop}{U:fv}{W:Bool->Hp->Prop}{Y:eB}{ts:LT}
theorem oR{F:Hp}{v:V}(hk:AC kf k)(r:Rep K F v k):∃q p,k=tD q/\v=.ref p/\UO K F p q:=by let#[q,rfl,h]:=hk;have r:=oY r;let#[p,_,rfl,_]:=id r;exact#[_,p,rfl,rfl,r,h]
theorem FG(q:NK):∀(kvs:List KE),dH kvs q=(cA (kvs.map λp=>tD p.1) (tD q)).bind λn=>(kvs.map (·.2.2))[n]?
 |[]=>rfl|p::r=>by rw[QT,QT];unfold cA;by_cases e:p.1=q;rw[VS e,tt (by rw[e])];rfl;rw[XS e,th λz=>e (MV z),FG q r];cases cA (r.map λp=>tD p.1) (tD q)<;>rfl
theorem FJ(q:Key):∀(kvs:List (Key×V)),AL kvs q=(cA (kvs.map λp=>kD p.1) (kD q)).bind λn=>(kvs.map (·.2))[n]?
 |[]=>rfl|p::r=>by rw[QT,QT];unfold cA;by_cases e:p.1=q;rw[SL e,tt (by rw[e])];rfl;rw[TL e,th λz=>e (k8 z),FJ q r];cases cA (r.map λp=>kD p.1) (kD q)<;>rfl
theorem mI.get{a:ko}{b:Bool}(u:H1 a=kx o)(q:mI K H1 b o ks vs)(e:Rep K H1 w k)(hk:AC b k):CO K H1 a w ((cA ks k).bind λn=>vs[n]?):=by
 cases b with
 |true=>let#[v,h,rfl,rfl,rfl,g,_]:=q;let#[q,p,rfl,rfl,f]:=oR hk e;exact#[v,h,q,u,g,f,(FG q h).symm]|false =>
  let#[z,rfl]:=hk;cases e;rcases q with⟨h,_,rfl,rfl,rfl,_⟩| ⟨v,rfl,rfl,rfl⟩
  exact .inl #[h,u,(FJ (.inr z) h).symm];exact .inr #[v,u,rfl]
theorem tU{b:Bool}(q:mI K H1 b o ks vs):((cA ks k).bind λn=>vs[n]?).isSome=(cA ks k).isSome:=by
 cases e:cA ks k with
 |none=>rfl|some n =>
  have z:=(Qf.mp (aC e)).1;have h:n<vs.length:=by rw[<- q.len];exact z
  simp[h]
theorem iR{b neg:Bool}{a:ko}(u:H1 a=kx o)(q:mI K H1 b o ks vs)(z:Rep K H1 v x)(hk:AC b x)(h:R (.bl (if neg then !(cA ks x).isSome else(cA ks x).isSome)) H1):kT K neg v (.ref a) H1 R :=
 .inr (.inr #[_,q.get u z hk,by rw[tU q];exact h])
theorem Vl{b e:Bool}(h:mI K H1 b o [] vs):mI K H1 e o [] []:=by
 obtain⟨u,rfl⟩:∃u,o=.dT u []:=by
  cases b with
  |true =>
   let#[u,v,a,w,_]:=h;cases v with|nil=>exact#[u,a]|cons=>cases w
  |false =>
   rcases h with⟨v,f,_,w,_⟩| ⟨u,a,_⟩
   cases v with|nil=>exact ti rfl f|cons=>cases w
   exact#[u,a]
 cases e with
 |true=>exact#[u,[],rfl,rfl,rfl,λ_ z=>(nomatch z),Qx]
 |false=>exact .inr #[u,rfl,rfl,rfl]
theorem Nf(neg:Bool)(z:Rep K H1 v x)(e:Rep K H1 w y)(h:Yt x y λk=>X (if neg then !k else k))(k:∀c,X c->R (.bl c) H1):kT K neg v w H1 R:=by
 unfold Yt at h;split at h;cases z;cases e;exact k _ h;rename_i ds;have u:=e;cases e with
 |lst n f =>
  rcases h.1 with⟨g,fs⟩| ⟨m,l⟩
  refine .inl #[_,_,rfl,.inl n,xX z g,sU f fs,?_];rw[gN z g f fs];exact k _ h.2;exact .inr (.inl #[_,ds,z,.inl u,m,l,k _ h.2])
 rename_i ds;have u:=e;cases e with
 |tup n f =>
  rcases h.1 with⟨g,fs⟩| ⟨m,l⟩
  refine .inl #[_,_,rfl,.inr n,xX z g,sU f fs,?_];rw[gN z g f fs];exact k _ h.2;exact .inr (.inl #[_,ds,z,.inr u,m,l,k _ h.2])
 let#[b,i,hk,q]:=h;cases e with
 |@dct p a o ks vs ds h j r =>
  have hl:ks.9=ds.length:=by rw[j.len,Reps.length r]
  rw[WB (wW hl)]at q;rcases i with i|i;cases AY j i;exact iR h j z hk (k _ q);cases ks with
  |nil=>exact iR h (Vl j) z hk (k _ q)|cons x r =>
   cases ds with|nil=>cases hl|cons y s=>cases i
 exact h.elim
theorem FQ{g:Int->Int->Bool}(u:Rep K H1 v x)(z:Rep K H1 w y)(h:K0 g x y X)(k:∀c,X c->R (.bl c) H1):z0 g v w H1 R:=by unfold K0 at h;split at h;cases u;cases z;exact k _ h;exact h.elim
theorem Rep.non_iff(h:Rep K H1 v x):decide (v=.non)=g8 x:=by cases h<;>rfl
theorem mX(u:Rep K H1 v x)(z:Rep K H1 w y)(h:PR U x y X)(k:∀c,X c->R (.bl c) H1):E8 K U v w H1 R:=by
 cases U with|Eq=>exact zg kd u z h k|NotEq=>exact zg kf u z h k|Lt=>exact FQ u z h k|LtE=>exact FQ u z h k|Gt=>exact FQ u z h k|GtE=>exact FQ u z h k|In=>exact Nf kd u z h k|NotIn=>exact Nf kf u z h k|Is=>have a:K2 x y X:=h;unfold K2 at a;split at a;cases z;have e:=u.non_iff;show R (.bl (decide (v=.non))) H1;rw[e];exact k _ a;cases z;cases u;exact#[_,rfl,k _ a];exact a.elim|IsNot=>have a:K2 x y λk=>X (!k):=h;unfold K2 at a;split at a;cases z;have e:=u.non_iff;show R (.bl (!decide (v=.non))) H1;rw[e];exact k _ a;cases z;cases u;exact#[_,rfl,k _ a];exact a.elim
theorem Ld(f:Same F1 H1)(z:Rep K H1 v x)(u:Tr K F1 H1 sb w b Zb)(h:Nd U x b X)(k:∀c,X c->R (.bl c) H1):E8 K U v w H1 R:=by
 cases b with
 |d y=>exact mX z (u.rep f) h k|lst ts=>exact mX z (u.rep f) h k|tup ts=>exact mX z (u.rep f) h k|dct b ks ts =>
  let#[hk,h]:=h;cases u with
  |dct a e _ _ _ _ =>
   rcases h with⟨rfl,q⟩| ⟨rfl,q⟩
   exact iR (neg:=kd) a (e.mono f) z hk (k _ q);exact iR (neg:=kf) a (e.mono f) z hk (k _ q)
theorem zJ(r:Reps K F xs ds):(!ds.isEmpty)=!xs.isEmpty:=by cases r<;>rfl
theorem kY(z:Rep K H1 v x)(h:sI x X)(k:∀c,X c->W c H1):fH K v H1 W:=by
 unfold sI at h;split at h;cases z;exact k _ h;cases z;exact k _ h;cases z;exact k _ h;cases z;exact#[h.1,k _ h.2];cases z with|lst w u=>rw[zJ u]at h;exact#[_,.inl #[_,w,rfl],k _ h]
 cases z with|tup w u=>rw[zJ u]at h;exact#[_,.inr (.inl #[_,w,rfl]),k _ h]
 exact h.elim
theorem n9(z:Rep K H1 v x)(h:am x X)(k:∀c,X c->W c H1):p9 v H1 W:=by unfold am at h;split at h;cases z;exact k _ h;exact h.elim
theorem Pk(s:Ste F H S ρ F1 H1 S1 ρ1)(I:Rl K F1 H1 S1 ρ1 σ)(n:Tr K F1 H1 sa v a Za)(C:∀b,Za b->∃(i:Nat) (s:Sl),i∈ws/\ρ1[i]?=kx (kx s)/\S1 i b)(m:Tr K F1 H1 sb w b Zb)(h:pO a.vw b.vw λz=>Q z kd ρ1)(k:zB K ws F H S ρ σ Q R):kW K v w H1 R:=by
 rcases h with⟨z,i,c,j,g,f,e,q⟩| ⟨ts,i,d,j,g,f,q⟩| ⟨ts,i,d,j,g,f,q⟩
 obtain rfl:=n.str j;obtain rfl:=m.int g;exact#[f,c,e,k.d s I (.str _) q];let#[p,xs,E,rfl,B,l,A]:=n.ls I.fh j;obtain rfl:=m.int g;let#[x,Z,e,r,u]:=l.at f;exact#[xs,x,.inl B,e,k _ F1 H1 S1 ρ1 _ kd Z s I #[r,λz=>(by cases z),λ_ b hb=>C b (A b (u b hb)),λz=>(by cases z)] q];let#[p,xs,E,rfl,B,l,A]:=n.tp I.fh j;obtain rfl:=m.int g;let#[x,Z,e,r,u]:=l.at f;exact#[xs,x,.inr B,e,k _ F1 H1 S1 ρ1 _ kd Z s I #[r,λz=>(by cases z),λ_ b hb=>C b (A b (u b hb)),λz=>(by cases z)] q]
theorem Bl(s:Ste F H S ρ F1 H1 S1 ρ1)(I:Rl K F1 H1 S1 ρ1 σ)(l:Tr K F1 H1 sa v a Za)(e:∀b,Za b->∃(i:Nat) (s:Sl),i∈ws/\ρ1[i]?=kx (kx s)/\S1 i b)(j:Rep K H1 w y)(h:iU a.vw y λz=>Q z kd ρ1)(k:zB K ws F H S ρ σ Q R):kW K v w H1 R:=by
 let#[b,ks,ts,n,d,G,hk,C,A,q]:=h;let#[p,o,vs,L,rfl,B,J,f,m,_]:=l.dc I.fh G;let#[x,Z,E,r,u]:=f.get A;have g:=(J.mono I.fh).get B j hk;rw[C]at g;have g:CO K H1 p w (vs[n]?):=g;rw[E]at g;have fin:=k _ F1 H1 S1 ρ1 _ kd Z s I #[r,λz=>(by cases z),λ_ b hb=>e b (m b (u b hb)),λz=>(by cases z)] q;cases w with|str z=>exact#[x,g,fin]|ref c=>exact#[x,g,fin]|_=>exact g.elim
theorem Reps.cut(r:Reps K F xs ds)(h z:Option Int):Reps K F (j3 xs h z) (OR ds h z):=by unfold j3 OR;rw[r.9];exact(r.drop _).take _
theorem si{b f:Option Int}(s:Ste F H S ρ F1 H1 S1 ρ1)(I:Rl K F1 H1 S1 ρ1 σ)(w:Tr K F1 H1 sa v a Za)(h:uO a.vw b f λz n=>Q z n ρ1)(k:zB K ws F H S ρ σ Q R):Iu K v b f H1 R:=by
 rcases h with⟨z,u,h⟩| ⟨ts,ds,u,e,q⟩
 obtain rfl:=w.str u;exact#[h.1,k.d s I (.str _) h.2];let#[p,xs,_,rfl,i,g,_]:=w.ls I.fh u;exact#[p,xs,rfl,i,λl hl=>k.listD s I hl ((g.un e).1.cut _ _) q]
theorem Xb{P:Option Int->Prop}{z:Option Int->Hp->Prop}(u:Rep K H1 v x)(h:uG x P)(k:∀o,P o->z o H1):GM v H1 z:=by unfold uG at h;split at h;cases u;exact k _ h;exact h.elim
inductive Tn(K:QA)(F H:Hp)(Y:eB):LV->LT->Prop where
 |nil:Tn K F H Y [] []
 |cons {v:V}{t:T}{vs:LV}{ts:LT}{Z:eB}:Tr K F H kd v t Z->(∀b,Z b->Y b)->Tn K F H Y vs ts->Tn K F H Y (v::vs) (t::ts)
theorem DJ(ts:LT):∀{xs:List (T×Bool)},rO xs=ts->vC xs=ts.map T.vw
 |[],h=>by subst h;rfl|p::r,h=>by subst h;simp only[vC,rO,QT,DJ _ rfl]
theorem Tn.one{x:Vw}(h:Tn K F H Y vs ts)(e:ts.map T.vw=[x]):∃v t Z,vs=[v]/\ts=[t]/\t.vw=x/\Tr K F H kd v t Z/\∀b,Z b->Y b:=by
 cases h with
 |nil=>cases e|cons r z t =>
  simp only[QT,WT]at e;cases t with|nil=>exact#[_,_,_,rfl,rfl,e.1,r,z]|cons _ _ _=>simp at e
theorem Tn.two{x y:Vw}(h:Tn K F H Y vs ts)(e:ts.map T.vw=[x,y]):∃v w t u Z a,vs=[v,w]/\ts=[t,u]/\t.vw=x/\u.vw=y/\Tr K F H kd v t Z/\Tr K F H kd w u a/\(∀b,Z b->Y b)/\(∀b,a b->Y b):=by
 cases h with|nil=>cases e|cons r z t=>simp only[QT,WT]at e;let#[v,u,a,rfl,rfl,i,g,f]:=t.one e.2;exact#[_,_,_,_,_,_,rfl,rfl,e.1,i,r,g,z,f]
theorem SG:∀{xs:LV}{ys:LS},Reps K F xs (ys.map jk)->xs=ys.map V.str
 |_,[],.nil=>rfl|_,y::ys,.cons h t=>by cases h;rw[QT,SG t]
theorem GJ:∀(ys:LS),Reps K F (ys.map V.str) (ys.map jk)
 |[]=>.nil|y::ys=>.cons (.str y) (GJ ys)
theorem cU:∀{xs:LV}{ys:LJ},Reps K F xs (ys.map j0)->xs=ys.map V.int
 |_,[],.nil=>rfl|_,y::ys,.cons h t=>by cases h;rw[QT,cU t]
theorem sP:∀(ys:LJ),Reps K F (ys.map V.int) (ys.map j0)
 |[]=>.nil|y::ys=>.cons (.int y) (sP ys)
theorem IZ{α:Type}{g:α->D}{ys:LV}(q:xs.Perm ys):∀{l:List α},Reps K F xs (l.map g)->∃z:List α,z.Perm l/\Reps K F ys (z.map g):=by
 induction q with
 |nil=>intro l r;exact#[l,QBJ _,r]|cons x _ j =>
  intro l r;cases l with
  |nil=>cases r|cons a l=>cases r with|cons h t=>let#[z,p,v]:=j t;exact#[a::z,p.cons _,.cons h v]
 |swap x y A =>
  intro l r;cases l with
  |nil=>cases r|cons a l=>cases l with
   |nil=>cases r with|cons h t=>cases t
   |cons b l=>cases r with
    |cons h t=>cases t with|cons s t=>exact#[b::a::l,QCU.swap _ _ _,.cons s (.cons h t)]
 |trans _ _ n m=>intro l r;let#[Z,f,w]:=n r;let#[i,e,u]:=m w;exact#[i,e.trans f,u]
theorem zW{ls:List (LS)}(h:Reps K F xs (ls.map jD)):∀x∈xs,∃a,∃u:LS,x=.ref a/\RC K F a (u.map V.str):=by
 induction ls generalizing xs with
 |nil=>cases h;exact λ_ z=>nomatch z
 |cons l ls v =>
  cases h with
  |cons r t =>
   intro x h;rcases QL.mp h with e|h;subst e;cases r with|lst q r=>exact#[_,l,rfl,by rw[<- SG r];exact q]
   exact v t x h
theorem lm{P:Bi}(s:Ste F H S ρ F1 H1 S1 ρ1)(I:Rl K F1 H1 S1 ρ1 σ)(A:Tn K F1 H1 Y vs ts)(h:z4 P (ts.map T.vw) λz n=>Q z n ρ1)(k:zB K ws F H S ρ σ Q R):Dr K P vs H1 R:=by
 cases P with
 |len =>
  rcases h with⟨z,e,h⟩| ⟨B,e,h⟩| ⟨B,e,h⟩
  let#[v,t,Z,rfl,rfl,e,r,_]:=A.one e;obtain rfl:=r.str e;exact .inl #[_,rfl,h.1,k.d s I (.int _) h.2];let#[v,t,Z,rfl,rfl,e,r,_]:=A.one e;let#[p,xs,_,rfl,f,g,_]:=r.ls I.fh e;exact .inr #[_,xs,rfl,.inl f,by rw[g.9];exact k.d s I (.int _) h];let#[v,t,Z,rfl,rfl,e,r,_]:=A.one e;let#[p,xs,_,rfl,f,g,_]:=r.tp I.fh e;exact .inr #[_,xs,rfl,.inr f,by rw[g.9];exact k.d s I (.int _) h]
 |any=>let#[B,bs,e,hb,q]:=h;let#[v,t,Z,rfl,rfl,e,r,_]:=A.one e;let#[p,xs,_,rfl,f,g,_]:=r.ls I.fh e;obtain rfl:=(g.un hb).1.bools;exact#[bs,f,k.d s I (.bl _) q]|max=>let#[i,j,e,q]:=h;let#[v,w,t,u,Z1,Z2,rfl,rfl,e1,e2,M,r2,_]:=A.two e;obtain rfl:=M.int e1;obtain rfl:=r2.int e2;exact#[i,j,rfl,k.d s I (.int _) q]|sorted =>
  rcases h with⟨B,J,e,hb,m,q⟩| ⟨B,ls,e,hb,m,q⟩| ⟨B,ns,e,hb,m,q⟩
  let#[v,t,Z,rfl,rfl,e,r,_]:=A.one e;let#[p,xs,_,rfl,f,g,_]:=r.ls I.fh e;obtain rfl:=SG (g.un hb).1;exact#[_,rfl,.inl #[J,f,m,λl C hl E N=>k.listD s I hl (GJ C) (q C E N)]];let#[v,t,Z,rfl,rfl,e,r,_]:=A.one e;let#[p,xs,_,rfl,f,g,_]:=r.ls I.fh e;have L:=(g.un hb).1;refine#[_,rfl,.inr (.inl #[xs,f,by rw[Reps.length L,QC];exact m,λx hx=>?_,λl ys hl f=>?_])];let#[a,J,e,sq]:=zW L x hx;exact#[a,J,e,I.fh.seq sq];let#[O,E,M]:=IZ f.symm L;exact k.listD s I hl M (q O E);let#[v,t,Z,rfl,rfl,e,r,_]:=A.one e;let#[p,xs,_,rfl,f,g,_]:=r.ls I.fh e;obtain rfl:=cU (g.un hb).1;exact#[_,rfl,.inr (.inr #[ns,f,m,λl G hl E N=>k.listD s I hl (sP G) (q G E N)])]
 |tuple=>let#[B,ds,e,hb,q]:=h;let#[v,t,Z,rfl,rfl,e,r,_]:=A.one e;let#[p,xs,_,rfl,f,g,_]:=r.ls I.fh e;exact#[_,xs,rfl,f,λl hl=>k.tupD s I hl (g.un hb).1 q]|int=>let#[b,e,q]:=h;let#[v,t,Z,rfl,rfl,e,r,_]:=A.one e;obtain rfl:=r.bool e;exact#[b,rfl,k.d s I (.int _) q]
theorem ck{m:Mt}(s:Ste F H S ρ F1 H1 S1 ρ1)(I:Rl K F1 H1 S1 ρ1 σ)(f:Tr K F1 H1 sa v a Za)(g:Tn K F1 H1 Y vs ts)(h:gn m a.vw (ts.map T.vw) λz n=>Q z n ρ1)(k:zB K ws F H S ρ σ Q R):Fc K m v vs H1 R:=by
 cases m with|split=>let#[z,y,b,e,h]:=h;let#[w,t,Z,rfl,rfl,e,r,_]:=g.one e;obtain rfl:=f.str b;obtain rfl:=r.str e;exact#[h.1,h.2.1,h.2.2.1,λp u=>k.listD s I u (GJ _) h.2.2.2]|join=>let#[z,A,i,b,e,l,hl,q]:=h;let#[w,t,Z,rfl,rfl,e,r,_]:=g.one e;obtain rfl:=f.str b;let#[p,xs,_,rfl,u,j,_]:=r.ls I.fh e;obtain rfl:=SG (j.un l).1;exact#[z,p,i,rfl,rfl,u,hl,k.d s I (.str _) q]|_=>exact h.elim
theorem Uq{x:Vw}(h:x.isS=kf):∃z,x=.sc (.str z):=by
 cases x with
 |sc d=>cases d with|str z=>exact#[z,rfl]|_=>exact(QD h).elim
 |_=>exact(QD h).elim
theorem uq{m:Mt}(u:Tr K F1 H1 sa v a Za)(h:dR m a.vw=kf):yY K m.ty v H1:=by
 have h:=xA h;let#[z,w]:=Uq h.1;obtain rfl:=u.str w;cases m with|join=>rfl|split=>rfl|_=>exact(QD h.2).elim
end
end
inductive AV(K:QA)(F H:Hp):List Md->LV->List (T×Bool)->(ko->Prop)->(ko->Prop)->Prop where
 |nil {md:List Md}{W Y:eB}:(∀b,¬ W b)->AV K F H md [] [] W Y
 |chg {md:List Md}{v:V}{vs:LV}{x:T}{xs:List (T×Bool)}{W Y:eB}:(md.headD .fro).isMut=kf->AV K F H md.tail vs xs W Y->AV K F H md (v::vs) ((x,kf)::xs) W Y
 |new {md:List Md}{v:V}{vs:LV}{x:T}{xs:List (T×Bool)}{Z W W' Y:eB}:(md.headD .fro).isMut=kd->Tr K F H kf v x Z->AV K F H md.tail vs xs W' Y->(∀b,Z b->¬ W' b)->(∀b,W b↔Z b∨W' b) ->
   AV K F H md (v::vs) ((x,kf)::xs) W Y
 |tmp {md:List Md}{v:V}{vs:LV}{x:T}{xs:List (T×Bool)}{Z W Y:eB}:(md.headD .fro).isMut=kd->Tr K F H kd v x Z->(∀b,Z b->Y b)->AV K F H md.tail vs xs W Y ->
   AV K F H md (v::vs) ((x,kd)::xs) W Y
section
variable{K:QA}{F H o l:Hp}{S S1:Ft}{ρ g:kA}{σ:St}
section
variable{Y W:eB}{md:List Md}{vs:LV}{xs:List (T×Bool)}{ws:LN}{c:Hp}{w:Ft}{y:kA}
theorem AV.sub{u:eB}(h:AV K F H md vs xs W Y)(k:∀b,Y b->u b):AV K F H md vs xs W u:=by
 induction h with|nil h=>exact .nil h|chg h t x=>exact .chg h (x k)|new h r t n q x=>exact .new h r (x k) n q|tmp h r z t x=>exact .tmp h r (λb hb=>k b (z b hb)) (x k)
theorem AV.dom(h:AV K F H md vs xs W Y):∀b,W b->H b≠kv/\F b=none:=by
 induction h with|nil h=>exact λb hb=>ti hb (h b)|chg h t x=>exact x|new h r t n q x=>exact λb hb=>((q b).mp hb).elim (r.dom b) (x b)|tmp h r z t x=>exact x
theorem AV.length(h:AV K F H md vs xs W Y):vs.9=xs.length:=by
 induction h with|nil h=>rfl|chg h t x=>simp[x]|new h r t n q x=>simp[x]|tmp h r z t x=>simp[x]
theorem AV.trs(h:AV K F H md vs xs W Y):(∀(i:Nat),(md.getD i .fro).isMut=kd)->GE xs=kf->Trs K F H kf vs (HF xs) W:=by
 induction h with
 |nil h=>exact λ_ _=>.nil h|@chg md _ _ _ _ _ _ h t u =>
  intro m;have:=m 0;cases md with|nil=>cases h|cons a r=>exact ti h (by simpa using this)
 |@new md v vs x xs Z W k Y h r t n q u =>
  intro m e;simp only[GE,Qg]at e;exact .cons r (u (λi=>by cases md with|nil=>exact m i|cons a md=>exact m (i+1)) e.2) n q
 |@tmp md v vs x xs Z W Y h r z t u =>
  intro m e;simp only[GE,Qg]at e;refine .cons (S1:=λ_=>False) ?_ (u (λi=>by cases md with|nil=>exact m i|cons a md=>exact m (i+1)) e.2) (λ_ z=>z.elim) λb=>by simp
  cases x with
  |d x=>cases r with|d r n=>exact .d r λ_ z=>z
  |_=>exact ti e.1 (by simp[OF,T.isD])
theorem Ij(i:Nat):((([]:List Md).getD i .fro).isMut)=false:=rfl
theorem AV.tn(h:AV K F H md vs xs W Y)(e:Same F o)(k:∀b,W b->o b=H b)(f:∀b,Y b->F b=kv->o b=kv)(i:md=[]):Tn K o H Y vs (rO xs):=by
 induction h with|nil h=>exact .nil|chg h t a=>subst i;cases h|@new md v vs x xs Z W m Y h r t n q a=>subst i;refine .cons (Z:=λ_=>False) ?_ (λb z=>z.elim) (a (λb hb=>k b ((q b).mpr (.inr hb))) f rfl);exact .d (r.kept e λb u hb j=>by rw[k b ((q b).mpr (.inl hb))];exact j) λ_ z=>z|@tmp md v vs x xs Z W Y h r z t a=>subst i;exact .cons (r.mono e λb hb=>#[rfl,f b (z b hb) (r.dom b hb).2]) z (a k f rfl)
structure AR(K:QA)(ws:LN)(md:List Md)(c:Hp)(w:Ft)(y:kA)(F H:Hp)(S:Ft)(ρ:kA)(vs:LV)(xs:List (T×Bool))(W Y:eB):Prop where
 av:AV K F H md vs xs W Y
 fr:∀b,W b->c b=kv∨U y w b
 tm:∀b,Y b->∃(i:Nat) (s:Sl),i∈ws/\ρ[i]?=kx (kx s)/\S i b
 nw:∀(i:Nat) s,ρ[i]?=kx (kx s)->∀b,W b->¬ S i b
theorem AR.held(h:AR K ws md c w y F H S ρ vs xs W Y):Held F H S ρ W:=#[h.av.dom,h.nw]
theorem AR.from{v u:Hp}{z:Ft}{x:kA}(s:Stp F H S ρ o l S1 g)(h:AR K ws md l S1 g v u z x vs xs W Y):AR K ws md H S ρ v u z x vs xs W Y :=
 #[h.av,λb hb=>by rcases h.fr b hb with q|q;exact .inl (s.dm b q);exact(s.uu b q).symm,h.tm,h.nw]
theorem AR.vars{us:LN}(h:AR K ws md c w y F H S ρ vs xs W Y)(k:∀i∈ws,i∈us):AR K us md c w y F H S ρ vs xs W Y :=
 #[h.av,h.fr,λb hb=>let#[i,s,z,x]:=h.tm b hb;#[i,s,k i z,x],h.nw]
theorem AR.frz(s:Ste F H S ρ o l S1 g)(I:Rl K o l S1 g σ)(h:AR K ws [] H S ρ o l S1 g vs xs W Y) :
  ∃v,Ste F H S ρ v l S1 g/\Rl K v l S1 g σ/\Tn K v l Y vs (rO xs) /\
   ∀st k t' u,Tr K o l st k t' u->(∀b,u b->∃(i:Nat) (s:Sl),g[i]?=kx (kx s)/\S1 i b)->Tr K v l st k t' u:=by
 have x:=h.held;have f:=vH (H:=l) λb hb=>(x.dom b hb).2;refine#[xJ o l W,s.frz (λb hb=>(x.dom b hb).2) h.fr,I.frz x,h.av.tn f (λb hb=>vJ hb) (λb m n=>?_) rfl,λst k t' u r j=>r.mono f λb hb=>#[rfl,?_]];let#[i,a,_,e,p]:=h.tm b m;rw[sC λz=>h.nw i a e b z p];exact n;let#[i,a,q,e]:=j b hb;rw[sC λz=>x.nw i a q b z e];exact(r.dom b hb).2
noncomputable def aB:List Md->LV->LV
 |_,[]=>[]|md,v::vs=>match md.headD .fro with
  | .chg=>v::aB md.tail vs|_=>aB md.tail vs
noncomputable abbrev Ds(K:QA)(p:PX)(md:List Md)(F H:Hp)(S:Ft)(ρ:kA)(σ:St)(Q:List (T×Bool)->kA->Prop)(R:LV->Hp->Prop):Prop :=
 ∀vs u x z h xs W Y,Ste F H S ρ u x z h->Rl K u x z h σ->AR K (NF p) md H S ρ u x z h vs xs W Y->(aB md vs).map (λv=>kx (kx v))=(vA md p).map (λj=>σ[j]?)->Q xs h->R vs x
def Nr(K:QA)(F H:Hp)(x:XD)(h:Option ko):Prop:=∃a fs,h=kx a/\H a=kx (.xd fs)/\yn (λ(p:Str×V) (q:Str×D)=>p.1=q.1/\Rep K F p.2 q.2) fs x.2
def AE(K:QA)(F H:Hp)(S:Ft)(ρ:kA)(E:XE)(a:XK):Prop:=∀x v u h k z,Stp F H S ρ u h k z->Same u h->Nr K u h x v->E x->a x.1 v h
theorem AE.from{E:XE}{u:XK}(h:AE K F H S ρ E u)(s:Stp F H S ρ o l S1 g):AE K o l S1 g E u:=λx k e b a z v f r q=>h x k e b a z (s.trans v) f r q
theorem AE.never:AE K F H S ρ (λ_=>False) (λ_ _ _=>False):=λ_ _ _ _ _ _ _ _ _ z=>z
inductive ArgsR(K:QA)(F H:Hp)(Y:eB):List Md->LV->LT->Prop where
 |nil {md:List Md}:ArgsR K F H Y md [] []
 |chg {md:List Md}{v:V}{vs:LV}{t:T}{ts:LT}:md.headD .fro=.chg->ArgsR K F H Y md.tail vs ts->ArgsR K F H Y md (v::vs) (t::ts)
 |rd {md:List Md}{v:V}{vs:LV}{t:T}{ts:LT}{Z:eB}:md.headD .fro≠.chg->Tr K F H kd v t Z->(∀b,Z b->Y b)->ArgsR K F H Y md.tail vs ts->ArgsR K F H Y md (v::vs) (t::ts)
structure Frm(M:eB)(F H F' H':Hp):Prop where
 ff:Same F F'
 fh:Same F' H'
 hh:∀b u,H b=kx u->¬ M b->H' b=kx u
 dm:∀b,H' b=kv->H b=kv
 fn:∀b,F b=kv->F' b≠kv->M b∨H b=kv
def lift(K:QA)(P:PSp):Sp:=λvs H Q E=>∃(F:Hp) (u:LT) (M Y:eB),Same F H/\ArgsR K F H Y P.md vs u/\Trs K F H kf (aB P.md vs) (OB P.md u) M/\(∀b,Y b->¬ M b) /\
 P.run u (λr e=>∀v z h Z k,Frm M F H z h->Tr K z h kf v r Z->Trs K z h kf (aB P.md vs) e k->(∀b,Z b->¬ k b)->(∀b,Z b∨k b->M b∨H b=kv)->Q v h)
  (λx=>∀a z h,Frm M F H z h->Nr K z h x a->E x.1 a h)
structure GOk(K:QA)(Γ:Ev)(Ψ:PEv):Prop where
 sp:∀f vs H Q E,lift K (Ψ.sp f) vs H Q E->Γ.sp f vs H Q E
 va:∀x d,Ψ.va x=kx d->∀F,Rep K F (Γ.va x) d
structure PSnd(K:QA)(Γ:Ev)(Ψ:PEv)(p:PX):Prop where
 e:∀{E:XE}{EK:XK}{F H:Hp}{S:Ft}{ρ:kA}{σ:St}{Q:TK}{R:VK},Rl K F H S ρ σ->AE K F H S ρ E EK->(pe Ψ p E).e ρ Q->zB K (NF p) F H S ρ σ Q R->(wp K Γ p EK).e σ H R
 t:∀{E:XE}{EK:XK}{F H:Hp}{S:Ft}{ρ:kA}{σ:St}{Q:Bool->kA->Prop}{R:Bool->Hp->Prop},Rl K F H S ρ σ->AE K F H S ρ E EK->(pe Ψ p E).t ρ Q->KJ K F H S ρ σ Q R->(wp K Γ p EK).t σ H R
 a:∀{E:XE}{EK:XK}{F H:Hp}{S:Ft}{ρ:kA}{σ:St}{md:List Md}{Q:List (T×Bool)->kA->Prop}{R:LV->Hp->Prop},Rl K F H S ρ σ->AE K F H S ρ E EK->(∀j∈vA md p,∃v,σ[j]?=kx (kx v))->(pe Ψ p E).a md ρ Q->Ds K p md F H S ρ σ Q R->(wp K Γ p EK).a σ H R
end
end
section
variable{K:QA}{Γ:Ev}{Ψ:PEv}{E:XE}{c:XK}{F H A U:Hp}{S S1:Ft}{ρ o:kA}{σ:St}
section
variable{b a u:PX}{RR:LV->Hp->Prop}{P:List (T×Bool)->kA->Prop}{Y Z:eB}{t:T}{st:Bool}{ts:LT}{v:V}
theorem Mo(N:PSnd K Γ Ψ b)(I:Rl K F H S ρ σ)(X:AE K F H S ρ E c){x:T}{P:T×Bool->kA->Prop}{RR:VK}(h:sq x ρ (cu (pe Ψ b E).e) P)
  (M:∀w p g S' k y m Z,Ste F H S ρ p g S' k->Rl K p g S' k σ->(∀st v l,Tr K F H st v x l->Tr K p g st v x l)->(x.isD=kd->k=ρ/\S'=S)->VR K (NF b) H S ρ p g S' k w y m Z->P (y,m) k->RR w g) :
  (wp K Γ b c).e σ H RR:=by
 unfold sq at h;cases W:x.isD with
 |true =>
  rw[W,tt rfl]at h;refine N.e I X h λw p g S' k y m Z s C r q=>M w p g S' k y m Z s C (λst v l B=>?_) (λz=>(by rw[W]at z;cases z)) r q;cases x with
  |d x=>cases B with|d r n=>exact .d (r.mono s.ff) n
  |_=>cases W
 |false =>
  rw[W,th (by simp)]at h;have X':AE K F H S (lockA ρ) E c:=λx dx F2 H2 S2 O Q f r q=>X x dx F2 H2 S ρ Q.unlockA f r q;refine N.e I.lockA X' h λw p g S' k y m Z s C r q=>?_;have kp:∀st v t l,Tr K F H st v t l->Tr K p g st v t l:=λst v t l B=>s.keep B λb _=>xD b;refine M w p g S ρ y m Z #[s.unlockA,λj t h=>#[t,h]] (I.unlockA s.toStp C.fh) (λst v l B=>kp st v _ l B) (λ_=>#[rfl,rfl]) #[r.tr,λe b hb=>?_,λe b hb=>?_,λe i L hi b hb z=>?_] q;exact .inl ((r.fr e b hb).elim id λz=>ti z (xD b));let#[i,L,h1,J,G]:=r.tm e b hb;cases L with
  |own t=>let#[t0,h0]:=s.ow i t J;let#[_,_,e0]:=JB h0;cases e0|bor t =>
   cases W:t.isD with|true=>exact ti G (C.isD J W)|false=>let#[g1,g2]:=s.bo i t J W;let#[R,g3,_]:=JB g1;rw[g2]at G;exact#[i,R,h1,g3,G]
  rcases r.fr e b hb with q|q
  ·exact(I.dom hi z).1 q
  exact ti q (xD b)
theorem No{md:List Md}(N:PSnd K Γ Ψ b)(I:Rl K F H S ρ σ)(X:AE K F H S ρ E c)(O:∀j∈vA md b,∃v,σ[j]?=kx (kx v)){x:T}(h:sq x ρ ((pe Ψ b E).a md) P)
  (M:∀ws l e S' k ys W Y,Ste F H S ρ l e S' k->Rl K l e S' k σ->(∀st v g,Tr K F H st v x g->Tr K l e st v x g)->(x.isD=kd->k=ρ/\S'=S)->AR K (NF b) md H S ρ l e S' k ws ys W Y->(aB md ws).map (λv=>kx (kx v))=(vA md b).map (λj=>σ[j]?)->P ys k->RR ws e) :
  (wp K Γ b c).a σ H RR:=by
 unfold sq at h;cases m:x.isD with
 |true =>
  rw[m,tt rfl]at h;refine N.a I X O h λw l e S' k y W Y s B r C q=>M w l e S' k y W Y s B (λst v g p=>?_) (λz=>(by rw[m]at z;cases z)) r C q;cases x with
  |d x=>cases p with|d r n=>exact .d (r.mono s.ff) n
  |_=>cases m
 |false =>
  rw[m,th (by simp)]at h;have X':AE K F H S (lockA ρ) E c:=λx dx F2 H2 S2 Q R f r q=>X x dx F2 H2 S ρ R.unlockA f r q;refine N.a I.lockA X' O h λw l e S' k y W Y s B r C q=>?_;have kp:∀st v t g,Tr K F H st v t g->Tr K l e st v t g:=λst v t g p=>s.keep p λb _=>xD b;refine M w l e S ρ y W Y #[s.unlockA,λj t h=>#[t,h]] (I.unlockA s.toStp B.fh) (λst v g p=>kp st v _ g p) (λ_=>#[rfl,rfl]) #[r.av,λb hb=>?_,λb hb=>?_,λi L hi b hb z=>?_] C q;exact .inl ((r.fr b hb).elim id λz=>ti z (xD b));let#[i,L,h1,J,G]:=r.tm b hb;cases L with
  |own t=>let#[t0,h0]:=s.ow i t J;let#[_,_,e0]:=JB h0;cases e0|bor t =>
   cases m:t.isD with|true=>exact ti G (B.isD J m)|false=>let#[g1,g2]:=s.bo i t J m;let#[s0,g3,_]:=JB g1;rw[g2]at G;exact#[i,s0,h1,g3,G]
  rcases r.fr b hb with q|q
  ·exact(I.dom hi z).1 q
  exact ti q (xD b)
theorem ND(l:PSnd K Γ Ψ a)(I:Rl K F H S ρ σ)(X:AE K F H S ρ E c){P:TK}{RR:VK}(h:(pe Ψ a E).e ρ P)
  (j:∀v w z S' y x n Z,Ste F H S ρ w z S' y->Rl K w z S' y σ->AE K w z S' y E c->Tr K w z kd v (nA x n) Z->(OF x n=kf->Rep K w v x.er)->(∀b,Z b->∃(i:Nat) (s:Sl),i∈NF a/\y[i]?=kx (kx s)/\S' i b)->P x n y->RR v z) :
  (wp K Γ a c).e σ H RR:=by
 refine l.e I X h λv w z S' y x n Z s B r q=>?_;let#[C,p,k,W,g,m,f,_]:=r.frz s B;exact j v C z S' y x n p k W (X.from k.toStp) g m f q
theorem M4(ia:PSnd K Γ Ψ a)(ib:PSnd K Γ Ψ b)(I:Rl K F H S ρ σ)(X:AE K F H S ρ E c){P:T->Bool->T->Bool->kA->Prop}{RR:V->V->Hp->Prop}
  (h:(pe Ψ a E).e ρ λx n o=>sq (nA x n) o (cu (pe Ψ b E).e) λy k=>P x n y.1 y.2 k)
  (kk:∀v w l f S' z x n y m j Zb,Ste F H S ρ l f S' z->Rl K l f S' z σ->AE K l f S' z E c->Tr K l f kd v (nA x n) j->(∀b,j b->∃(i:Nat) (s:Sl),i∈NF a/\z[i]?=kx (kx s)/\S' i b)->Tr K l f kd w (nA y m) Zb ->
   P x n y m z->RR v w f):(wp K Γ a c).e σ H λv U=>(wp K Γ b c).e σ U λw W=>RR v w W:=by
 refine ND ia I X h λv A U S1 o x n j M I1 X1 p _ G R=>?_;refine Mo ib I1 X1 R λw F2 W C k y m Z L I2 kp hs O Q=>?_;let#[F3,Z3,J,I3,N,_,_,k3]:=O.frz L I2;have B:∀b,j b->∃(i:Nat) (s:Sl),i∈NF a/\k[i]?=kx (kx s)/\C i b:=by
  cases q:(nA x n).isD with
  |true =>
   intro b hb;exfalso;generalize nA x n=t at p q;cases p with|d r n=>exact n b hb|_=>cases q
  |false=>let#[e1,e2]:=hs q;rw[e1,e2];exact G
 have g:=M.trans J;exact kk v w F3 W C k x n y m j Z3 g I3 (X.from g.toStp) (k3 _ _ _ _ (kp _ _ _ p) λb hb=>let#[i,s,_,h2]:=B b hb;#[i,s,h2]) B N Q
theorem dS(e:PSnd K Γ Ψ u)(I:Rl K F H S ρ σ)(X:AE K F H S ρ E c)(h:(pe Ψ u E).a [] ρ P)
  (k:∀vs z y S' x xs Y,Ste F H S ρ z y S' x->Rl K z y S' x σ->AE K z y S' x E c->Tn K z y Y vs (rO xs)->(∀b,Y b->∃(i:Nat) (s:Sl),i∈NF u/\x[i]?=kx (kx s)/\S' i b)->P xs x->RR vs y):(wp K Γ u c).a σ H RR:=by
 refine e.a (md:=[]) I X (λj f=>by cases u<;>cases f) h λvs z y S' x xs W Y s l r _ q=>?_;let#[m,w,g,t,_]:=r.frz s l;exact k vs m y S' x xs Y w g (X.from w.toStp) t r.tm q
theorem Jo(ia:PSnd K Γ Ψ a)(ib:PSnd K Γ Ψ u)(I:Rl K F H S ρ σ)(X:AE K F H S ρ E c){P1:T->Bool->Prop}{P:T->Bool->List (T×Bool)->kA->Prop}{R1:V->Hp->Prop}{RR:V->LV->Hp->Prop}
  (h:(pe Ψ a E).e ρ λx n o=>P1 x n/\sq (nA x n) o ((pe Ψ u E).a []) λxs z=>P x n xs z)
  (k1:∀v f w x n k,Tr K f w kd v (nA x n) k->P1 x n->R1 v w)
  (kk:∀v vs f w S' y x n xs k Y,Ste F H S ρ f w S' y->Rl K f w S' y σ->AE K f w S' y E c->Tr K f w kd v (nA x n) k->(∀b,k b->∃(i:Nat) (s:Sl),i∈NF a/\y[i]?=kx (kx s)/\S' i b)->Tn K f w Y vs (rO xs) ->
   P x n xs y->RR v vs w):(wp K Γ a c).e σ H λv U=>R1 v U/\(wp K Γ u c).a σ U λvs p=>RR v vs p:=by
 refine ND ia I X h λv A U S1 o x n k L I1 X1 l _ C #[Q,O]=>#[k1 v A U x n k l Q,?_]
 refine No ib I1 X1 (λj hj=>by cases u<;>cases hj) O λvs F2 p B z xs W Y J I2 R hs M _ N=>?_;let#[F3,G,I3,tn,k3]:=M.frz J I2;have q:∀b,k b->∃(i:Nat) (s:Sl),i∈NF a/\z[i]?=kx (kx s)/\B i b:=by
  cases m:(nA x n).isD with
  |true =>
   intro b hb;exfalso;generalize nA x n=t at l m;cases l with|d r n=>exact n b hb|_=>cases m
  |false=>let#[e1,e2]:=hs m;rw[e1,e2];exact C
 have g:=L.trans G;exact kk v vs F3 p B z x n xs k Y g I3 (X.from g.toStp) (k3 _ _ _ _ (R _ _ _ l) λb hb=>let#[i,s,_,h2]:=q b hb;#[i,s,h2]) q tn N
def BZ(K:QA)(F H:Hp)(Y:eB):Item->T->Prop
 | .one v,t=>∃Z,Tr K F H kd v t Z/\∀b,Z b->Y b|.tup vs,t=>∃h,t=.d (.tuple h)/\Reps K F vs h
theorem BZ.mono{it:Item}(h:BZ K F H Y it t)(e:Same F A)(k:∀b,Y b->U b=H b/\A b=kv):BZ K A U Y it t:=by
 cases it with|one v=>let#[Z,r,z]:=h;exact#[Z,r.mono e λb hb=>k b (z b hb),z]|tup y=>let#[ts,x,r]:=h;exact#[ts,x,r.mono e]
theorem x8{xs:LV}(h:Trs K F H st xs ts Z)(z:∀b,Z b->Y b):yn (BZ K F H Y) (xs.map .one) ts :=
 Trs.ind (R:=λ_ xs ts Z=>(∀b,Z b->Y b)->yn (BZ K F H Y) (xs.map .one) ts) (λ_ _=>.nil) (λh _ _ q x z=>.cons #[_,h.weak,λb hb=>z b ((q b).mpr (.inl hb))] (x λb hb=>z b ((q b).mpr (.inr hb)))) h z
theorem IY{Y:eB}{α:Type}(f:α->V)(g:α->D)(h:∀x,Rep K F (f x) (g x)):∀(l:List α),yn (BZ K F H Y) (l.map λx=>.one (f x)) (l.map λx=>T.d (g x))
 |[]=>.nil|x::r=>.cons #[λ_=>False,.d (h x) λ_ z=>z,λ_ z=>z.elim] (IY f g h r)
theorem Tr.lsS(f:Same F H)(h:Tr K F H st v t Z)(e:t.vw=.ls ts):∃a vs S',v=.ref a/\RC K H a vs/\Trs K F H kd vs ts S'/\(∀b,S' b->Z b)/\∀y x,Same F y->Same y x->(∀b,Z b->x b=H b)->RC K x a vs:=by
 cases h with
 |d r n =>
  cases r with|lst q r=>injection e with e;subst e;exact#[_,_,_,rfl,f.seq q,Trs.of_reps r,λb hb=>hb.elim,λy x w z _=>(w.trans z).seq q]|dct _ _ _=>exact(FH e).elim|_=>cases e
 |lst h _ r n q=>injection e with e;subst e;exact#[_,_,_,rfl,RC.of h,r.weak,λb hb=>(q b).mpr (.inr hb),λy x _ _ k=>RC.of ((k _ ((q _).mpr (.inl rfl))).trans h)]|tup=>cases e|dct=>cases e|lstF h r n=>injection e with e;subst e;exact#[_,_,_,rfl,f.seq h,Trs.of_reps r,λb hb=>hb.elim,λy x w z _=>(w.trans z).seq h]
theorem Tr.tpS(f:Same F H)(h:Tr K F H st v t Z)(e:t.vw=.tp ts):∃a vs S',v=.ref a/\jE K H a vs/\Trs K F H kd vs ts S'/\(∀b,S' b->Z b)/\∀y x,Same F y->Same y x->(∀b,Z b->x b=H b)->jE K x a vs:=by
 cases h with
 |d r n =>
  cases r with|tup q r=>injection e with e;subst e;exact#[_,_,_,rfl,f.tupl q,Trs.of_reps r,λb hb=>hb.elim,λy x w z _=>(w.trans z).tupl q]|dct _ _ _=>exact(RL e).elim|_=>cases e
 |tup h _ r n q=>injection e with e;subst e;exact#[_,_,_,rfl,jE.of h,r.weak,λb hb=>(q b).mpr (.inr hb),λy x _ _ k=>jE.of ((k _ ((q _).mpr (.inl rfl))).trans h)]|lst=>cases e|lstF=>cases e|dct=>cases e
theorem Tr.seqS(f:Same F H)(h:Tr K F H st v t Z)(e:t.vw.seq=kx ts):∃a vs sz,v=.ref (Src.adr sz)/\v4 K H sz vs/\(∃S',Trs K F H kd vs ts S')/\a=Src.adr sz/\∀g k,Same F g->Same g k->(∀b,Z b->k b=H b)->v4 K k sz vs:=by
 generalize ev:t.vw=w at e;cases w with|ls i=>cases e;let#[a,vs,S',rfl,z,x,_,y]:=h.lsS f ev;exact#[a,vs,.l a,rfl,z,#[S',x],rfl,y]|tp i=>cases e;let#[a,vs,S',rfl,z,x,_,y]:=h.tpS f ev;exact#[a,vs,.t a,rfl,z,#[S',x],rfl,y]|_=>cases e
end
mutual
theorem HW{F:Hp}:∀{k:NK}{v:V},Cm K F k v->Rep K F v (tD k)
 | .s x,v,h=>by cases(show v=.str x from h);exact .str x|.t ks,v,#[a,xs,e,q,p]=>by subst e;exact .tup q (ky_reps p)
theorem ky_reps{F:Hp}:∀{ks:List NK}{vs:LV},KyVs K F ks vs->Reps K F vs (tDs ks)
 |[],vs,h=>by cases(show vs=[] from h);exact .nil|k::ks,vs,#[x,r,e,p,q]=>by subst e;exact .cons (HW p) (ky_reps q)
end
theorem yZ{Y:eB}:∀{kvs:List KE}{ds:List D},BG K F kvs->Reps K F (kvs.map (·.2.2)) ds->yn (BZ K F H Y) (kvs.map λp=>.tup [.ref p.2.1,p.2.2]) (((kvs.map λp=>tD p.1).zip ds).map λp=>T.d (.tuple [p.1,p.2]))
 |[],_,_,.nil=>.nil|p::r,_,hk,.cons h t=>by simp only[QT,QAD];exact .cons #[[_,_],rfl,.cons (HW (hk p QF).1) (.cons h .nil)] (yZ (λp x=>hk p (QG _ x)) t)
theorem jZ{Y:eB}:∀{kvs:List KE},BG K F kvs->yn (BZ K F H Y) (kvs.map λp=>.one (.ref p.2.1)) ((kvs.map λp=>tD p.1).map T.d)
 |[],_=>.nil|p::r,hk=>.cons #[λ_=>False,.d (HW (hk p QF).1) λ_ z=>z,λ_ z=>z.elim] (jZ λp h=>hk p (QG _ h))
theorem vU{Y:eB}:∀{xs:LV}{ds:List D}(_:Reps K F xs ds) (g:Nat->Int) (n:Nat),yn (BZ K F H Y) ((xs.zipIdx n).map λp=>.tup [.int (g p.2),p.1]) ((ds.zipIdx n).map λp=>T.d (.tuple [.int (g p.2),p.1]))
 |_,_,.nil,g,n=>by simp only[List.zipIdx_nil,wV];exact .nil|_,_,.cons h t,g,n=>by simp only[List.zipIdx_cons,QT];exact .cons #[[_,_],rfl,.cons (.int _) (.cons h .nil)] (vU t g (n+1))
theorem zH{L:ItK}{Y:eB}{vs:LV}{ts:LT}{R:LT->Prop}{RR:List Item->(Hp->Prop)->Hp->Prop}(f:Same F H)(W:Tn K F H Y vs ts)(h:AB L (ts.map T.vw) R)
  (k:∀xs ys st,yn (BZ K F H Y) xs ys->(∀l g,Same F l->Same l g->(∀b,Y b->g b=H b)->st g)->R ys->RR xs st H):rC K L vs H RR:=by
 cases L with
 |val =>
  rcases h with⟨G,e,h⟩| ⟨G,e,h⟩| ⟨B,G,e,h⟩
  let#[v,t,Z,rfl,rfl,e,r,z]:=W.one e;let#[p,xs,S',rfl,M,m,I,X]:=r.lsS f e;exact .inl #[xs,M,k _ _ _ (x8 m λb hb=>z b (I b hb)) (λl g y w q=>X l g y w λb hb=>q b (z b hb)) h];let#[v,t,Z,rfl,rfl,e,r,z]:=W.one e;let#[p,xs,S',rfl,M,m,I,X]:=r.tpS f e;exact .inr (.inl #[xs,M,k _ _ _ (x8 m λb hb=>z b (I b hb)) (λl g y w q=>X l g y w λb hb=>q b (z b hb)) h]);let#[v,t,Z,rfl,rfl,y,A,C]:=W.one e;let#[a,o,xs,_,rfl,N,Q,m,_,X]:=A.dc f y;let#[s,u,rfl,rfl,rfl,O,_]:=Q;exact .inr (.inr #[s,u,N,k _ _ _ (jZ O) (λl g y w q=>X l g y w λb hb=>q b (C b hb)) h])
 |rng1=>let#[j,e,h]:=h;let#[v,t,Z,rfl,rfl,e,r,_]:=W.one e;obtain rfl:=r.int e;exact#[h.1,k _ _ _ (IY (λ(i:Nat)=>.int (i:Int)) (λ(i:Nat)=>.int (i:Int)) (λc=>.int _) _) (λ_ _ _ _ _=>trivial) h.2]|enum=>let#[x,G,E,e,g1,P,q]:=h;let#[v,t,Z,rfl,rfl,y,A,C]:=W.one e;let#[a,xs,sz,rfl,S,#[_,m],_,X]:=A.seqS f (by rw[y];exact g1);exact#[sz,xs,rfl,S,k _ _ _ (vU (m.un P).1 (λi=>(i:Int)) 0) (λl g y w q=>X l g y w λb hb=>q b (C b hb)) q]|itm =>
  rcases h with⟨B,G,E,e,P,q⟩| ⟨e,q⟩
  rotate_left
  let#[v,t,Z,rfl,rfl,y,A,C]:=W.one e;let#[_,m]:=A.sc y;generalize ed:PyData.dict []=d at m;cases m with
  |@dct b a o B vs E h J r =>
   have ez:B.zip E=[]:=by injection ed with ed;exact ed.symm
   have hl:B.9=E.length:=by rw[J.len,Reps.length r]
   have ek:B=[]:=by
    cases B with
    |nil=>rfl|cons k B =>
     cases E with|nil=>cases hl|cons d E=>cases ez
   subst ek;have eo:∃s,o=.dT s []:=by
    cases b with
    |true =>
     let#[s,u,y,w,_]:=J;cases u with|nil=>exact#[s,y]|cons p r=>cases w
    |false =>
     rcases J with⟨u,n,_,w,_⟩| ⟨s,y,_⟩
     cases u with|nil=>exact ti rfl n|cons p r=>cases w
     exact#[s,y]
   let#[s,rfl]:=eo;exact#[s,[],f _ _ h,k _ _ _ .nil (λl g y w _=>w _ _ (y _ _ h)) q]
  |_=>cases ed
  let#[v,t,Z,rfl,rfl,y,A,C]:=W.one e;let#[a,o,xs,_,rfl,N,Q,m,_,X]:=A.dc f y;let#[s,u,rfl,rfl,rfl,O,_]:=Q;exact#[s,u,N,k _ _ _ (yZ O (m.un P).1) (λl g y w q=>X l g y w λb hb=>q b (C b hb)) q]
end
section
variable{i j:Nat}{Z:eB}
def GH(S:Ft)(i:Nat)(Z:eB):Ft:=λj=>if j=i then Z else S j
theorem AA{S:Ft}:GH S i Z i=Z:=tt rfl
theorem KA{S:Ft}(h:j≠i):GH S i Z j=S j:=th h
theorem gA{α:Type}{l:List α}{x y:α}(h:(l.set i x)[j]?=kx y):(i=j/\y=x/\i<l.9)∨(i≠j/\l[j]?=kx y):=by rw[qW]at h;by_cases e:i=j;subst e;rw[tt rfl]at h;by_cases hl:i<l.9;rw[tt hl]at h;cases h;exact .inl #[rfl,rfl,hl];rw[th hl]at h;cases h;rw[th e]at h;exact .inr #[e,h]
theorem fY{α:Type}{l:List α}{x:α}(h:i<l.9):(l.set i x)[i]?=kx x:=by rw[qW,tt rfl,tt h]
theorem vE{α:Type}{l:List α}{x:α}(h:i≠j):(l.set i x)[j]?=l[j]?:=by rw[qW,th h]
end
section
variable{K:QA}{Γ:Ev}{Ψ:PEv}{E:XE}{EK:XK}{F H F1 H1:Hp}{S S1:Ft}{ρ P:kA}{σ:St}
section
variable{Z Y:eB}{J ws us:LN}{B C O N:Hp}{S' M:Ft}{l L:kA}{X D:St}{b:ko}{st:Hp->Prop}{G:Tg}{k i A:Nat}{g:List Bool}{e:kA->TK->Prop}{te:TE}{xs:List Item}{ys:LT}
theorem Rl.setB(I:Rl K F H S ρ σ)(i:Nat){v:V}{t:T}(r:Tr K F H kd v t Z)(m:∀(j:Nat) u,j≠i->ρ[j]?=kx (kx (.own u))->∀b,Z b->¬ S j b):Rl K F H (GH S i Z) (ρ.set i (kx (.bor t))) (σ.set i (kx v)) where
 fh:=I.fh
 len:=by simpa using I.len
 sl:=λj s h=>by
  rcases gA h with⟨rfl,e,hl⟩| ⟨w,h⟩
  cases e;exact#[v,fY (by rw[<- I.len];exact hl),by rw[AA];exact r];rw[vE w,KA (Q8 w)];exact I.sl j s h
 dj:=λj k z s n x y b hb hk=>by
  rcases gA x with⟨_,e,_⟩| ⟨f,x⟩
  cases e;rw[KA (Q8 f)]at hb;rcases gA y with⟨e,_,_⟩| ⟨a,y⟩
  subst e;rw[AA]at hk;exact m j z n x b hk hb;rw[KA (Q8 a)]at hk;exact I.dj j k z s n x y b hb hk
structure Bd(J:LN)(F H:Hp)(S:Ft)(ρ:kA)(σ:St)(B C:Hp)(S':Ft)(l:kA)(X:St):Prop where
 ff:Same F B
 hh:Same H C
 fn:∀b,F b=kv->B b≠kv->H b=kv
 out:∀j,j∉J->l[j]?=ρ[j]?/\S' j=S j/\X[j]?=σ[j]?
 inn:∀j t,j∈J->l[j]?≠kx (kx (.own t))
theorem Bd.U(h:Bd J F H S ρ σ B C S' l X)(u:U l S' b):L3.U ρ S b:=by let#[i,t,x,z]:=u;by_cases y:i∈J;exact ti x (h.inn i t y);let#[w,v,_]:=h.out i y;rw[w]at x;rw[v]at z;exact#[i,t,x,z]
theorem Bd.dm(h:Bd J F H S ρ σ B C S' l X)(b:ko)(e:C b=kv):H b=none:=h.hh.free e
theorem lY{Y:eB}(q:∀b,Y b->¬ U ρ S b):∀(w:LN) {vs:LV}{ts:LT}{S1:Ft}{P l:kA}{x:St}{J:LN},(∀i∈w,i∈J)->Rl K F H S1 P x->(∀b,U P S1 b->U ρ S b)->Tn K F H Y vs ts->iB w ts P=kx l ->
  ∃X S',xB w vs x=kx X/\Rl K F H S' l X/\(∀j,j∉J->l[j]?=P[j]?/\S' j=S1 j/\X[j]?=x[j]?)/\(∀j t,l[j]?=kx (kx (.own t))->j∉w/\P[j]?=kx (kx (.own t)))
 |[],_,_,S1,P,l,x,J,hJ,I,hu,.nil,h=>by simp only[iB,Qj]at h;subst h;exact#[x,S1,rfl,I,λ_ _=>#[rfl,rfl,rfl],λj t h=>#[(by simp),h]]|[],_,_,_,_,_,_,_,_,_,_,.cons _ _ _,h=>by simp[iB]at h|_::_,_,_,_,_,_,_,_,_,_,_,.nil,h=>by simp[iB]at h|i::w,_,_,S1,P,l,x,J,hJ,I,hu,.cons (v:=v) (t:=t) (Z:=Z) r z tl,h=>by
  simp only[iB]at h;have nu:∀b,Z b->¬ U P S1 b:=λb hb u=>q b (z b hb) (hu b u);have I2:=I.setB i r λj u _ y b hb W=>nu b hb #[j,u,y,W];have o:∀b,U (P.set i (kx (.bor t))) (GH S1 i Z) b->U ρ S b:=λb #[j,u,p,s]=>by
   rcases gA p with⟨_,e,_⟩| ⟨n,p⟩
   cases e;rw[KA (Q8 n)]at s;exact hu b #[j,u,p,s]
  let#[X,S',g1,g2,R,Q]:=lY q w (λj y=>hJ j (QG _ y)) I2 o tl h;refine#[X,S',g1,g2,λj y=>?_,λj u y=>?_];let#[f,a,e3]:=R j y;have n:i≠j:=λe=>y (e▸hJ i QF);rw[vE n]at f e3;rw[KA (Q8 n)]at a;exact#[f,a,e3];let#[f,a]:=Q j u y;rcases gA a with⟨_,e,_⟩| ⟨n,a⟩
  cases e;exact#[λm=>(QL.mp m).elim (λe=>n e.symm) f,a]
theorem Tn.of_trs{st:Bool}{vs:LV}{ts:LT}(h:Trs K F H st vs ts Z)(z:∀b,Z b->Y b):Tn K F H Y vs ts :=
 Trs.ind (R:=λ_ vs ts Z=>(∀b,Z b->Y b)->Tn K F H Y vs ts) (λ_ _=>.nil) (λh _ _ q x z=>.cons h.weak (λb hb=>z b ((q b).mpr (.inl hb))) (x λb hb=>z b ((q b).mpr (.inr hb)))) h z
theorem mJ{it:Item}{t:T}{QP:kA->Prop}{RP:St->Hp->Prop}(I:Rl K F H S ρ σ)(hy:∀b,Y b->¬ U ρ S b)(r:BZ K F H Y it t)(h:nJ G t ρ QP)
  (k:∀f D w x Q,Bd G.ix F H S ρ σ w x Q f D->Rl K w x Q f D->QP f->RP D x):bindI K G it σ H RP:=by
 have nm:∀(i:Nat) {v:V}{t:T}{Z:eB}{w x:Hp}{Q:Ft},Same F w->Same H x->(∀b,F b=kv->w b≠kv->H b=kv)->Rl K w x Q ρ σ->Q=S->Tr K w x kd v t Z->(∀b,Z b->¬ U ρ S b)->QP (ρ.set i (kx (.bor t)))->G=.nm i->RP (σ.set i (kx v)) x:=by
  intro i v t Z w x Q e1 e2 e3 I2 hS r hz q ht;subst hS ht;refine k _ _ w x (GH Q i Z) #[e1,e2,e3,λj W=>?_,λj u W hu=>?_] (I2.setB i r λj u _ W b hb hs=>hz b hb #[j,u,W,hs]) q;have n:i≠j:=λe=>W (by subst e;exact QJ.mpr rfl);exact#[vE n,KA (Q8 n),vE n];have e:j=i:=QJ.mp W;subst e;rcases gA hu with⟨_,e,_⟩| ⟨n,_⟩
  cases e;exact n rfl
 have tp:∀(y:LN) {m:LV}{R:LT}{x:Hp}{l:kA},Same H x->G=.tp y->Tn K F x Y m R->iB y R ρ=kx l->QP l->∃X,xB y m σ=kx X/\RP X x:=by intro y m R x l e2 ht r e q;subst ht;let#[X,S',g1,g2,g3,g4]:=lY hy y (J:=y) (λi hi=>hi) (I.same e2) (λb u=>u) r e;exact#[X,g1,k _ _ F x S' #[.refl _,e2,λb h z=>ti h z,g3,λj u W hu=>(g4 j u hu).1 W] g2 q]
 cases it with
 |one v =>
  let#[Z,r,z]:=r;cases G with|nm i=>exact nm i (.refl _) (.refl _) (λb h z=>ti h z) I rfl r (λb hb=>hy b (z b hb)) h rfl|tp y=>have h2:(match t.vw with | .tp R=>∃l,iB y R ρ=kx l/\QP l|_=>False):=h;split at h2;rename_i R e;let#[l,e1,q]:=h2;let#[a,m,S',rfl,o,rp,z2]:=r.tp I.fh e;let#[X,g1,g2]:=tp y (.refl _) rfl (Tn.of_trs rp λb hb=>z b (z2 b hb)) e1 q;exact#[m,X,o,g1,g2];exact h2.elim
 |tup m =>
  let#[ds,rfl,rd]:=r;cases G with|nm i=>intro p o;refine nm i (DB (I.fh.free o)) (DB o) (λb h1 h2=>?_) (I.newT o (.tup m)) rfl (.d (S:=λ_=>False) (.tup (jE.of iA) (rd.mono (DB (I.fh.free o)))) λ_ z=>z) (λb z=>z.elim) h rfl;by_cases hb:b=p;rw[hb];exact o;rw[uA hb]at h2;exact ti h1 h2|tp y=>intro C s;let#[l,e1,q]:=h;exact tp y s rfl (Tn.of_trs (Trs.of_reps (st:=kd) rd) λb hb=>hb.elim) e1 q
noncomputable def MR(k:Nat)(S:Ft):Ft:=λi=>if i<k then λ_=>False else S (i - k)
theorem VE:∀(m:List Bool) (ρ:kA) (i:Nat) s,(PB m ρ)[i]?=kx (kx s)->ρ[i]?=kx (kx s)/\m.getD i kd=kd
 |[],ρ,i,s,h=>by
  have e:PB [] ρ=ρ:=by cases ρ<;>rfl
  rw[e]at h;exact#[h,rfl]
 |b::m,[],i,s,h=>by simp[PB]at h|b::m,v::ρ,0,s,h=>by
  cases b with|true=>simp[PB]at h|false=>simp[PB]at h;simp[h]
 |b::m,v::ρ,i+1,s,h=>by simp only[PB,wX]at h;let#[y,x]:=VE m ρ i s h;exact#[by simpa using y,by simpa using x]
theorem mP:∀(m:List Bool) (σ:St) (i:Nat) v,σ[i]?=kx (kx v)->m.getD i kd=kd->(XB m σ)[i]?=kx (kx v)
 |[],σ,i,v,h,_=>by
  have e:XB [] σ=σ:=by cases σ<;>rfl
  rw[e];exact h
 |b::m,[],i,v,h,_=>by simp at h|b::m,w::σ,0,v,h,hb=>by
  have:b=false:=by simpa using hb
  subst this;simpa[XB]using h
 |b::m,w::σ,i+1,v,h,hb=>by simp only[XB,wX];exact mP m σ i v (by simpa using h) (by simpa using hb)
theorem oP:∀(m:List Bool) (ρ:kA),(PB m ρ).9=ρ.9
 |[],ρ=>by cases ρ<;>rfl|_::_,[]=>rfl|b::m,v::ρ=>by simp[PB,oP m ρ]
theorem oG{ρ:kA}{s:Sl}(h:(xL k g ρ)[i]?=kx (kx s)):k<=i/\ρ[i - k]?=kx (kx s)/\g.getD (i - k) kd=false:=by unfold xL at h;rcases QAB i k with z|z;rw[qI (by simpa using z),wB]at h;split at h<;>cases h;rw[Qv (by simpa using z)]at h;simp only[qq]at h;let#[y,x]:=VE g ρ _ s h;exact#[z,y,x]
theorem Rl.ent(I:Rl K F H S ρ σ)(k:Nat)(g:List Bool):Rl K F H (MR k S) (xL k g ρ) (HE k g σ) where
 fh:=I.fh
 len:=by simp[xL,HE,oP,jH,I.len]
 sl:=λi s h=>by let#[u,z,y]:=oG h;let#[v,a,w]:=I.sl _ s z;refine#[v,?_,?_];unfold HE;rw[Qv (by simpa using u)];simp only[qq];exact mP g σ _ v a y;unfold MR;rw[th ()];exact w
 dj:=λi j t s n z y b hb x=>by let#[p,m,_]:=oG z;let#[o,f,_]:=oG y;unfold MR at hb x;rw[th ()]at hb x;exact I.dj (i - k) (j - k) t s () m f b hb x
theorem mZ(b:ko):¬ U (xL k g (lockA ρ)) S' b:=λ#[i,t,h,_]=>by let#[_,x,_]:=oG h;let#[_,_,e]:=JB x;cases e
theorem Paired.get_of{α u:Type}{R:α->u->Prop}{xs:List α}{ys:List u}(h:yn R xs ys):∀{i:Nat}{x:α},xs[i]?=kx x->∃y,ys.drop i=y::ys.drop (i+1)/\R x y:=by
 induction h with
 |nil=>intro i x e;simp at e|@cons x y xs ys h t w =>
  intro i z e;cases i with|zero=>simp at e;subst e;exact#[y,by simp,h]|succ i=>let#[v,f,a]:=w (i:=i) (by simpa using e);exact#[v,by simpa using f,a]
structure Pur(F H B C:Hp):Prop where
 ff:Same F B
 hh:Same H C
 fn:∀b,F b=kv->B b≠kv->H b=kv
theorem Pur.trans{u y:Hp}(a:Pur F H F1 H1)(b:Pur F1 H1 u y):Pur F H u y:=#[a.ff.trans b.ff,a.hh.trans b.hh,λx h z=>by by_cases q:F1 x=kv;exact a.hh.free (b.fn x q z);exact a.fn x h q]
theorem Pur.ste(p:Pur F H F1 H1):Ste F H S ρ F1 H1 S ρ:=#[#[p.ff,λb u h _=>p.hh b u h,λb h=>p.hh.free h,λb h z=>.inr (p.fn b h z),λb h=>.inl h,λ_ _ h _=>#[h,rfl]],λ_ t h=>#[t,h]]
theorem Pur.rl(p:Pur F H F1 H1)(f:Same F1 H1)(I:Rl K F H S ρ σ):Rl K F1 H1 S ρ σ:=#[f,I.len,λi s e=>by
 let#[v,y,h]:=I.sl i s e;exact#[v,y,h.mono p.ff λb hb=>by
  let#[x,z]:=h.dom b hb;refine#[?_,?_];cases e:H b with|none=>exact ti e x|some u=>exact p.hh b u e
  by_cases q:F1 b=kv
  ·exact q
  exact ti (p.fn b z q) x],I.dj]
theorem Stp.pur(s:Stp F H S ρ F1 H1 S' l)(n:∀b,¬ U ρ S b):Pur F H F1 H1:=#[s.ff,λb u h=>s.hh b u h (n b),λb h z=>(s.fn b h z).elim (λq=>ti q (n b)) id]
theorem Pur.trs(p:Pur F H F1 H1){st:Bool}{v:LV}{t:LT}(h:Trs K F H st v t Z):Trs K F1 H1 st v t Z:=h.mono p.ff λb hb=>by
  let#[x,y]:=h.dom b hb;refine#[?_,?_];cases e:H b with|none=>exact ti e x|some u=>exact p.hh b u e
  by_cases q:F1 b=kv
  ·exact q
  exact ti (p.fn b y q) x
theorem R8{c:kA->(Bool->kA->Prop)->Prop}{tc:TT}
  (ic:∀{F H:Hp}{S:Ft}{ρ:kA}{σ:St}{Q:Bool->kA->Prop}{R:Bool->Hp->Prop},Rl K F H S ρ σ->c ρ Q->KJ K F H S ρ σ Q R->tc σ H R)
  (ie:∀{F H:Hp}{S:Ft}{ρ:kA}{σ:St}{Q:TK}{R:VK},Rl K F H S ρ σ->e ρ Q->zB K us F H S ρ σ Q R->te σ H R)
  (s:Ste O N M L F H S ρ) (I:Rl K F H S ρ σ) (pr:yn (BZ K F H Y) xs ys) (hyd:∀b,Y b->H b≠kv/\F b=kv) (hst:∀B C,Same F B->Same B C->(∀b,Y b->C b=H b)->st C) {Q:TK}{R:VK}
  (h:vD (pG G (xL A g (lockA ρ)) c e) ys [] λys=>Q (.lst ys) kf ρ) (k:zB K ws O N M L σ Q R) :
  yQ K xs st G tc te (HE A g σ) H R:=by
 refine XU ?_;have len:=qC pr;have yk:∀{B C:Hp},Pur F H B C->∀b,Y b->C b=H b/\B b=none:=λ{B C} p b hb=>by
  let#[d1,d2]:=hyd b hb;refine#[?_,?_];cases e:H b with|none=>exact ti e d1|some u=>exact p.hh b u e
  by_cases q:B b=kv
  ·exact q
  exact ti (p.fn b d2 q) d1
 refine#[λi m C=>∃B w W,Pur F H B C/\Same B C/\Trs K B C kf m w W/\(∀b,W b->H b=kv)/\vD (pG G (xL A g (lockA ρ)) c e) (ys.drop i) w λys=>Q (.lst ys) kf ρ,
  #[F,[],λ_=>False,#[.refl _,.refl _,λb h z=>ti h z],I.fh,.nil λ_ z=>z,λ_ z=>z.elim,by simpa using h],?_,?_,?_]
 rintro i m C _ ⟨B,w,W,p,f,_,_,_⟩;exact hst B C p.ff f λb hb=>(yk p b hb).1;rintro i x m H1 hx ⟨F1,w,W,p1,f1,o,hw,hc⟩;let#[y,hd,ry]:=Paired.get_of pr hx;rw[hd]at hc;unfold vD at hc;unfold pG at hc;have I1:Rl K F1 H1 (MR A S) (xL A g (lockA ρ)) (HE A g σ):=((p1.rl f1 I).lockA).ent A g;refine mJ I1 (λb _=>mZ b) (ry.mono p1.ff (yk p1)) hc λρ2 D F2 H2 S2 bd I2 hc=>?_;have p2:Pur F1 H1 F2 H2:=#[bd.ff,bd.hh,bd.fn]
 have nu2:∀b,¬ U ρ2 S2 b:=λb u=>mZ b (bd.U u);refine ic I2 hc λb F3 H3 S3 ρ3 s3 I3 q=>?_;have p3:Pur F2 H2 F3 H3:=s3.toStp.pur nu2;have nu3:∀b,¬ U ρ3 S3 b:=λb #[j,t,h1,_]=>by let#[t0,h0]:=s3.ow j t h1;by_cases hj:j∈G.ix;exact bd.inn j t0 hj h0;rw[(bd.out j hj).1]at h0;let#[_,h1,_]:=oG h0;let#[_,_,e]:=JB h1;cases e
 have a:=p1.trans (p2.trans p3);cases b with
 |false=>exact#[F3,w,W,a,I3.fh,p3.trs (p2.trs o),hw,q]|true =>
  refine ie I3 q λv F4 H4 S4 ρ4 z n Z s4 I4 r4 #[hk,hl,hc]=>?_;have p4:Pur F3 H3 F4 H4:=s4.toStp.pur nu3;have ra4:=p4.trs (p3.trs (p2.trs o));have rz:∃Z',Tr K F4 H4 kf v z Z'/\∀b,Z' b->H3 b=none:=by
   cases n with
   |true=>exact#[Z,r4.tr,λb hb=>(r4.fr rfl b hb).elim id λu=>ti u (nu3 b)]|false =>
    cases z with
    |d x =>
     have tr:=r4.tr;cases tr with|d r n=>exact#[λ_=>False,.d r λ_ z=>z,λ_ z=>z.elim]
    |_=>exact ti hk (by simp[OF,T.isD])
  let#[Z',rz,fz]:=rz;refine#[by rw[o.9];exact hl,F4,_,λb=>W b∨Z' b,a.trans p4,I4.fh,ra4.append (Trs.one rz) λb hb hz=>?_,λb hb=>?_,hc];have q1:=(o.dom b hb).1;exact q1 ((p2.trans p3).hh.free (fz b hz));rcases hb with hb|hb
  ·exact hw b hb
  exact a.hh.free (fz b hb)
 rintro m C ⟨B,w,W,p,f,o,hw,hc⟩;rw[len,QAm]at hc;unfold vD at hc;have I':=p.rl f I;refine#[by rw[o.9];exact hc.1,λq hq=>?_];refine zB.list (k.from s) (p.ste) I' hq o (λb hb=>.inl (hw b hb)) #[o.dom,λi sl hi b hb z=>?_] hc.2;exact(I.dom hi z).1 (hw b hb)
theorem DT:∀(m:List Bool) (σ:St) (i:Nat) v,(XB m σ)[i]?=kx (kx v)->σ[i]?=kx (kx v)
 |[],σ,i,v,h=>by
  have e:XB [] σ=σ:=by cases σ<;>rfl
  rw[e]at h;exact h
 |b::m,[],i,v,h=>h|b::m,w::σ,0,v,h=>by
  cases b with|true=>cases h|false=>exact h
 |b::m,w::σ,i+1,v,h=>DT m σ i v h
theorem Rl.mask(I:Rl K F H S ρ σ)(m:List Bool):Rl K F H S (PB m ρ) (XB m σ):=by have:=I.ent 0 m;rw[show MR 0 S=S from funext λi=>th ()]at this;exact this
theorem Ste.mask(m:List Bool):Ste F H S ρ F H S (PB m ρ):=#[#[.refl _,λ_ _ h _=>h,λ_ h=>h,λb h z=>ti h z,λb #[i,t,y,x]=>.inl #[i,t,(VE _ _ _ _ y).1,x],λj t h _=>#[(VE _ _ _ _ h).1,rfl]],λj t h=>#[t,(VE _ _ _ _ h).1]]
theorem Rl.unmask{m:List Bool}(I:Rl K F H S ρ (XB m σ)):Rl K F H S ρ σ:=#[I.fh,by rw[I.len,jH],λi s h=>by let#[v,y,x]:=I.sl i s h;exact#[v,DT _ _ _ _ y,x],I.dj]
theorem LR{ρ:kA}:(wE A kv++ρ)[A+i]?=ρ[i]?:=by rw[Qv (by simp)];simp
theorem jr{ρ:kA}{S:Ft}(h:U (wE A kv++ρ) (MR A S) b):U ρ S b:=by let#[i,t,x,y]:=h;rcases QAB i A with z|z;rw[qI (by simpa using z),wB]at x;split at x<;>cases x;let#[j,rfl]:=Nat.exists_eq_add_of_le z;rw[LR]at x;unfold MR at y;rw[th (),QAf]at y;exact#[j,t,x,y]
theorem Ub{w:St}{I W:Hp}{o:Ft}{y:kA}(R:∀j∈J,j<A)(x:Bd J F H (MR A S) (wE A kv++ρ) w F1 H1 S1 P D)(s:Ste F1 H1 S1 P I W o y):Ste F H S ρ I W (λi=>o (A+i)) (y.drop A):=by
 have p:∀i,A+i∉J:=λi z=>by have:=R _ z;omega
 have a:∀b,U P S1 b->U ρ S b:=λb u=>jr (x.U u);refine#[#[x.ff.trans s.ff,λb u e n=>s.hh b u (x.hh b u e) λz=>n (a b z),λb e=>?_,λb e z=>?_,λb #[i,t,v,m]=>?_,λj t h n=>?_],λj t h=>?_];have d:=s.dm b e;cases q:H b with|none=>rfl|some u=>rw[x.hh b u q]at d;cases d
 by_cases q:F1 b=kv
 ·exact(s.fn b q z).imp (a b) λd=>by
   cases f:H b with|none=>rfl|some u=>rw[x.hh b u f]at d;cases d
 exact .inr (x.fn b e q);rw[qu]at v;exact(s.uu b #[_,t,v,m]).imp (a b) λd=>by
  cases f:H b with|none=>rfl|some u=>rw[x.hh b u f]at d;cases d
 rw[qu]at h;let#[v,m]:=s.bo _ t h n;let#[e1,e2,_]:=x.out _ (p j);rw[e1,LR]at v;refine#[v,?_];show o (A+j)=S j;rw[m,e2];unfold MR;rw[th (),QAf];rw[qu]at h;let#[Q,r]:=s.ow _ t h;rw[(x.out _ (p j)).1,LR]at r;exact#[Q,r]
theorem fj(I:Rl K F H S ρ D)(e:D.drop A=σ):Rl K F H (λi=>S (A+i)) (ρ.drop A) σ where
 fh:=I.fh
 len:=by rw[<- e,w8,w8,I.len]
 sl:=λi s h=>by rw[qu]at h;let#[v,y,x]:=I.sl _ s h;exact#[v,by rw[<- e,qu];exact y,x]
 dj:=λi j t s n y x=>by rw[qu]at y x;exact I.dj _ _ t s () y x
theorem S8(f:∀j∈G.ix,j<A)
  (ie:∀{F H:Hp}{S:Ft}{ρ:kA}{σ:St}{Q:TK}{R:VK},Rl K F H S ρ σ->e ρ Q->zB K us F H S ρ σ Q R->te σ H R)
  (s:Ste O N M L F H S ρ) (I:Rl K F H S ρ σ) (pr:yn (BZ K F H λ_=>False) xs ys) (W:∀B C,Same F B->Same B C->st C) {Q:TK}{R:VK}
  (h:KH G A e ys [] (PB g ρ) λds u=>Q (.lst (ds.map T.d)) kf u) (k:zB K ws O N M L σ Q R) :
  yQ K xs st G (λ_ H Q=>Q kf H) te (HE A g σ) H R:=by
 refine XU ?_;have len:=qC pr;refine#[λi w C=>∃B S' l ds,Ste F H S ρ B C S' l/\Rl K B C S' l (XB g σ)/\Reps K B w ds/\KH G A e (ys.drop i) ds l λds u=>Q (.lst (ds.map T.d)) kf u,
  #[F,S,_,[],.mask g,I.mask g,.nil,by simpa using h],?_,?_,?_]
 rintro i w C _ ⟨B,S',l,ds,r,I',_,_⟩;exact W B C r.ff I'.fh;rintro i x w H1 hx ⟨F1,S1,P,ds,s1,I1,a,hc⟩;let#[y,hd,ry]:=Paired.get_of pr hx;rw[hd]at hc;unfold KH at hc;have m:=I1.ent A [];rw[show xL A [] P=wE A kv++P by unfold xL;cases P<;>rfl,show HE A [] (XB g σ)=HE A g σ by unfold HE;cases XB g σ<;>rfl]at m;refine mJ m (λb z=>z.elim) (ry.mono s1.ff λb z=>z.elim) hc λu D F2 H2 S2 bd I2 hc=>?_;have e2:D.drop A=XB g σ:=by apply qO;intro i;rw[qu,(bd.out (A+i) λz=>by have:=f _ z;omega).2.2];unfold HE;rw[Qv (by simp)];simp
 refine ie I2 hc λv F4 H4 S4 p z n Z s4 I4 r4 #[hk,hl,hc]=>?_;let#[F5,Z5,s5,I5,_,er,_]:=r4.frz s4 I4;have o:=Ub f bd s5;exact#[by rw[a.9];exact hl,F5,_,p.drop A,ds++[z.er],s1.trans o,fj I5 e2,(a.mono o.ff).append (.cons (er hk) .nil),hc];rintro w C ⟨B,S',l,ds,r,I',a,hc⟩;rw[len,QAm]at hc;unfold KH at hc;exact#[by rw[a.9];exact hc.1,λq hq=>(k.from (s.trans r)).listD .refl I'.unmask hq a hc.2]
end
end
section
variable{K:QA}{Γ:Ev}{Ψ:PEv}{E:XE}{p:XK}{F H l c:Hp}{S S1:Ft}{ρ y:kA}{σ:St}
theorem Tr.shal{v:V}{u t:T}{Z:eB}(h:Tr K F H kd v u Z)(e:yD u=kx t):Tr K F H kd v t Z:=by
 unfold yD at e;split at e;rename_i ts ev;cases x:XF ts with
 |none=>rw[x]at e;cases e|some f =>
  rw[x]at e;injection e with e;subst e;cases h with
  |d r n =>
   cases r with|lst q r=>injection ev with ev;subst ev;rw[HA]at x;injection x with x;subst x;exact .lstF q r n|dct _ _ _=>exact(FH ev).elim|_=>cases ev
  |lst k w z b a=>injection ev with ev;subst ev;show Tr K F H kd _ (.lst (f.map T.d)) Z;rw[<- yM x];exact .lst k w z b a|tup=>cases ev|dct=>cases ev|lstF k w z=>injection ev with ev;subst ev;rw[HA]at x;injection x with x;subst x;exact .lstF k w z
 split at e
 ·injection e with e;subst e;exact h
 cases e
theorem AV.pass{Y:eB}{md:List Md}{vs:LV}{xs:List (T×Bool)}{W:eB}(h:AV K F H md vs xs W Y)(e:Same F l)(k:∀b,W b->l b=H b)(G:∀b,Y b->F b=kv->l b=kv) :
  ∀{g ts:LT},lA md xs g=kx ts->ArgsR K l H Y md vs ts/\OB md ts=g:=by
 induction h with
 |nil h =>
  intro g ts w;cases g with|nil=>simp only[lA,Qj]at w;subst w;exact#[.nil,rfl]|cons _ _=>simp[lA]at w
 |@chg md v vs x xs W Y h t C =>
  intro g ts w;have f:md.headD .fro=.chg:=by generalize md.headD .fro=m at h;cases m<;>first|rfl|cases h
  unfold lA at w;rw[f]at w;cases g with
  |nil=>cases w|cons o g =>
   cases a:lA md.tail xs g with|none=>simp only[a,wT]at w;cases w|some B=>simp only[a,Q4,Qj]at w;subst w;let#[s,j]:=C k G a;refine#[.chg f s,?_];unfold OB;rw[f];simp only[j]
 |@new md v vs x xs Z W J Y h r t n q C =>
  intro g ts w;have X:Tr K l H kd v (.d x.er) (λ_=>False):=.d (r.kept e λb u hb I=>by rw[k b ((q b).mpr (.inl hb))];exact I) λ_ z=>z;have i:=@C (λb hb=>k b ((q b).mpr (.inr hb))) G;unfold lA at w;cases f:md.headD .fro with
  |chg=>rw[f]at h;cases h|fro =>
   simp only[f,nA]at w;cases a:lA md.tail xs g with|none=>simp only[a,wT]at w;cases w|some B=>simp only[a,Q4,Qj]at w;subst w;let#[s,j]:=i a;exact#[.rd (by rw[f];simp) X (λ_ z=>z.elim) s,by unfold OB;rw[f];exact j]
  |shal =>
   simp only[f,nA]at w;cases A:yD (.d x.er) with
   |none=>simp only[A]at w;cases w|some u =>
    simp only[A]at w;cases a:lA md.tail xs g with|none=>simp only[a,wT]at w;cases w|some B=>simp only[a,Q4,Qj]at w;subst w;let#[s,j]:=i a;exact#[.rd (by rw[f];simp) (X.shal A) (λ_ z=>z.elim) s,by unfold OB;rw[f];exact j]
  |bor =>
   simp only[f,nA]at w;cases a:lA md.tail xs g with|none=>simp only[a,wT]at w;cases w|some B=>simp only[a,Q4,Qj]at w;subst w;let#[s,j]:=i a;exact#[.rd (by rw[f];simp) X (λ_ z=>z.elim) s,by unfold OB;rw[f];exact j]
 |@tmp md v vs x xs Z W Y h r z t C =>
  intro g ts w;have X:Tr K l H kd v x Z:=r.mono e λb hb=>#[rfl,G b (z b hb) (r.dom b hb).2]
  have i:=@C k G;unfold lA at w;cases f:md.headD .fro with
  |chg=>rw[f]at h;cases h|fro =>
   simp only[f,nA]at w;cases x with
   |d x =>
    cases a:lA md.tail xs g with|none=>simp only[a,wT]at w;cases w|some B=>simp only[a,Q4,Qj]at w;subst w;let#[s,j]:=i a;exact#[.rd (by rw[f];simp) X z s,by unfold OB;rw[f];exact j]
   |_=>cases w
  |shal =>
   simp only[f,nA]at w;cases A:yD x with
   |none=>simp only[A]at w;cases w|some u =>
    simp only[A]at w;cases a:lA md.tail xs g with|none=>simp only[a,wT]at w;cases w|some B=>simp only[a,Q4,Qj]at w;subst w;let#[s,j]:=i a;exact#[.rd (by rw[f];simp) (X.shal A) z s,by unfold OB;rw[f];exact j]
  |bor =>
   simp only[f,nA]at w;cases a:lA md.tail xs g with|none=>simp only[a,wT]at w;cases w|some B=>simp only[a,Q4,Qj]at w;subst w;let#[s,j]:=i a;exact#[.rd (by rw[f];simp) X z s,by unfold OB;rw[f];exact j]
theorem dD:∀(J:LN) (ρ:kA) (i:Nat) s,(clear J ρ)[i]?=kx (kx s)->i∉J/\ρ[i]?=kx (kx s)
 |[],ρ,i,s,h=>#[(by simp),h]|j::J,ρ,i,s,h=>by
  unfold clear at h;let#[u,z]:=dD J _ i s h;rcases gA z with⟨_,e,_⟩| ⟨n,x⟩
  cases e;exact#[λm=>(QL.mp m).elim (λe=>n e.symm) u,x]
theorem eP:∀(J:LN) (ρ:kA),(clear J ρ).9=ρ.9
 |[],_=>rfl|j::J,ρ=>by unfold clear;rw[eP J];simp
theorem Rl.drop(I:Rl K F H S ρ σ)(hl:y.9=ρ.9)(h:∀(i:Nat) s,y[i]?=kx (kx s)->ρ[i]?=kx (kx s)):Rl K F H S y σ :=
 #[I.fh,hl.trans I.len,λi s e=>I.sl i s (h i s e),λi j t s n z x=>I.dj i j t s n (h i _ z) (h j _ x)]
theorem MD:∀{J:LN}{ρ:kA}{x:LT},rA J ρ=kx x->x.9=J.9/\∀(i:Nat) j,J[i]?=kx j->∃t,x[i]?=kx t/\ρ[j]?=kx (kx (.own t))
 |[],ρ,x,h=>by simp only[rA,Qj]at h;subst h;exact#[rfl,λi j e=>by simp at e]|j::J,ρ,x,h=>by
  unfold rA at h;split at h;rename_i t e;cases z:rA J ρ with
  |none=>rw[z]at h;cases h|some f =>
   rw[z]at h;injection h with h;subst h;let#[w,v]:=MD z;refine#[by simp[w],λi k hk=>?_];cases i with|zero=>simp at hk;subst hk;exact#[t,rfl,e]|succ i=>let#[u,b,a]:=v i k (by simpa using hk);exact#[u,by simpa using b,a]
  cases h
theorem Rl.trs(I:Rl K F H S ρ σ):∀{J:LN}{w:LT}{vs:LV},J.Nodup->rA J ρ=kx w->vs.map (λv=>kx (kx v))=J.map (λj=>σ[j]?)->Trs K F H kf vs w (λb=>∃j∈J,S j b)
 |[],w,vs,_,h,hv=>by
  simp only[rA,Qj]at h;subst h;cases vs with|nil=>exact .nil λb #[j,m,_]=>by simp at m|cons _ _=>simp at hv
 |j::J,w,vs,nd,h,hv=>by
  unfold rA at h;split at h;rename_i t e;cases a:rA J ρ with
  |none=>rw[a]at h;cases h|some r =>
   rw[a]at h;injection h with h;subst h;cases vs with
   |nil=>simp at hv|cons v vs =>
    simp only[QT,WT]at hv;let#[f,q,o]:=I.sl j _ e;rw[q]at hv;have:v=f:=by simpa using hv.1
    subst this;have x:=Qh.mp nd;refine .cons o (Rl.trs I x.2 a hv.2) (λb hb #[k,hk,z]=>?_) λb=>?_;let#[i,n]:=Wm.mp hk;let#[u,_,g]:=(MD a).2 i k n;exact I.dj j k t _ (λz=>x.1 (z▸hk)) e g b hb z;constructor
    ·rintro⟨k,hk,z⟩
     rcases QL.mp hk with e|e;subst e;exact .inl z;exact .inr #[k,e,z]
    rintro(z|⟨k,hk,z⟩)
    ·exact#[j,QF,z]
    exact#[k,QG _ hk,z]
  cases h
theorem Rl.setO(I:Rl K F H S ρ σ)(i:Nat){v:V}{t:T}{Z:eB}(hv:σ[i]?=kx (kx v))(r:Tr K F H kf v t Z)(w:∀(j:Nat) s,j≠i->ρ[j]?=kx (kx s)->∀b,Z b->¬ S j b):Rl K F H (GH S i Z) (ρ.set i (kx (.own t))) σ where
 fh:=I.fh
 len:=by simpa using I.len
 sl:=λj s h=>by
  rcases gA h with⟨rfl,e,hl⟩| ⟨g,h⟩
  cases e;exact#[v,hv,by rw[AA];exact r];rw[KA (Q8 g)];exact I.sl j s h
 dj:=λj k a s n u x b hb hk=>by
  rcases gA u with⟨e,_,_⟩| ⟨f,u⟩
  subst e;rw[AA]at hb;rcases gA x with⟨e,_,_⟩| ⟨z,x⟩
  exact n e;rw[KA (Q8 z)]at hk;exact w k s (Q8 z) x b hb hk;rw[KA (Q8 f)]at hb;rcases gA x with⟨e,_,_⟩| ⟨z,x⟩
  subst e;rw[AA]at hk;exact w j _ n u b hk hb;rw[KA (Q8 z)]at hk;exact I.dj j k a s n u x b hb hk
theorem tM:∀{J:LN}{w:LT}{vs:LV}{M:eB}{S1:Ft}{y x:kA},J.Nodup->Rl K F H S1 y σ->Trs K F H kf vs w M->vs.map (λv=>kx (kx v))=J.map (λj=>σ[j]?)->Held F H S1 y M->dB J w y=kx x ->
  ∃f,Rl K F H f x σ/\(∀i,i∉J->x[i]?=y[i]?/\f i=S1 i)/\∀i∈J,∀s,x[i]?=kx (kx s)->(∃t,s=.own t)/\∀b,f i b->M b
 |[],w,vs,M,S1,y,x,nd,I,r,hv,hm,h=>by
  cases w with|nil=>simp only[dB,Qj]at h;subst h;exact#[S1,I,λ_ _=>#[rfl,rfl],λi u=>by simp at u]|cons _ _=>simp[dB]at h
 |j::J,w,vs,M,S1,y,x,nd,I,r,hv,hm,h=>by
  cases r with
  |nil _=>simp[dB]at h|@cons _ v t vs ts _ Z Q G C n q =>
   simp only[dB]at h;simp only[QT,WT]at hv;have a:=Qh.mp nd;have R:=I.setO j hv.1.symm G λk s _ hk b hb=>hm.nw k s hk b ((q b).mpr (.inl hb));have W:Held F H (GH S1 j Z) (y.set j (kx (.own t))) Q:=#[λb hb=>hm.dom b ((q b).mpr (.inr hb)),λi s u b hb z=>by
    rcases gA u with⟨rfl,_,_⟩| ⟨X,u⟩
    rw[AA]at z;exact n b z hb;rw[KA (Q8 X)]at z;exact hm.nw i s u b ((q b).mpr (.inr hb)) z]
   let#[f,P,B,O]:=tM a.2 R C hv.2 W h;refine#[f,P,λi u=>?_,λi u s Y=>?_];have A:j≠i:=λe=>u (e▸QF);let#[o,g]:=B i λm=>u (QG _ m);rw[vE A]at o;rw[KA (Q8 A)]at g;exact#[o,g];rcases QL.mp u with e|e
   ·subst e
    let#[o,g]:=B i a.1;rw[o]at Y;rcases gA Y with⟨_,e,_⟩| ⟨X,_⟩
    injection e with e;refine#[#[t,e],λb hb=>?_];rw[g,AA]at hb;exact(q b).mpr (.inl hb);exact ti rfl X
   let#[N,L]:=O i e s Y;exact#[N,λb hb=>(q b).mpr (.inr (L b hb))]
theorem je{f:Str}{as:PX}(g:GOk K Γ Ψ)(ia:PSnd K Γ Ψ as)(I:Rl K F H S ρ σ)(X:AE K F H S ρ E p){Q:TK}{R:VK}{ws:LN}(h:(pe Ψ (.call f as) E).e ρ Q)(k:zB K ws F H S ρ σ Q R):(wp K Γ (.call f as) p).e σ H R:=by
 let#[os,ho,nd,h]:=h;generalize hJ:vA (Ψ.sp f).md as=J at ho nd h;have C:∀j∈J,∃t,ρ[j]?=kx (kx (.own t)):=λj A=>by let#[i,hi]:=Wm.mp A;let#[t,_,e]:=(MD ho).2 i j hi;exact#[t,e]
 have I0:Rl K F H S (clear J ρ) σ:=I.drop (eP J ρ) λi s e=>(dD J ρ i s e).2;have P:∀b,U (clear J ρ) S b->U ρ S b:=λb #[i,t,h1,O]=>#[i,t,(dD J ρ i _ h1).2,O]
 have X0:AE K F H S (clear J ρ) E p:=λx dx F2 H2 S2 L m ff r q=>X x dx F2 H2 (λ_ _=>False) [] #[m.ff,λb u e n=>m.hh b u e λz=>n (P b z),m.dm,λb e z=>(m.fn b e z).imp (P b) id,λb #[i,t,e,_]=>by simp at e,λj t e=>by simp at e] ff r q;have hm:∀j∈vA (Ψ.sp f).md as,∃v,σ[j]?=kx (kx v):=λj A=>by let#[t,e]:=C j (hJ▸A);let#[v,h1,_]:=I.sl j _ e;exact#[v,h1]
 show(wp K Γ as p).a σ H λvs c=>Γ.sp f vs c R p;refine ia.a I0 X0 hm h λvs l c S1 y xs W Y s1 I1 r1 mv q1=>?_;rw[hJ]at mv;let#[ts,hp,q1]:=q1;have hw:=r1.held;have m:=s1.frz (λb hb=>(hw.dom b hb).2) r1.fr;have I2:=I1.frz hw;have yk:∀b,Y b->l b=kv->xJ l c W b=none:=λb hy hf=>by let#[i,sl,_,O,h3]:=r1.tm b hy;rw[sC λz=>r1.nw i sl O b z h3];exact hf
 let#[ar,mt]:=r1.av.pass (vH λb hb=>(hw.dom b hb).2) (λb hb=>vJ hb) yk hp;generalize xJ l c W=F2 at m I2 yk ar;have M0:=I.trs nd ho mv;have hM:Held F H S (clear J ρ) (λb=>∃j∈J,S j b):=#[λb #[j,A,hb]=>let#[t,e]:=C j A;I.dom e hb,λi s e b #[j,A,hb] z=>by let#[G,B]:=dD J ρ i s e;let#[t,et]:=C j A;exact I.dj j i t s (λq=>G (q▸A)) et B b hb z]
 have N:=hM.step m.toStp I2;have M2:Trs K F2 c kf (aB (Ψ.sp f).md vs) (OB (Ψ.sp f).md ts) (λb=>∃j∈J,S j b):=by
  rw[mt];refine M0.mono m.ff λb hb=>?_;refine#[?_,(N.dom b hb).2];cases e:H b with|none=>exact ti e (hM.dom b hb).1|some u=>exact m.hh b u e (hM.nu b hb)
 refine g.sp f vs c R p #[F2,ts,_,Y,I2.fh,ar,M2,λb hy hb=>?_,?_];let#[i,sl,_,O,h3]:=r1.tm b hy;exact N.nw i sl O b hb h3
 ·have up:∀b,(∃j∈J,S j b)->U ρ S b:=λb #[j,A,hb]=>let#[t,e]:=C j A;#[j,t,e,hb]
  have lk:∀b,(∃j∈J,S j b)∨c b=kv->U ρ S b∨H b=none:=λb hb=>hb.imp (up b) (m.dm b);refine(Ψ.sp f).mono ?_ ?_ q1
  rotate_left
  rintro x qx dx F' H' o xr;refine X x dx F' H' (λ_ _=>False) [] #[m.ff.trans o.ff,λb u e n=>o.hh b u (m.hh b u e λz=>n (P b z)) λz=>n (up b z),λb e=>m.dm b (o.dm b e),λb e z=>?_,λb #[i,t,e,_]=>by simp at e,λj t e=>by simp at e] o.fh xr qx;by_cases q:F2 b=kv;exact lk b (o.fn b q z);exact(m.fn b e q).imp (P b) id;rintro r os' ⟨L,hput,q⟩ v F' H' Z M' o tr trs dz hf;have I3:Rl K F' H' S1 y σ:=#[o.fh,I2.len,λi s e=>by
   let#[w,g1,g2]:=I2.sl i s e;refine#[w,g1,g2.mono o.ff λb hb=>?_];let#[d1,d2]:=g2.dom b hb;have nM:¬ ∃j∈J,S j b:=λz=>N.nw i s e b z hb;refine#[?_,?_];cases e:c b with|none=>exact ti e d1|some u=>exact o.hh b u e nM
   by_cases z:F' b=kv
   ·exact z
   exact((o.fn b d2 z).elim nM d1).elim,I2.dj]
  have nw3:∀b,(∃j∈J,S j b)∨c b=kv->∀(i:Nat) s,y[i]?=kx (kx s)->¬ S1 i b:=λb hb i s e z=>by rcases hb with hb|hb;exact N.nw i s e b hb z;exact(I2.dom e z).1 hb
  have hM':Held F' H' S1 y M':=#[trs.dom,λi s e b hb=>nw3 b (hf b (.inr hb)) i s e]
  let#[S2,I4,g2,g3]:=tM nd I3 trs mv hM' hput;have M:∀i s,L[i]?=kx (kx s)->(i∈J/\(∃t,s=.own t)/\∀b,S2 i b->M' b)∨(i∉J/\y[i]?=kx (kx s)/\S2 i=S1 i):=λi s e=>by by_cases hi:i∈J;exact .inl #[hi,g3 i hi s e];let#[G,B]:=g2 i hi;exact .inr #[hi,G▸e,B]
  have st:Ste F H S ρ F' H' S2 L:=#[#[m.ff.trans o.ff,λb u e n=>o.hh b u (m.hh b u e λz=>n (P b z)) λz=>n (up b z),λb e=>m.dm b (o.dm b e),λb e z=>by
    by_cases q:F2 b=kv;exact lk b (o.fn b q z);exact(m.fn b e q).imp (P b) id,
   λb #[i,t,h1,O]=>by
    rcases M i _ h1 with⟨_,_,e⟩| ⟨_,G,B⟩
    exact lk b (hf b (.inr (e b O)));rw[B]at O;exact(m.uu b #[i,t,G,O]).imp (P b) id,
   λj t e hd=>by
    rcases M j _ e with⟨_,⟨t',z⟩,_⟩| ⟨_,G,B⟩
    cases z;let#[b1,b2]:=m.bo j t G hd;exact#[(dD J ρ j _ b1).2,B.trans b2]],
   λj t e=>by
    rcases M j _ e with⟨A,_,_⟩| ⟨_,G,B⟩
    exact C j A;let#[t0,e0]:=m.ow j t G;exact#[t0,(dD J ρ j _ e0).2]]
  refine k v F' H' S2 L r kf Z st I4 #[tr,λ_ b hb=>?_,λz=>(by cases z),λ_ i s e b hb z=>?_] q;exact(lk b (hf b (.inl hb))).symm;rcases M i s e with⟨_,_,B⟩| ⟨_,G,B⟩
  ·exact dz b hb (B b z)
  rw[B]at z;exact nw3 b (hf b (.inl hb)) i s G z
end
section
variable{K:QA}{Γ:Ev}{Ψ:PEv}{E:XE}{O:XK}{F H F1 H1:Hp}{S S1:Ft}{ρ Q:kA}{σ:St}
section
variable{j i n:Nat}{t s:T}{b:Bool}{G C M:Hp}{B:Ft}{Z:kA}{W P Y:eB}{vs ys:LV}{ts us:LT}{a p:ko}{L o:HO}{v A J:V}{x y:D}{ks:List D}{R:Hp->Prop}{N:T->Prop}
theorem mC(z:ρ[j]?=kx (kx (.own t))){s:Sl}(h:(ρ.set j (kx (.bor t)))[i]?=kx (kx s)):(i=j/\s=.bor t)∨(i≠j/\ρ[i]?=kx (kx s)):=by
 rcases gA h with⟨rfl,e,_⟩| ⟨n,h⟩
 injection e with e;exact .inl #[rfl,e];exact .inr #[Q8 n,h]
theorem Rl.lock1(I:Rl K F H S ρ σ)(h:ρ[j]?=kx (kx (.own t))):Rl K F H S (ρ.set j (kx (.bor t))) σ where
 fh:=I.fh
 len:=by simpa using I.len
 sl:=λi s e=>by
  rcases mC h e with⟨rfl,rfl⟩| ⟨_,e⟩
  let#[v,g,f]:=I.sl i _ h;exact#[v,g,f.weak];exact I.sl i s e
 dj:=λi k u s n r m=>by
  rcases mC h r with⟨_,z⟩| ⟨X,w⟩
  cases z;rcases mC h m with⟨q,_⟩| ⟨_,l⟩
  ·exact I.dj i k u _ n w (q▸h)
  exact I.dj i k u s n w l
theorem Rl.lock1U(I:Rl K F H S ρ σ)(w:ρ[j]?=kx (kx (.own t)))(b:ko)(hb:S j b):¬ U (ρ.set j (kx (.bor t))) S b:=λ#[i,u,h,k]=>by
 rcases mC w h with⟨_,z⟩| ⟨n,h⟩
 cases z;exact I.dj i j u _ n h w b k hb
theorem lock1U(k:ρ[j]?=kx (kx (.own t))){b:ko}(h:U (ρ.set j (kx (.bor t))) S b):U ρ S b:=by
 let#[i,u,w,e]:=h;rcases mC k w with⟨_,z⟩| ⟨n,w⟩
 cases z;exact#[i,u,w,e]
theorem AE.lock1(X:AE K F H S ρ E O)(w:ρ[j]?=kx (kx (.own t))):AE K F H S (ρ.set j (kx (.bor t))) E O:=λx k G C B Z h f r q =>
 X x k G C (λ_ _=>False) [] #[h.ff,λb u e n=>h.hh b u e λz=>n (lock1U w z),h.dm,λb e z=>(h.fn b e z).imp (lock1U w) id,λb #[i,t,e,_]=>by simp at e,λj t e=>by simp at e] f r q
theorem RT(I:Rl K F H S ρ σ)(h:ρ[j]?=kx (kx (.own t)))(s:Ste F H S (ρ.set j (kx (.bor t))) G C B Z)(l:Rl K G C B Z σ){b:ko}(hb:S j b) :
  ∀(i:Nat) w,i≠j->Z[i]?=kx (kx w)->¬ B i b:=λi w n e z=>by
 cases w with
 |own u=>rcases s.uu b ⟨i,u,e,z⟩ with q|q;exact I.lock1U h b hb q;exact(I.dom h hb).1 q
 |bor u =>
  cases f:u.isD with
  |true=>exact l.isD e f z|false =>
   let#[k,g]:=s.bo i u e f;rw[g]at z;rcases mC h k with⟨q,_⟩| ⟨_,k⟩
   exact n q;exact I.dj j i t _ (Q8 n) h k b hb z
theorem iE{t':T}{v0:V}{m:Hp}{Z':eB}(I:Rl K F H S ρ σ)(w:ρ[j]?=kx (kx (.own t)))(hv:σ[j]?=kx (kx v0))(s:Ste F H S (ρ.set j (kx (.bor t))) G C B Z)(l:Rl K G C B Z σ)
  (hH:∀b u,C b=kx u->¬ S j b->m b=kx u) (dm:∀b,m b=kv->C b=kv) (r:Tr K G m kf v0 t' Z') (hz:∀b,Z' b->S j b∨W b∨C b=kv) (hw:Held G C B Z W) (frW:∀b,W b->H b=kv∨U (ρ.set j (kx (.bor t))) S b) :
  Ste F H S ρ G m (GH B j Z') (Z.set j (kx (.own t')))/\Rl K G m (GH B j Z') (Z.set j (kx (.own t'))) σ/\∀b,S j b∨W b∨C b=kv->∀(i:Nat) h,i≠j->Z[i]?=kx (kx h)->¬ B i b:=by
 have nw:∀b,S j b∨W b∨C b=kv->∀(i:Nat) h,i≠j->Z[i]?=kx (kx h)->¬ B i b:=λb hb i h n e z=>by rcases hb with hb|hb|hb;exact RT I w s l hb i h n e z;exact hw.nw i h e b hb z;exact(l.dom e z).1 hb
 have uj:∀b,S j b->U ρ S b:=λb hb=>#[j,t,w,hb]
 have lk:∀b,S j b∨W b∨C b=kv->U ρ S b∨H b=none:=λb hb=>by rcases hb with hb|hb|hb;exact .inl (uj b hb);exact(frW b hb).symm.imp (lock1U w) id;exact .inr (s.dm b hb)
 have fS:∀b,S j b->G b=none:=λb hb=>by
  by_cases q:G b=kv;exact q;rcases s.fn b (I.dom w hb).2 q with z|z
  ·exact ti z (I.lock1U w b hb)
  exact ti z (I.dom w hb).1
 have fh:Same G m:=λb u e=>hH b u (l.fh b u e) λz=>by rw[fS b z]at e;cases e
 have I3:Rl K G m B (Z.set j kv) σ:=#[fh,by simpa using l.len,λi h e=>by
   rcases gA e with⟨_,z,_⟩| ⟨n,e⟩
   cases z;let#[v,X,f]:=l.sl i h e;refine#[v,X,f.mono (.refl _) λb hb=>#[?_,(f.dom b hb).2]];cases eb:C b with|none=>exact ti eb (f.dom b hb).1|some u=>exact hH b u eb λz=>RT I w s l z i h (Q8 n) e hb,
  λi k u h n g e2=>by
   rcases gA g with⟨_,z,_⟩| ⟨_,g⟩
   cases z;rcases gA e2 with⟨_,z,_⟩| ⟨_,e2⟩
   ·cases z
   exact l.dj i k u h n g e2]
 have I4:=I3.setO j hv r λi h n e b hb=>by
  rcases gA e with⟨_,z,_⟩| ⟨_,e⟩
  cases z;exact nw b (hz b hb) i h n e
 have es:(Z.set j kv).set j (kx (.own t'))=Z.set j (kx (.own t')):=by simp
 rw[es]at I4;refine#[#[#[s.ff,λb u e n=>hH b u (s.hh b u e λz=>n (lock1U w z)) λz=>n (uj b z),λb e=>s.dm b (dm b e),λb e z=>(s.fn b e z).imp (lock1U w) id,λb #[i,u,X,f]=>?_,λi u e hd=>?_],λi u e=>?_],I4,nw];rcases gA X with⟨rfl,_,_⟩| ⟨n,X⟩
 ·rw[AA]at f
  exact lk b (hz b f)
 rw[KA (Q8 n)]at f;exact(s.uu b #[i,u,X,f]).imp (lock1U w) id;rcases gA e with⟨rfl,z,_⟩| ⟨n,e⟩
 ·cases z
 let#[g,e2]:=s.bo i u e hd;rcases mC w g with⟨z,_⟩| ⟨_,g⟩
 exact ti z.symm n;exact#[g,by rw[KA (Q8 n)];exact e2];rcases gA e with⟨rfl,_,_⟩| ⟨n,e⟩
 ·exact#[t,w]
 let#[t0,e0]:=s.ow i u e;rcases mC w e0 with⟨_,z⟩| ⟨_,e0⟩
 cases z;exact#[t0,e0]
theorem Trs.erase{st:Bool}{S:eB}{k:Nat}(h:Trs K F H st vs ts S)(e:ts[k]?=kx t):∃v P1 u,vs[k]?=kx v/\Tr K F H st v t P1/\Trs K F H st (vs.eraseIdx k) (ts.eraseIdx k) u/\(∀b,P1 b->¬ u b)/\∀b,P1 b∨u b->S b:=by
 revert k;refine Trs.ind (R:=λst vs ts S=>∀{k:Nat},ts[k]?=kx t->∃v P1 u,vs[k]?=kx v/\Tr K F H st v t P1/\Trs K F H st (vs.eraseIdx k) (ts.eraseIdx k) u/\(∀b,P1 b->¬ u b)/\∀b,P1 b∨u b->S b) (λn k e=>by cases e) (λ{_ _ _ _ _ _ X _} h t n q f k e=>?_) h;cases k with|zero=>cases e;exact#[_,_,_,rfl,h,t,n,λb hb=>(q b).mpr hb]|succ k=>let#[v,P1,u,r,m,l,g,w]:=f (k:=k) e;refine#[v,P1,λb=>X b∨u b,r,m,.cons h l (λb hb z=>n b hb (w b (.inr z))) λb=>wy,λb hb z=>z.elim (λz=>n b z (w b (.inl hb))) (g b hb),λb hb=>(q b).mpr ?_];rcases hb with hb|hb|hb;exact .inr (w b (.inl hb));exact .inl hb;exact .inr (w b (.inr hb))
theorem NI{α:Type}:∀{l:List α}{k:α},l.Nodup->¬ k∈l->(l++[k]).Nodup
 |[],k,_,_=>by simp|a::r,k,h,hk=>by let#[u,z]:=Qh.mp h;show(a::(r++[k])).Nodup;refine Qh.mpr #[λm=>?_,NI z λm=>hk (QL.mpr (Or.inr m))];rcases Qe.mp m with q|q;exact u q;exact hk (QL.mpr (Or.inl (QJ.mp q).symm))
theorem cJ(h:F a=kv)(r:Trs K F H kf ys us P)(n:¬ P a):Tr K F (CA H a (.lst ys)) kf (.ref a) (.lst us) λb=>b=a∨P b :=
 .lst (S':=P) iA h (r.mono (.refl _) λb hb=>#[uA λz=>n (z▸hb),(r.dom b hb).2]) n λb=>wy
theorem gC(w:Y a)(b:ko)(u:HO)(e:H b=kx u)(hb:¬ Y b):CA H a L b=kx u:=by have h:b≠a:=λz=>hb (by rw[z];exact w);rw[uA h];exact e
theorem bB(b:ko)(e:CA H a L b=kv):H b=none:=by by_cases hb:b=a;rw[hb,iA]at e;cases e;rw[uA hb]at e;exact e
theorem Uc{m:Mt}{N:T->T->Prop}{R:VK}(f:Same F H)(r:Tr K F H kf v s Y)(rv:Trs K F H kf vs ts W)(dj:∀b,Y b->¬ W b)(h:zL m s ts N)
  (k:∀w r s' H' S1 Zr,(∀b u,H b=kx u->¬ Y b->H' b=kx u)->(∀b,H' b=kv->H b=kv)->Tr K F H' kf v s' S1->Tr K F H' kf w r Zr->(∀b,Zr b->¬ S1 b)->(∀b,S1 b∨Zr b->Y b∨W b∨H b=kv)->N r s'->R w H'):Fc K m v vs H R:=by
 cases m with
 |append =>
  let#[us0,t0,rfl,rfl,h]:=h;cases r with
  |@lst _ a xs _ _ S' h1 h2 X h4 g =>
   have l:Y a:=(g a).mpr (.inl rfl);cases rv with
   |@cons _ w t ws us _ W1 W2 I r2 n q =>
    cases r2 with
    |nil n2 =>
     have hW:∀b,W b↔W1 b:=λb=>by rw[q b];simp[n2 b]
     refine#[a,xs,w,rfl,rfl,h1,by rw[X.9];exact h.1,k .non (.d .none) _ _ _ (λ_=>False) (gC l) bB (cJ h2 (Trs.append X (Trs.one I) λb hb hw=>dj b ((g b).mpr (.inr hb)) ((hW b).mpr hw)) λz=>z.elim h4 λz=>dj a l ((hW a).mpr z)) (.d .non λ_ z=>z) (λ_ z=>z.elim) (λb hb=>?_) h.2];rcases hb with(hb|hb|hb)|hb;exact .inl (hb▸l);exact .inl ((g b).mpr (.inr hb));exact .inr (.inl ((hW b).mpr hb));exact hb.elim
 |extend =>
  let#[us0,vs0,rfl,rfl,h]:=h;cases r with
  |@lst _ a xs _ _ S' h1 h2 X h4 g =>
   have l:Y a:=(g a).mpr (.inl rfl);cases rv with
   |@cons _ w t ws us _ W1 W2 I r2 n q =>
    cases r2 with
    |nil n2 =>
     have hW:∀b,W b↔W1 b:=λb=>by rw[q b];simp[n2 b]
     cases I with|@lst _ c zs _ _ B g1 g2 g3 g4 g5=>have dw:∀b,B b->W b:=λb hb=>(hW b).mpr ((g5 b).mpr (.inr hb));refine#[a,c,xs,zs,rfl,rfl,h1,g1,by rw[X.9,g3.9];exact h.1,k .non (.d .none) _ _ _ (λ_=>False) (gC l) bB (cJ h2 (Trs.append X g3 λb hb hw=>dj b ((g b).mpr (.inr hb)) (dw b hw)) λz=>z.elim h4 λz=>dj a l (dw a z)) (.d .non λ_ z=>z) (λ_ z=>z.elim) (λb hb=>?_) h.2];rcases hb with(hb|hb|hb)|hb;exact .inl (hb▸l);exact .inl ((g b).mpr (.inr hb));exact .inr (.inl (dw b hb));exact hb.elim
 |pop =>
  let#[us0,i,j,t0,rfl,hu,hi,ht,q]:=h;cases r with
  |@lst _ a xs _ _ S' h1 h2 X h4 g =>
   have l:Y a:=(g a).mpr (.inl rfl);let#[w,P1,P2,g1,g2,g3,g4,g5]:=X.erase ht;have na:¬ P1 a:=λz=>h4 (g5 a (.inl z));have nb:¬ P2 a:=λz=>h4 (g5 a (.inr z));have hv:vs=[.int i]∨vs=[]/\i=-1:=by
    rcases hu with rfl|⟨rfl,e⟩
    cases rv with
    |cons I r2 n q2 =>
     cases r2;cases I with|d I n1=>cases I;exact .inl rfl
    cases rv;exact .inr #[rfl,e]
   refine#[a,i,xs,j,w,rfl,hv,h1,by rw[X.9];exact hi,g1,k w t0 _ _ _ P1 (gC l) bB (cJ h2 g3 nb) (g2.mono (.refl _) λb hb=>#[uA λz=>na (z▸hb),(g2.dom b hb).2]) (λb hb z=>?_) (λb hb=>?_) q];rcases z with z|z
   ·exact na (z▸hb)
   exact g4 b hb z;rcases hb with(hb|hb)|hb
   ·exact .inl (hb▸l)
   exact .inl ((g b).mpr (.inr (g5 b (.inr hb))));exact .inl ((g b).mpr (.inr (g5 b (.inl hb))))
 |_=>exact h.elim
theorem Trs.setD(w:Rep K F A x){S:eB}(n:Nat)(h:Trs K F H kf vs ts S):∃P,Trs K F H kf (vs.set n A) (ts.set n (.d x)) P/\∀b,P b->S b:=by
 revert n;refine Trs.ind (R:=λst vs ts S=>∀n:Nat,∃P,Trs K F H st (vs.set n A) (ts.set n (.d x)) P/\∀b,P b->S b) (λ{_ S} z n=>#[S,.nil z,λ_ h=>h]) (λ{_ _ _ _ _ _ S1 B} h t m q k n=>?_) h;cases n with|zero=>exact#[B,.cons (S1:=λ_=>False) (.d w λ_ z=>z) t (λ_ z=>z.elim) λb=>by simp,λb hb=>(q b).mpr (.inr hb)]|succ n=>let#[P,e,u]:=k n;exact#[λb=>S1 b∨P b,.cons h e (λb hb z=>m b hb (u b z)) λb=>wy,λb hb=>(q b).mpr (hb.imp id (u b))]
theorem Trs.part{S:eB}(h:Trs K F H kf vs ts S)(e:ts[i]?=kx t):∃v S1,vs[i]?=kx v/\Tr K F H kf v t S1/\(∀b,S1 b->S b) /\
  ∀(w:Hp) t' u,(∀b,S b->¬ S1 b->w b=H b)->Tr K F w kf v t' u->(∀b,u b->S1 b)->∃P,Trs K F w kf vs (ts.set i t') P/\∀b,P b->S b:=by
 revert i;refine Trs.ind (R:=λst vs ts S=>∀{i:Nat},ts[i]?=kx t->∃v S1,vs[i]?=kx v/\Tr K F H st v t S1/\(∀b,S1 b->S b)/\∀(w:Hp) t' u,(∀b,S b->¬ S1 b->w b=H b)->Tr K F w st v t' u->(∀b,u b->S1 b)->∃P,Trs K F w st vs (ts.set i t') P/\∀b,P b->S b) (λn i e=>by cases e) (λ{_ _ _ _ _ _ m P2} h t n q X i e=>?_) h;cases i with|zero=>cases e;exact#[_,m,rfl,h,λb hb=>(q b).mpr (.inl hb),λw t' u k r f=>#[λb=>u b∨P2 b,.cons r (t.mono (.refl _) λb hb=>#[k b ((q b).mpr (.inr hb)) λz=>n b z hb,(t.dom b hb).2]) (λb hb z=>n b (f b hb) z) λb=>wy,λb hb=>(q b).mpr (hb.imp (f b) id)]]|succ i=>let#[v,S1,h1,h2,g,h4]:=X (i:=i) e;refine#[v,S1,h1,h2,λb hb=>(q b).mpr (.inr (g b hb)),λw t' u k r f=>?_];let#[P,g1,l]:=h4 w t' u (λb hb I=>k b ((q b).mpr (.inr hb)) I) r f;exact#[λb=>m b∨P b,.cons (h.mono (.refl _) λb hb=>#[k b ((q b).mpr (.inl hb)) λz=>n b hb (g b z),(h.dom b hb).2]) g1 (λb hb z=>n b hb (l b z)) λb=>wy,λb hb=>(q b).mpr (hb.imp id (l b))]
def Vq(ks:List D)(k:D):List D:=match cA ks k with
 |some _=>ks|none=>ks++[k]
def oo{α:Type}(ks:List D)(vs:List α)(k:D)(x:α):List α:=match cA ks k with
 |some n=>vs.set n x|none=>vs++[x]
theorem ZQ{α h:Type}[DecidableEq α](k:α)(key:h->α)(f:h->h)(hf:∀p,key (f p)=key p):∀(l:List h) (n:Nat),(l.map key).Nodup->(l.map key)[n]?=kx k->(∀(g:h->V) (x:V),(∀p,key p=k->g (f p)=x)->(l.map λp=>if key p=k then f p else p).map g=(l.map g).set n x)
 |[],n,_,e=>by simp at e|p::r,0,nd,e=>by
  intro g x w;have e:key p=k:=by simpa using e
  rw[QT]at nd;let#[u,m]:=Qh.mp nd;have e2:(r.map λp=>if key p=k then f p else p)=r:=by rw[show r=r.map id from(QCV r).symm,QU];refine wI λq I=>?_;have:key q≠k:=λz=>u (QN.mpr #[q,by simpa using I,z.trans e.symm]);simp[this]
  rw[QT,e2,QT,QT,tt e,w p e];rfl
 |p::r,n+1,nd,e=>by
  intro g x w;rw[QT]at nd;let#[u,m]:=Qh.mp nd;have e:(r.map key)[n]?=kx k:=by simpa using e
  have X:¬ key p=k:=λz=>u (by rw[z];exact Qw e);rw[QT,QT,QT,th X,ZQ k key f hf r n m e g x w];rfl
theorem put_keys{α h z:Type}[DecidableEq α](k:α)(key:h->α)(f:h->h)(g:h->z)(u:∀p,g (f p)=g p)(l:List h):(l.map λp=>if key p=k then f p else p).map g=l.map g:=by rw[QU];refine wI λp _=>?_;show g (if key p=k then f p else p)=g p;split;exact u p;rfl
theorem mI.put{k:D}(f:Same F H)(ha:H a=kx o)(dk:mI K F b o ks vs)(ry:Rep K F J k)(hk:AC b k)(hl:ks.9<kb)
  (kk:∀o',mI K F b o' (Vq ks k) (oo ks vs k A)->R (CA H a o')):bO K (.ref a) J A H R:=by
 cases b with
 |true =>
  let#[ep,u,rfl,rfl,rfl,h4,X]:=dk;cases oR hk ry with
  |intro q h =>
   let#[p,rfl,rfl,hq]:=h;refine#[ep,u,q,ha,λp hp=>f.key (h4 p hp),f.key hq,by simpa using hl,λI=>kk _ ?_];have w:=FG q u;unfold sM Vq oo;cases e:cA (u.map λp=>tD p.1) (tD q) with
   |none =>
    rw[e]at w;have w:dH u q=none:=w;rw[w];refine#[I,u++[(q,p,A)],rfl,by simp,by simp,λx l=>?_,?_];rcases Qe.mp l with l|l
    ·exact h4 x l
    rw[QJ.mp l];exact hq;rw[QR];refine NI X λm=>FA.mp e ?_;let#[x,l,ex]:=QN.mp m;exact QN.mpr #[x,l,by rw[ex]]
   |some n =>
    rw[e]at w;have g:=aC e;have r:(u.map (·.1))[n]?=kx q:=by
     rw[QX]at g ⊢;cases en:u[n]? with|none=>rw[en]at g;cases g|some x=>rw[en]at g;rw[Q4,Qj]at g ⊢;exact MV g
    have hs:(dH u q).isSome=true:=by
     rw[w];have:n<u.length:=by have:=(Qf.mp r).1;simpa using this
     simp[this]
    rw[tt hs];refine#[I,_,rfl,(put_keys q (·.1) (λp=>(p.1,p.2.1,A)) (λp=>tD p.1) (λ_=>rfl) u).symm,(ZQ q (·.1) (λp=>(p.1,p.2.1,A)) (λ_=>rfl) u n X r (·.2.2) A λ_ _=>rfl).symm,λx l=>?_,?_];let#[y,hy,ey]:=QN.mp l;have hy:=h4 y hy;by_cases z:y.1=q;rw[tt z]at ey;subst ey;exact hy;rw[th z]at ey;subst ey;exact hy;have:=put_keys q (·.1) (λp:KE=>(p.1,p.2.1,A)) (·.1) (λ_=>rfl) u;rw[this];exact X
 |false =>
  let#[z,rfl]:=hk;cases ry;rcases dk with⟨u,hne,rfl,rfl,rfl,X⟩| ⟨ep,rfl,rfl,rfl⟩
  rotate_left
  exact .inr #[ep,ha,kk _ (.inl #[[(.inr z,A)],by simp,rfl,rfl,rfl,by simp])];refine .inl #[u,ha,by simpa using hl,kk _ (.inl ?_)];have w:=FJ (.inr z) u;have ez:kD (.inr z)=.str z:=rfl;rw[ez]at w;unfold vW Vq oo;rw[KS];cases e:cA (u.map λp=>kD p.1) (.str z) with
  |none=>rw[e]at w;have w:AL u (.inr z)=none:=w;rw[w];refine#[u++[(.inr z,A)],by simp,rfl,by simp[ez],by simp,?_];rw[QR];refine NI X λm=>FA.mp e ?_;let#[x,l,ex]:=QN.mp m;exact QN.mpr #[x,l,by rw[ex];rfl]|some n =>
   rw[e]at w;have g:=aC e;have r:(u.map (·.1))[n]?=kx (.inr z):=by
    rw[QX]at g ⊢;cases en:u[n]? with|none=>rw[en]at g;cases g|some x=>rw[en]at g;rw[Q4,Qj]at g ⊢;exact k8 g
   have hs:(AL u (.inr z)).isSome=true:=by
    rw[w];have:n<u.length:=by have:=(Qf.mp r).1;simpa using this
    simp[this]
   rw[tt hs];refine#[_,by simpa using hne,rfl,(put_keys (.inr z) (·.1) (λp=>(p.1,A)) (λp=>kD p.1) (λ_=>rfl) u).symm,(ZQ (.inr z) (·.1) (λp=>(p.1,A)) (λ_=>rfl) u n X r (·.2) A λ_ _=>rfl).symm,?_];have:=put_keys (.inr z) (·.1) (λp:Key×V=>(p.1,A)) (·.1) (λ_=>rfl) u;rw[this];exact X
theorem BL(h:F a=kv)(u:mI K F b o ks ys)(r:Trs K F H kf ys us P)(n:¬ P a):Tr K F (CA H a o) kf (.ref a) (.dct b ks us) λb=>b=a∨P b :=
 .dct (S':=P) iA u h (r.mono (.refl _) λb hb=>#[uA λz=>n (z▸hb),(r.dom b hb).2]) n λb=>wy
theorem A4(f:Same F H)(r:Tr K F H kf v s Y)(ry:Rep K F J y)(rx:Rep K F A x)(h:Ho s y x N)
  (k:∀s' H' S1,(∀b u,H b=kx u->¬ Y b->H' b=kx u)->(∀b,H' b=kv->H b=kv)->Tr K F H' kf v s' S1->(∀b,S1 b->Y b)->N s'->R H'):bO K v J A H R:=by
 cases s with
 |lst ts =>
  cases y with
  |int i =>
   let#[n,hn,q]:=h;cases ry;cases r with|@lst _ a xs _ _ S' h1 h2 m h4 l=>have g:Y a:=(l a).mpr (.inl rfl);let#[P,I,X]:=m.setD rx n;refine#[xs,n,h1,by rw[m.9];exact hn,k _ _ _ (gC g) bB (cJ h2 I λz=>h4 (X a z)) (λb hb=>?_) q];rcases hb with hb|hb;exact hb▸g;exact(l b).mpr (.inr (X b hb))
  |_=>exact h.elim
 |dct b ks ts =>
  let#[hk,hl,q]:=h;cases r with
  |@dct _ _ a o _ vs _ _ S' h1 dk h2 m h4 l =>
   have g:Y a:=(l a).mpr (.inl rfl);refine dk.put f h1 ry hk hl λo' w=>?_;unfold Vq oo at w;unfold OJ at q;cases e:cA ks y with
   |some n=>rw[e]at w q;let#[P,I,X]:=m.setD rx n;refine k _ _ _ (gC g) bB (BL h2 w I λz=>h4 (X a z)) (λb hb=>?_) q;rcases hb with hb|hb;exact hb▸g;exact(l b).mpr (.inr (X b hb))
   |none=>rw[e]at w q;have I:=Trs.append m (Trs.one (Tr.d (S:=λ_=>False) rx λ_ z=>z)) λ_ _ z=>z;refine k _ _ _ (gC g) bB (BL h2 w I λz=>z.elim h4 id) (λb hb=>?_) q;rcases hb with hb|hb|hb;exact hb▸g;exact(l b).mpr (.inr hb);exact hb.elim
 |_=>exact h.elim
theorem mI.vs_inj{m:Hp}{f:List D}{u:LV}(h:mI K F b o ks vs)(h':mI K m b o f u):vs=u:=by
 cases b with|true=>let#[l,k,e,_,rfl,_]:=h;let#[g,w,z,_,rfl,_]:=h';rw[e]at z;cases z;rfl|false=>rcases h with⟨k,_,e,_,rfl,_⟩| ⟨l,e,_,rfl⟩<;>rcases h' with⟨w,_,z,_,rfl,_⟩| ⟨g,z,_,rfl⟩<;>rw[e]at z<;>cases z<;>rfl
theorem FM{w:V}(r:Tr K F H kf (.ref a) (.dct b ks ts) Y)(f:H a=kx o)(m:mI K M b o ks vs)(hw:vs[n]?=kx w)(ht:ts[n]?=kx s) :
  ∃S1,Tr K F H kf w s S1/\(∀b,S1 b->Y b)/\∀(k:Hp) s' h,(∀b u,H b=kx u->¬ S1 b->k b=kx u)->Tr K F k kf w s' h->(∀b,h b->S1 b)->∃P,Tr K F k kf (.ref a) (.dct b ks (ts.set n s')) P/\∀b,P b->Y b:=by
 cases r with
 |@dct _ _ a o' _ vs' _ _ S' h1 dk h2 I X l =>
  rw[f]at h1;cases h1;cases m.vs_inj dk;let#[w',S1,g1,g2,g3,g4]:=I.part ht;rw[hw]at g1;cases g1;refine#[S1,g2,λb hb=>(l b).mpr (.inr (g3 b hb)),λk s' h hh rs sub=>?_];have keep:∀b,¬ S1 b->H b≠kv->k b=H b:=λb hb g=>by
   cases e:H b with|none=>exact ti e g|some u=>exact hh b u e hb
  let#[P,p1,q]:=g4 k s' h (λb hb g=>keep b g (I.dom b hb).1) rs sub;refine#[λb=>b=a∨P b,.dct (S':=P) ((keep a (λz=>X (g3 a z)) (by rw[f];simp)).trans f) dk h2 p1 (λz=>X (q a z)) λb=>wy,λb hb=>?_];rcases hb with hb|hb;exact hb▸(l a).mpr (.inl rfl);exact(l b).mpr (.inr (q b hb))
theorem Ba{w:V}(f:Same F H)(r:Tr K F H kf (.ref a) (.dct b ks ts) Y)(ho:H a=kx o)(l:mI K M b o ks vs)(hw:vs[n]?=kx w)(ht:ts[n]?=kx s)
  (X:Rep K F J y) (I:Rep K F A x) (h:Ho s y x N)
  (k:∀s' g S1,(∀b u,H b=kx u->¬ Y b->g b=kx u)->(∀b,g b=kv->H b=kv)->Tr K F g kf (.ref a) (.dct b ks (ts.set n s')) S1->(∀b,S1 b->Y b)->N s'->R g):bO K w J A H R:=by
 let#[S1,g2,g3,g4]:=FM r ho l hw ht;refine A4 f g2 X I h λs' g m q dm rs sub q2=>?_;let#[P,p1,p2]:=g4 g s' m q rs sub;exact k _ g P (λb u e hb=>q b u e λz=>hb (g3 b z)) dm p1 p2 q2
theorem yi(f:Same F H)(w:H p=kv)(r:Tr K F H kf v (.dct kd ks ts) Y)(ry:Rep K F J y)(hk:AC kd y)(hl:ks.9<kb)(hf:cA ks y=kv)
  (k:∀g S1,(∀b u,H b=kx u->¬ Y b->g b=kx u)->(∀b,g b=kv->H b=kv)->Tr K F g kf v (.dct kd (ks++[y]) (ts++[.lst []])) S1->(∀b,S1 b->Y b∨b=p)->R g):bO K v J (.ref p) (CA H p (.lst [])) R:=by
 cases r with
 |@dct _ _ a o _ vs _ _ S' I dk h2 l h4 X =>
  have q:Y a:=(X a).mpr (.inl rfl);have ap:a≠p:=sA I w;have sm:Same H (CA H p (.lst [])):=DB w;refine dk.put (f.trans sm) ((uA ap).trans I) ry hk hl λo' h=>?_;unfold Vq oo at h;rw[hf]at h;have m:¬ S' p:=λz=>(l.dom p z).1 w;have g0:Tr K F (CA H p (.lst [])) kf (.ref p) (.lst []) λb=>b=p:=.lst (S':=λ_=>False) iA (f.free w) (.nil λ_ z=>z) (λz=>z) λb=>by simp
  have g3:Trs K F (CA H p (.lst [])) kf vs ts S':=l.mono (.refl _) λb hb=>#[uA λz=>m (z▸hb),(l.dom b hb).2]
  have g1:=Trs.append g3 (Trs.one g0) λb hb z=>m (z▸hb);refine k _ _ (λb u e hb=>?_) (λb e=>bB b (bB b e)) (BL h2 h g1 λz=>z.elim h4 ap) (λb hb=>?_);rw[uA λz=>hb (by rw[z];exact q)];exact sm b u e;rcases hb with hb|hb|hb
  ·exact .inl (hb▸q)
  exact .inl ((X b).mpr (.inr hb));exact .inr hb
theorem Ci(f:Same F H)(X:H p=kv)(r:Tr K F H kf v t Y)(ry:Rep K F J y)(h:Ui y t N)
  (k:∀s' l S1,(∀b u,H b=kx u->¬ Y b->l b=kx u)->(∀b,l b=kv->H b=kv)->Tr K F l kf v s' S1->(∀b,S1 b->Y b∨b=p)->N s'->R l):rL K v [J,.ref p] (CA H p (.dT 0 [])) λ_ l=>R l:=by
 let#[ks,ts,rfl,hk,hl,h]:=h;cases r with
 |@dct _ _ a o _ vs _ _ S' h1 dk h2 h3 h4 h5 =>
  have ha:Y a:=(h5 a).mpr (.inl rfl);let#[ep,w,rfl,rfl,rfl,d4,d5]:=dk;have ap:a≠p:=sA h1 X;have fp:F p=none:=f.free X;have sm:Same H (CA H p (.dT 0 [])):=DB X;cases oR hk ry with
  |intro q hh =>
   let#[c,rfl,rfl,hq]:=hh;have vf:=FG q w;refine#[a,c,.ref p,ep,w,q,rfl,rfl,(uA ap).trans h1,λx g=>(f.trans sm).key (d4 x g),(f.trans sm).key hq,by simpa using hl,λu eu=>?_,λen I=>?_];rcases h with⟨n,e,q⟩| ⟨e,q⟩
   ·have r0:Tr K F H kf (.ref a) (.dct kf (w.map λp=>tD p.1) ts) Y:=.dct h1 #[ep,w,rfl,rfl,rfl,d4,d5] h2 h3 h4 h5
    refine k _ _ Y (λb u e _=>sm b u e) (λb e=>bB b e) (r0.mono (.refl _) λb hb=>#[uA λz=>(r0.dom b hb).1 (by rw[z];exact X),(r0.dom b hb).2]) (λb hb=>.inl hb) q
   rw[e]at vf;rw[vf]at eu;cases eu;rcases h with⟨n,e,q⟩| ⟨e,q2⟩
   ·have hn:=aC e
    rw[e]at vf;have:n<w.length:=by have:=(Qf.mp hn).1;simpa using this
    rw[vf]at en;have en:(w.map (·.2.2))[n]?=none:=en;rw[List.getElem?_eq_none_iff,QC]at en;omega
   have ep2:sM w q c (.ref p)=w++[(q,c,.ref p)]:=by unfold sM;rw[en];rfl
   rw[ep2];have np:¬ S' p:=λz=>(h3.dom p z).1 X;have g0:Tr K F (CA H p (.dT 0 [])) kf (.ref p) (.dct kf [] []) λb=>b=p :=
    .dct (S':=λ_=>False) (vs:=[]) iA #[0,[],rfl,rfl,rfl,λ_ z=>(nomatch z),Qx] fp (.nil λ_ z=>z) (λz=>z) λb=>by simp
   have g3:Trs K F (CA H p (.dT 0 [])) kf (w.map (·.2.2)) ts S':=h3.mono (.refl _) λb hb=>#[uA λz=>np (z▸hb),(h3.dom b hb).2]
   have g1:=Trs.append g3 (Trs.one g0) λb hb z=>np (z▸hb);have dk':mI K F kf (.dT I (w++[(q,c,.ref p)])) ((w.map λp=>tD p.1)++[tD q]) (w.map (·.2.2)++[.ref p]):=by
    refine#[I,_,rfl,by simp,by simp,λx g=>?_,?_];rcases Qe.mp g with g|g
    ·exact d4 x g
    rw[QJ.mp g];exact hq;rw[QR];refine NI d5 λm=>FA.mp e ?_;let#[x,g,ex]:=QN.mp m;exact QN.mpr #[x,g,by rw[ex]]
   refine k _ _ _ (λb u e hb=>?_) (λb e=>bB b (bB b e)) (BL h2 dk' g1 λz=>z.elim h4 ap) (λb hb=>?_) q2;rw[uA λz=>hb (by rw[z];exact ha)];exact sm b u e;rcases hb with hb|hb|hb
   ·exact .inl (hb▸ha)
   exact .inl ((h5 b).mpr (.inr hb));exact .inr hb
end
end
section
variable{K:QA}{Γ:Ev}{Ψ:PEv}
section
variable{p:PX}{F H:Hp}{S:Ft}{ρ:kA}{Z:eB}
noncomputable abbrev R3(K:QA)(Γ:Ev)(Ψ:PEv)(p:PX):Prop:=∀{E:XE}{x:XK}{F H:Hp}{S:Ft}{ρ:kA}{h:St}{Q:TK}{R:VK},Rl K F H S ρ h->AE K F H S ρ E x->(pe Ψ p E).e ρ Q->zB K (NF p) F H S ρ h Q R->(wp K Γ p x).e h H R
theorem DV(f:R3 K Γ Ψ p){E:XE}{w:XK}{σ:St}{Q:Bool->kA->Prop}{R:Bool->Hp->Prop}(I:Rl K F H S ρ σ)(X:AE K F H S ρ E w)(h:(pe Ψ p E).e ρ λt _ y=>sI t.er λb=>Q b y)(k:KJ K F H S ρ σ Q R) :
  (wp K Γ p w).e σ H λx i=>fH K x i R :=
 f I X h λv l j g z t n Z s u r q=>kY (r.tr.rep u.fh) q λc a=>k c l j g z s u a
theorem PSnd.of_e(w:∀E ρ Q,(pe Ψ p E).t ρ Q=(pe Ψ p E).e ρ λt _ y=>sI t.er λb=>Q b y)(z:∀v σ H R,(wp K Γ p v).t σ H R=(wp K Γ p v).e σ H λx g=>fH K x g R)(f:∀E,(pe Ψ p E).a=SD.a)(u:R3 K Γ Ψ p):PSnd K Γ Ψ p where
 e:=u
 t:=λI X h k=>by rw[w]at h;rw[z];exact DV u I X h k
 a:=λI X _ h k=>by rw[f]at h;exact h.elim
theorem PSnd.of_0(x:∀E,(pe Ψ p E).t=SD.t)(z:∀E,(pe Ψ p E).a=SD.a)(y:R3 K Γ Ψ p):PSnd K Γ Ψ p where
 e:=y
 t:=λI X h k=>by rw[x]at h;exact h.elim
 a:=λI X _ h k=>by rw[z]at h;exact h.elim
theorem PSnd.of_t(l:∀E ρ Q,(pe Ψ p E).e ρ Q=(pe Ψ p E).t ρ λb u=>Q (.d (.bool b)) kd u)(v:∀z σ H R,(wp K Γ p z).t σ H R=(wp K Γ p z).e σ H λx n=>p9 x n R)(m:∀E,(pe Ψ p E).a=SD.a)
  (f:∀{E:XE}{z:XK}{F H:Hp}{S:Ft}{ρ:kA}{σ:St}{Q:Bool->kA->Prop}{R:VK},Rl K F H S ρ σ->AE K F H S ρ E z->(pe Ψ p E).t ρ Q->KJ K F H S ρ σ Q (λb=>R (.bl b))->(wp K Γ p z).e σ H R):PSnd K Γ Ψ p where
 e:=λI X h k=>by rw[l]at h;exact f I X h λb j i g y s w q=>zB.d k s w (.bl b) q
 t:=λI X h k=>by rw[v];exact f I X h λb j i g y s w q=>k b j i g y s w q
 a:=λI X _ h k=>by rw[m]at h;exact h.elim
theorem Ve(i:Nat):R3 K Γ Ψ (.var i):=by
 intro E a F H S ρ y Q R I X h k;have x:Mi ρ[i]? λt=>Q t kd ρ:=h;show(match y[i]? with|some (kx v)=>R v H|_=>False);have key:∀s,ρ[i]?=kx (kx s)->Q s.t kd ρ->(match y[i]? with|some (kx v)=>R v H|_=>False):=λs e q=>by let#[v,w,u]:=I.sl i _ e;rw[w];exact k v F H S ρ s.t kd (S i) .refl I #[u.weak,λz=>(by cases z),λ_ b hb=>#[i,s,QJ.mpr rfl,e,hb],λz=>(by cases z)] q
 unfold Mi at x;split at x;rename_i e;exact key _ e x;rename_i e;exact key _ e x;exact x.elim;exact x.elim
theorem vk{m:Mt}{v:V}{s:T}(h:isMut m=kf)(x:RI m s=kf)(r:Tr K F H kf v s Z):yY K m.ty v H:=by
 unfold RI at x;split at x;cases r with
 |lst y _ _ _ _ =>
  refine .inl #[?_,_,RC.of y];cases m with|append=>rfl|pop=>rfl|extend=>rfl|_=>cases x
 cases x
theorem Uv{m:Mt}{o g:PX}(io:PSnd K Γ Ψ o)(ia:PSnd K Γ Ψ g):R3 K Γ Ψ (.mt m o g):=by
 intro E EK F H S ρ L Q R I X h k;show(wp K Γ o EK).e L H λx J=>yY K m.ty x J/\(wp K Γ g EK).a L J λA l=>Fc K m x A l R;cases hm:isMut m with
 |false =>
  have h:(pe Ψ o E).e ρ λx n M=>dR m (nA x n).vw=kf/\sq (nA x n) M ((pe Ψ g E).a []) λf y=>gn m (nA x n).vw (vC f) λz k=>Q z k y:=by have C:(if isMut m=kf then _ else _):=h;rw[hm,th (by simp)]at C;exact C
  refine Jo (P1:=λx n=>dR m (nA x n).vw=kf) (R1:=λv J=>yY K m.ty v J) (RR:=λv A l=>Fc K m v A l R) io ia I X h (λv F' H' x n Za r p=>uq r p) λv A F' H' S' ρ' x n f Za Y s I' X' r _ tn q=>?_;rw[DJ _ rfl]at q;exact ck s I' r tn q k
 |true =>
  have h:Re (D5 o) λj=>xC ρ[j]? λt=>RI m t=kf/\(pe Ψ g E).a [] (ρ.set j (kx (.bor t))) λf y=>GE f=kf/\y[j]?=kx (kx (.bor t))/\zL m t (HF f) λr s'=>Q r kf (y.set j (kx (.own s'))):=by have C:(if isMut m=kf then _ else _):=h;rw[hm,tt rfl]at C;exact C
  cases o with
  |var j =>
   have h:xC ρ[j]? _:=h;unfold xC at h;split at h;rename_i t u;let#[ht,q1]:=h;let#[v0,hv,B]:=I.sl j _ u;have IL:=I.lock1 u;have n0:=I.lock1U u;have B:Tr K F H kf v0 t (S j):=B;have XL:=X.lock1 u;show(match L[j]? with|some (kx v)=>_|_=>False);rw[hv];refine#[vk hm ht B,?_];refine ia.a (md:=[]) IL XL (λj u=>by cases g<;>cases u) q1 λA F2 l S2 y f W Y N I2 G _ P=>?_;let#[he,hj2,P]:=P;have r2:Tr K F2 l kf v0 t (S j):=N.toStp.keep B n0;have hw:=G.held;have trs:=G.av.trs Ij he;have wS:∀b,S j b->¬ W b:=λb hb hb2=>by rcases G.fr b hb2 with q|q;exact(B.dom b hb).1 q;exact n0 b hb q
   refine Uc I2.fh r2 trs wS P λw r s' H3 S3 Zr hh dm O rr dz hf q=>?_;let#[st,I3,nw]:=iE I u hv N I2 hh dm O (λb hb=>hf b (.inl hb)) hw G.fr;have zr:∀b,Zr b->S j b∨W b∨l b=none:=λb hb=>hf b (.inr hb);refine k w F2 H3 _ _ r kf Zr st I3 #[rr,λ_ b hb=>?_,λz=>(by cases z),λ_ i sl e b hb z=>?_] q;rcases zr b hb with q|q|q
   ·exact .inr #[j,t,u,q]
   exact(G.fr b q).imp id (lock1U u);exact .inl (N.dm b q);rcases gA e with⟨rfl,_,_⟩| ⟨n,e⟩
   ·rw[AA]at z
    exact dz b hb z
   rw[KA (Q8 n)]at z;exact nw b (zr b hb) i sl (Q8 n) e z
   all_goals exact h.elim
  |_=>exact h.elim
theorem zB.dct{ws:LN}{F H x y:Hp}{S S1:Ft}{ρ h:kA}{σ:St}{Q:TK}{R:VK}(k:zB K ws F H S ρ σ Q R)(s:Ste F H S ρ x y S1 h)(I:Rl K x y S1 h σ){p:ko}(g:H p=kv)(m:x p=kv)(j:Held x y S1 h λb=>b=p){o:HO}{b:Bool}{ks:List D}{vs:LV}{ts:LT}{W:eB}(B:mI K x b o ks vs)(r:Trs K x y kf vs ts W)
  (fr:∀b,W b->H b=kv∨U ρ S b) (f:Held x y S1 h W) (a:¬ W p) (q:Q (.dct b ks ts) kf h):R (.ref p) (CA y p o):=by
 have Y:∀b u,H b=kx u->b≠p:=λb u e=>sA e g;have X:Ste F H S ρ x (CA y p o) S1 h:=#[#[s.ff,λb u e n=>by rw[uA (Y b u e)];exact s.hh b u e n,λb e=>s.dm b (bB b e),s.fn,s.uu,s.bo],s.ow]
 have C:Rl K x (CA y p o) S1 h σ:=#[λb u e=>by rw[uA λz=>by rw[z,m]at e;cases e];exact I.fh b u e,I.len,λi w e=>by let#[v,A,l]:=I.sl i w e;exact#[v,A,l.mono (.refl _) λb hb=>#[uA λz=>j.nw i w e b z hb,(l.dom b hb).2]],I.dj]
 refine k _ x _ S1 h _ kf (λb=>b=p∨W b) X C #[.dct iA B m (r.mono (.refl _) λb hb=>#[uA λz=>a (z▸hb),(f.dom b hb).2]) a (λb=>wy),λ_ b hb=>?_,λz=>(by cases z),λ_ i w e b hb z=>?_] q;rcases hb with hb|hb
 ·exact .inl (hb▸g)
 exact fr b hb;rcases hb with hb|hb
 ·exact j.nw i w e b hb z
 exact f.nw i w e b hb z
theorem VR.strict{u y:Hp}{S1:Ft}{h:kA}{ws:LN}{v:V}{t:T}{n:Bool}(r:VR K ws H S ρ u y S1 h v t n Z)(e:OF t n=kf):∃W,Tr K u y kf v t W/\Held u y S1 h W/\∀b,W b->H b=kv∨U ρ S b:=by
 cases n with
 |true=>exact#[Z,r.tr,r.held,r.fr rfl]|false =>
  have w:=r.tr;cases t with
  |d x=>cases w with|d q _=>exact#[λ_=>False,.d q λ_ z=>z,.none,λ_ z=>z.elim]
  |_=>cases e
theorem fU{σ:St}(I:Rl K F H S ρ σ){p:ko}(h:H p=kv)(o:HO):Held F (CA H p o) S ρ λb=>b=p :=
 #[λb hb=>#[by rw[hb,iA];simp,by rw[hb];exact I.fh.free h],λi x e b hb z=>(I.dom e z).1 (by rw[hb];exact h)]
end
section
variable{F H:Hp}
theorem nS:∀{xs:List (T×Bool)},FN xs=kf->∀t∈rO xs,t.isD=kf
 |[],_,t,h=>by simp[rO]at h|p::r,h,t,y=>by
  simp only[FN,Qg]at h;simp only[rO,QL]at y;rcases y with rfl|y;let#[x,n]:=p;cases n with
  |true=>rfl|false =>
   have z:=h.1;cases x with|d x=>rfl|_=>cases z
  exact nS h.2 t y
theorem Tn.bare{Y:eB}{vs:LV}{ts:LT}(h:Tn K F H Y vs ts):(∀t∈ts,t.isD=kf)->Tn K F H (λ_=>False) vs ts:=by
 induction h with
 |nil=>exact λ_=>.nil|@cons v t vs ts Z r z a w =>
  intro y;refine .cons (Z:=λ_=>False) ?_ (λ_ z=>z) (w λu k=>y u (QG _ k));have y:=y t QF;cases t with
  |d x=>cases r with|d q _=>exact .d q λ_ z=>z
  |_=>cases y
end
theorem DA(g:GOk K Γ Ψ):∀(p:PX),PSnd K Γ Ψ p
 | .var i=>#[Ve i,λI X h k=>DV (Γ:=Γ) (Ψ:=Ψ) (Ve i) I X h k,λI X _ h k=>h.elim]|.int i=>#[λI X h k=>zB.d k .refl I (.int i) h,λI X h k=>k _ _ _ _ _ .refl I h,λI X _ h k=>h.elim]|.str x=>#[λI X h k=>zB.d k .refl I (.str x) h,λI X h k=>h.elim,λI X _ h k=>h.elim]|.bl b=>#[λI X h k=>zB.d k .refl I (.bl b) h,λI X h k=>k _ _ _ _ _ .refl I h,λI X _ h k=>h.elim]|.non=>#[λI X h k=>zB.d k .refl I .non h,λI X h k=>k _ _ _ _ _ .refl I h,λI X _ h k=>h.elim]|.glo x=>.of_e (λ_ _ _=>rfl) (λ_ _ _ _=>rfl) (λ_=>rfl) λ{E N F H S C J Q R} I X h k=>by have h:(match Ψ.va x with|some d=>Q (.d d) kd C|none=>False):=h;split at h;rename_i d e;exact zB.d k .refl I (g.va x d e F) h;exact h.elim
 | .bin op a b=>.of_e (λ_ _ _=>rfl) (λ_ _ _ _=>rfl) (λ_=>rfl) λ{E N F H S C J Q R} I X h k =>
  M4 (P:=λx n y m M=>binT op (nA x n).vw (nA y m).vw λz k=>Q z k M) (RR:=λx y H2=>ue K op x y H2 R) (DA g a) (DA g b) I X h λv w F' H' S' B x n y m Za Zb s G X' ra _ rb q=>jm s G ra rb q k
 | .cmp op a b=>.of_t (λ_ _ _=>rfl) (λ_ _ _ _=>rfl) (λ_=>rfl) λ{E N F H S C J Q R} I X h k =>
  M4 (P:=λx n y m M=>Nd op x.er (nA y m) λk=>Q k M) (RR:=λx y H2=>E8 K op x y H2 R) (DA g a) (DA g b) I X h λv w F' H' S' B x n y m Za Zb s G X' ra _ rb q =>
   Ld G.fh (by have:=ra.rep G.fh;rwa [cZ]at this) rb q λc qc=>k c F' H' S' B s G qc
 | .and a b=>#[λ{E N F H S C J Q R} I X h k=>by
   refine(DA g a).e (Q:=λx _ A=>am x.er λc=>if c=kf then(pe Ψ b E).e A Q else Q (.d (.bool kd)) kd A) (R:=λx L=>p9 x L λc H2=>if c=kf then(wp K Γ b N).e J H2 R else R (.bl kd) H2) I X h λv F' H' S' B x n Z s G r q=>?_;refine n9 (r.tr.rep G.fh) q λc qc=>?_;cases c with|false=>exact zB.d k s G (.bl kd) qc|true=>exact(DA g b).e G (X.from s.toStp) qc ((k.from s).vars λi hi=>QW _ hi),
  λ{E N F H S C J Q R} I X h k=>by
   refine(DA g a).t (Q:=λc A=>if c=kf then(pe Ψ b E).t A Q else Q kd A) (R:=λc L=>if c=kf then(wp K Γ b N).t J L R else R kd L) I X h λc F' H' S' B s G qc=>?_;cases c with|false=>exact k _ F' H' S' B s G qc|true=>exact(DA g b).t G (X.from s.toStp) qc (KJ.from k s),λI X _ h k=>h.elim]
 | .or a b=>#[λ{E N F H S C J Q R} I X h k=>by
   refine(DA g a).e (Q:=λx _ A=>am x.er λc=>if c=kf then Q (.d (.bool kf)) kd A else(pe Ψ b E).e A Q) (R:=λx L=>p9 x L λc H2=>if c=kf then R (.bl kf) H2 else(wp K Γ b N).e J H2 R) I X h λv F' H' S' B x n Z s G r q=>?_;refine n9 (r.tr.rep G.fh) q λc qc=>?_;cases c with|true=>exact zB.d k s G (.bl kf) qc|false=>exact(DA g b).e G (X.from s.toStp) qc ((k.from s).vars λi hi=>QW _ hi),
  λ{E N F H S C J Q R} I X h k=>by
   refine(DA g a).t (Q:=λc A=>if c=kf then Q kf A else(pe Ψ b E).t A Q) (R:=λc L=>if c=kf then R kf L else(wp K Γ b N).t J L R) I X h λc F' H' S' B s G qc=>?_;cases c with|true=>exact k _ F' H' S' B s G qc|false=>exact(DA g b).t G (X.from s.toStp) qc (KJ.from k s),λI X _ h k=>h.elim]
 | .not a=>#[λ{E N F H S C J Q R} I X h k=>by
   refine(DA g a).e (Q:=λx _ A=>sI x.er λc=>Q (.d (.bool (!c))) kd A) (R:=λx L=>fH K x L λc H2=>R (.bl (!c)) H2) I X h λv F' H' S' B x n Z s G r q=>?_;exact kY (r.tr.rep G.fh) q λc qc=>zB.d k s G (.bl _) qc,
  λ{E N F H S C J Q R} I X h k=>(DA g a).t (Q:=λc A=>Q (!c) A) (R:=λc L=>R (!c) L) I X h λc F' H' S' B s G qc=>k _ F' H' S' B s G qc,λI X _ h k=>h.elim]
 | .ife c a b=>.of_0 (λ_=>rfl) (λ_=>rfl) λ{E N F H S C J Q R} I X h k=>by
  refine(DA g c).t (Q:=λk A=>if k=kf then(pe Ψ a E).e A Q else(pe Ψ b E).e A Q) (R:=λk L=>if k=kf then(wp K Γ a N).e J L R else(wp K Γ b N).e J L R) I X h λc F' H' S' B s G qc=>?_;cases c with|true=>exact(DA g a).e G (X.from s.toStp) qc ((k.from s).vars λi hi=>Ql _ hi)|false=>exact(DA g b).e G (X.from s.toStp) qc ((k.from s).vars λi hi=>QW _ hi)
 | .call f as=>.of_e (λ_ _ _=>rfl) (λ_ _ _ _=>rfl) (λ_=>rfl) λ{E N F H S C J Q R} I X h k=>je g (DA g as) I X h k|.bi f as=>.of_e (λ_ _ _=>rfl) (λ_ _ _ _=>rfl) (λ_=>rfl) λ{E N F H S C J Q R} I X h k =>
  dS (P:=λxs A=>z4 f (vC xs) λz k=>Q z k A) (RR:=λvs L=>Dr K f vs L R) (DA g as) I X h λvs F' H' S' B xs Y s G X' tn _ q=>by rw[DJ _ rfl]at q;exact lm s G tn q k
 | .mt m o as=>.of_e (λ_ _ _=>rfl) (λ_ _ _ _=>rfl) (λ_=>rfl) (Uv (DA g o) (DA g as))|.idx a b=>by
  have he:R3 K Γ Ψ (.idx a b):=λ{E N F H S C J Q R} I X h k =>
   M4 (P:=λx n y m M=>(pO (nA x n).vw (nA y m).vw λz=>Q z kd M)∨(iU (nA x n).vw y.er λz=>Q z kd M)) (RR:=λx y H2=>kW K x y H2 R) (DA g a) (DA g b) I X h λv w F' H' S' B x n y m Za Zb s G X' ra za rb q=>by rcases q with q|q;exact Pk s G ra za rb q k;exact Bl s G ra za (by have:=rb.rep G.fh;rwa [cZ]at this) q k
  exact#[he,λI X h k=>DV he I X h k,λI X _ h k=>h.elim]
 | .slc a lo hi=>.of_0 (λ_=>rfl) (λ_=>rfl) λ{E N F H S C J Q R} I X h k=>by
  have part:∀(p:PX),PSnd K Γ Ψ p->∀{F H:Hp}{S:Ft}{C:kA}{x:T}{P:Option Int->kA->Prop}{RP:Option Int->Hp->Prop},Rl K F H S C J->AE K F H S C E N ->
    sq (α:=Option Int) x C (if isNop p=kf then λC (R:Option Int->kA->Prop)=>R kv C else λC R=>(pe Ψ p E).e C λl _ M=>uG l.er λo=>R o M) P ->
    (∀o F' H' S' B,Ste F H S C F' H' S' B->Rl K F' H' S' B J->(∀st v Zx,Tr K F H st v x Zx->Tr K F' H' st v x Zx)->P o B->RP o H') ->
    (if isNop p=kf then λ(R:Option Int->Hp->Prop)=>R kv H else λR=>(wp K Γ p N).e J H λl H2=>GM l H2 R) RP:=by
   intro p ip F H S C x P RP I X h k;cases hn:isNop p with
   |true=>simp only[hn,if_true]at h ⊢;refine k kv F H S C .refl I (λ_ _ _ r=>r) ?_;unfold sq at h;split at h<;>exact h|false =>
    simp only[hn,Qr,if_false]at h ⊢;have h2:sq x C (cu (pe Ψ p E).e) λy B=>uG y.1.er λo=>P o B:=by unfold sq at h ⊢;exact h
    refine Mo ip I X h2 λw F' H' S' B y m Z s G kp _ r q=>Xb (r.tr.rep G.fh) q λo qo=>k o F' H' S' B s G kp qo
  refine ND (DA g a) I X h λv F1 L S1 A x n Za s1 I1 X1 r1 _ z1 h1=>?_;refine part lo (DA g lo) I1 X1 h1 λl F2 H2 S2 M s2 I2 k2 h2=>?_;refine part hi (DA g hi) I2 (X1.from s2.toStp) h2 λu F3 H3 S3 ρ3 s3 I3 k3 h3=>?_;exact si (s1.trans (s2.trans s3)) I3 (k3 _ _ _ (k2 _ _ _ r1)) h3 k
 | .nop=>#[λI X h k=>h.elim,λI X h k=>h.elim,λI X _ h k=>h.elim]|.lst as=>.of_0 (λ_=>rfl) (λ_=>rfl) λ{E N F H S C J Q R} I X h k=>by refine(DA g as).a (md:=[]) (R:=λxs L=>xs.9<=kb/\∀p,L p=kv->R (.ref p) (CA L p (.lst xs))) I X (λj hj=>by cases as<;>cases hj) h λvs F' H' S' B xs W Y s G r _ q=>?_;exact#[by rw[r.av.9];exact q.2.1,λp hp=>zB.list k s G hp (r.av.trs Ij q.1) r.fr r.held q.2.2]|.tup as=>.of_0 (λ_=>rfl) (λ_=>rfl) λ{E N F H S C J Q R} I X h k=>by refine(DA g as).a (md:=[]) (R:=λxs L=>xs.9<=kb/\∀p,L p=kv->R (.ref p) (CA L p (.tup xs))) I X (λj hj=>by cases as<;>cases hj) h λvs F' H' S' B xs W Y s G r _ q=>?_;exact#[by rw[r.av.9];exact q.2.1,λp hp=>zB.tup k s G hp (r.av.trs Ij q.1) r.fr r.held q.2.2]|.comp mask tgs tg ik its cond elt=>.of_0 (λ_=>rfl) (λ_=>rfl) λ{E N F H S C J Q R} I X h k=>by
  refine dS (RR:=λvs L=>rC K ik vs L λxs st H2=>yQ K xs st tg (if isNop cond=kf then λ_ H Q=>Q kf H else(wp K Γ cond (λ_ _ _=>False)).t) (wp K Γ elt (λ_ _ _=>False)).e (HE tgs.9 mask J) H2 R) (DA g its) I X h λvs F1 L S1 A xs Y s1 I1 X1 tn tm q1=>?_;rw[DJ _ rfl]at q1;refine zH I1.fh tn q1 λxs ys st pr hst hc=>?_;refine R8 (us:=NF elt) ?_ ?_ s1 I1 pr (λb hb=>?_) hst hc k;intro F H S C J Q R I h k;cases hn:isNop cond with|true=>simp only[hn,if_true]at h ⊢;exact k kf F H S C .refl I h|false=>simp only[hn,Qr,if_false]at h ⊢;exact(DA g cond).t I AE.never h k
  intro F H S C J Q R I h k;exact(DA g elt).e I AE.never h k;let#[i,sl,_,h2,h3]:=tm b hb;exact I1.dom h2 h3
 | .ng i=>.of_0 (λ_=>rfl) (λ_=>rfl) λI X h k=>zB.d k .refl I (.int _) h|.dnew b=>.of_0 (λ_=>rfl) (λ_=>rfl) λ{E N F H S C J Q R} I X h k=>by
  intro p hp;have hh:=fU I hp (.dT 0 []);have e:=zB.dct (o:=.dT 0 []) (b:=b) (ks:=[]) (vs:=[]) (ts:=[]) (W:=λ_=>False) k (Ste.refl.new hp (.dT 0 [])) (I.new hp _) hp (I.fh.free hp) hh ?_ (.nil λ_ z=>z) (λ_ z=>z.elim) .none (λz=>z) h;rw[ma]at e;exact e;cases b with
  |true=>exact#[0,[],rfl,rfl,rfl,λ_ z=>(nomatch z),Qx]
  |false=>exact .inr #[0,rfl,rfl,rfl]
 | .dsp a b=>.of_0 (λ_=>rfl) (λ_=>rfl) λ{E N F H S C J Q R} I X h k=>by
  intro p hp;have hh:=fU I hp (.dT 0 []);have s0:Ste F H S C F (CA H p (.dT 0 [])) S C:=Ste.refl.new hp _;refine ND (DA g a) (I.new hp _) (X.from s0.toStp) h λy F1 L S1 A x n Z s1 I1 X1 _ er _ #[he,q1]=>?_;have hh1:=hh.step s1.toStp I1;have ry:=er he;refine(DA g b).e I1 X1 q1 λv F2 H2 S2 M t m Zb s2 I2 r2 q2=>?_;have hh2:=hh1.step s2.toStp I2;let#[he2,hk,q2]:=q2;let#[W,rw,hw,frw]:=(r2.from s1.toStp).strict he2;have hp2:H2 p=kx (.dT 0 []):=s2.hh p _ (s1.hh p _ iA (hh.nu p rfl)) (hh1.nu p rfl);have np:¬ W p:=λz=>by rcases frw p z with q|q;rw[iA]at q;cases q;exact hh.nu p rfl q
  have ry2:=ry.mono s2.ff;refine#[hp2,?_];generalize x.er=d at hk ry2 q2;cases oR hk ry2 with|intro ks hh=>let#[c,rfl,rfl,hq]:=hh;refine#[c,ks,rfl,I2.fh.key hq,λep=>?_];exact zB.dct (o:=.dT ep [(ks,c,v)]) (b:=kf) (vs:=[v]) (ts:=[t]) k (s0.trans (s1.trans s2)) I2 hp (hh2.dom p rfl).2 hh2 #[ep,_,rfl,rfl,rfl,λz hz=>by rw[QJ.mp hz];exact hq,by simp] (Trs.one rw) (λb hb=>by rcases frw b hb with q|q;exact .inl (bB b q);exact .inr q) hw np q2
 | .eff p=>by
  cases p with|comp mask tgs tg ik its cond elt=>refine .of_0 (λ_=>rfl) (λ_=>rfl) λ{E N F H S C J Q R} I X h k=>?_;let#[#[hc,ht],h]:=h;refine dS (RR:=λvs L=>rC K ik vs L λxs st H2=>yQ K xs st tg (if isNop cond=kf then λ_ H Q=>Q kf H else(wp K Γ cond (λ_ _ _=>False)).t) (wp K Γ elt (λ_ _ _=>False)).e (HE tgs.9 mask J) H2 R) (DA g its) I X h λvs F1 L S1 A xs Y s1 I1 X1 tn tm q1=>?_;let#[ha,q1]:=q1;rw[DJ _ rfl]at q1;have tn':=tn.bare (nS ha);refine zH I1.fh tn' q1 λxs ys st pr hst hc'=>?_;rw[tt hc];refine S8 (us:=NF elt) (λj hj=>by simpa using qH.mp ht j hj) ?_ s1 I1 pr (λF' H' e1 e2=>hst F' H' e1 e2 λb z=>z.elim) hc' k;intro F H S C J Q R I h k;exact(DA g elt).e I AE.never h k|_=>exact#[λI X h k=>h.elim,λI X h k=>h.elim,λI X _ h k=>h.elim]
 | .anil=>#[λI X h k=>h.elim,λI X h k=>h.elim,λ{E N F H S C J md Q R} I X _ h k=>k [] F H S C [] (λ_=>False) (λ_=>False) .refl I #[.nil λ_ z=>z,λ_ z=>z.elim,λ_ z=>z.elim,λ_ _ _ _ z=>z.elim] (by cases md with|nil=>rfl|cons m r=>cases m<;>rfl) h]
 | .acons a as=>#[λI X h k=>h.elim,λI X h k=>h.elim,λ{E N F H S C J md Q R} I X hm h k=>by
  show(wp K Γ a N).e J H λx L=>(wp K Γ as N).a J L λxs H2=>R (x::xs) H2;have vr2:∀i∈NF as,i∈NF (.acons a as):=λi hi=>QW _ hi;cases O:(md.headD .fro).isMut with
  |true =>
   have h2:f8 a=kf/\(pe Ψ as E).a md.tail C λxs A=>Q ((.d .none,kf)::xs) A:=by have h3:(if(md.headD .fro).isMut=kf then _ else _):=h;rw[O,tt rfl]at h3;exact h3
   obtain⟨m,md',rfl⟩:∃m md',md=m::md':=by
    cases md with|nil=>cases O|cons m md'=>exact#[m,md',rfl]
   have em:m=.chg:=by have O:m.isMut=true:=O;cases m<;>first|rfl|cases O
   subst em;cases a with
   |var j=>let#[v,hv]:=hm j (show j∈j::vA md' as from QF);show(match J[j]? with|some (kx v)=>_|_=>False);rw[hv];refine(DA g as).a I X (λi hi=>hm i (QG _ hi)) h2.2 λvs F' H' S' B xs W Y s G r mv q=>?_;refine k (v::vs) F' H' S' B _ W Y s G #[.chg O r.av,r.fr,(r.vars vr2).tm,r.nw] ?_ q;show(kx (kx v))::(aB md' vs).map _=J[j]?::(vA md' as).map _;have mv:(aB md' vs).map (λv=>kx (kx v))=(vA md' as).map (λj=>J[j]?):=mv;rw[hv,mv]
   |_=>exact ti h2.1 (by simp[f8])
  |false =>
   have h2:(pe Ψ a E).e C λx n A=>sq (α:=List (T×Bool)) (if n=kf then .d .none else x) A ((pe Ψ as E).a md.tail) λxs M=>Q ((x,n)::xs) M:=by have h3:(if(md.headD .fro).isMut=kf then _ else _):=h;rw[O,th (by simp)]at h3;exact h3
   have hroots:vA md (.acons a as)=vA md.tail as:=by
    cases md with|nil=>cases as<;>rfl|cons m md'=>have O:m.isMut=false:=O;cases m<;>first|rfl|cases O
   have hmv:∀v vs,aB md (v::vs)=aB md.tail vs:=λv vs=>by unfold aB;generalize md.headD .fro=m at O;cases m<;>first | (cases vs<;>rfl)|cases O
   refine(DA g a).e I X h2 λv F1 L S1 A x n Z s1 I1 r1 q1=>?_;refine No (DA g as) I1 (X.from s1.toStp) (λi hi=>hm i (by rw[hroots];exact hi)) q1 λvs F2 H2 S2 M xs W Y s2 I2 kp hs r2 mv q2=>?_;have s12:=s1.trans s2;have r2':=(r2.from s1.toStp).vars vr2;have mv':(aB md (v::vs)).map (λv=>kx (kx v))=(vA md (.acons a as)).map (λj=>J[j]?):=by rw[hroots,hmv];exact mv
   cases n with
   |true =>
    have hd:=r1.held;have hd2:=hd.step s2.toStp I2;refine k (v::vs) F2 H2 S2 M _ (λb=>Z b∨W b) Y s12 I2 #[.new O (s2.toStp.keep r1.tr hd.nu) r2.av (λb hb hw=>?_) λb=>wy,λb hb=>?_,r2'.tm,λi sl e b hb=>?_] mv' q2;rcases r2.fr b hw with q|q
    ·exact(hd.dom b hb).1 q
    exact hd.nu b hb q;rcases hb with hb|hb
    ·exact r1.fr rfl b hb
    exact r2'.fr b hb;rcases hb with hb|hb
    ·exact hd2.nw i sl e b hb
    exact r2.nw i sl e b hb
   |false =>
    have za:∀b,Z b->∃(i:Nat) (s:Sl),i∈NF a/\M[i]?=kx (kx s)/\S2 i b:=by
     cases hd:x.isD with
     |true =>
      intro b hb;exfalso;have tr:=r1.tr;cases x with
      |d x=>cases tr with|d r n=>exact n b hb
      |_=>cases hd
     |false=>let#[e1,e2]:=hs hd;rw[e1,e2];exact r1.tm rfl
    refine k (v::vs) F2 H2 S2 M _ W (λb=>Z b∨Y b) s12 I2 #[.tmp O (kp _ _ _ r1.tr) (λb hb=>.inl hb) (r2.av.sub λb hb=>.inr hb),r2'.fr,λb hb=>?_,r2.nw] mv' q2;rcases hb with hb|hb;let#[i,sl,h1,h2]:=za b hb;exact#[i,sl,Ql _ h1,h2];exact r2'.tm b hb]
end
structure Sts(C J:LN)(F H:Hp)(S:Ft)(ρ:kA)(σ:St)(F' H':Hp)(S':Ft)(ρ':kA)(σ':St):Prop where
 ff:Same F F'
 hh:∀b u,H b=kx u->¬ U ρ S b->H' b=kx u
 dm:∀b,H' b=kv->H b=kv
 fn:∀b,F b=kv->F' b≠kv->U ρ S b∨H b=kv
 uu:∀b,U ρ' S' b->U ρ S b∨H b=kv
 bo:∀(j:Nat) t,j∉J->ρ'[j]?=kx (kx (.bor t))->t.isD=kd->ρ[j]?=kx (kx (.bor t))/\S' j=S j/\σ'[j]?=σ[j]?
 sg:∀j∈C,σ'[j]?=σ[j]?
structure Stc(C:LN)(F H:Hp)(S:Ft)(ρ:kA)(σ:St)(F' H':Hp)(S':Ft)(ρ':kA)(σ':St):Prop where
 ff:Same F F'
 hh:∀b u,H b=kx u->¬ U ρ S b->H' b=kx u
 dm:∀b,H' b=kv->H b=kv
 fn:∀b,F b=kv->F' b≠kv->U ρ S b∨H b=kv
 uu:∀b,U ρ' S' b->U ρ S b∨H b=kv
 sg:∀j∈C,σ'[j]?=σ[j]?
section
variable{K:QA}{Γ:Ev}{Ψ:PEv}{E:XE}{M:XK}{F H p X B L:Hp}{S S1 G:Ft}{ρ y Y:kA}{σ g A:St}{C J:LN}
section
variable{t:T}{Z:eB}{i:Nat}
theorem Stp.sts(s:Stp F H S ρ p X S1 y):Sts C J F H S ρ σ p X S1 y σ:=#[s.ff,s.hh,s.dm,s.fn,s.uu,λj t _ e h=>let#[z,x]:=s.bo j t e h;#[z,x,rfl],λ_ _=>rfl]
theorem Sts.refl:Sts C J F H S ρ σ F H S ρ σ:=Stp.refl.sts
theorem Sts.trans(a:Sts C J F H S ρ σ p X S1 y g)(b:Sts C [] p X S1 y g B L G Y A):Sts C J F H S ρ σ B L G Y A where
 ff:=a.ff.trans b.ff
 hh:=λx u h n=>b.hh x u (a.hh x u h n) λz=>by rcases a.uu x z with q|q;exact n q;rw[q]at h;cases h
 dm:=λx h=>a.dm x (b.dm x h)
 fn:=λx h z=>by
  by_cases q:p x=kv;rcases b.fn x q z with w|w
  ·exact a.uu x w
  exact .inr (a.dm x w);exact a.fn x h q
 uu:=λx h=>by rcases b.uu x h with w|w;exact a.uu x w;exact .inr (a.dm x w)
 bo:=λj t v h n=>by let#[o,m,l]:=b.bo j t (by simp) h n;let#[f,e,k]:=a.bo j t v o n;exact#[f,m.trans e,l.trans k]
 sg:=λj v=>(b.sg j v).trans (a.sg j v)
theorem Sts.c(s:Sts C J F H S ρ σ p X S1 y g):Stc C F H S ρ σ p X S1 y g:=#[s.ff,s.hh,s.dm,s.fn,s.uu,s.sg]
theorem Stc.trans(a:Stc C F H S ρ σ p X S1 y g)(b:Stc C p X S1 y g B L G Y A):Stc C F H S ρ σ B L G Y A where
 ff:=a.ff.trans b.ff
 hh:=λx u h n=>b.hh x u (a.hh x u h n) λz=>by rcases a.uu x z with q|q;exact n q;rw[q]at h;cases h
 dm:=λx h=>a.dm x (b.dm x h)
 fn:=λx h z=>by
  by_cases q:p x=kv;rcases b.fn x q z with w|w
  ·exact a.uu x w
  exact .inr (a.dm x w);exact a.fn x h q
 uu:=λx h=>by rcases b.uu x h with w|w;exact a.uu x w;exact .inr (a.dm x w)
 sg:=λj v=>(b.sg j v).trans (a.sg j v)
theorem AE.fromS(h:AE K F H S ρ E M)(s:Sts C J F H S ρ σ p X S1 y g):AE K p X S1 y E M:=λx k B L G Y v f r q =>
 h x k B L (λ_ _=>False) [] #[s.ff.trans v.ff,λb u e n=>v.hh b u (s.hh b u e n) (λz=>(s.uu b z).elim n λw=>(by rw[w]at e;cases e)),λb e=>s.dm b (v.dm b e),λb e z=>by
  by_cases q:p b=kv;rcases v.fn b q z with w|w
  ·exact s.uu b w
  exact .inr (s.dm b w);exact s.fn b e q,λb #[i,t,e,_]=>by simp at e,λj t e=>by simp at e] f r q
structure EndsOk(K:QA)(C:LN)(F H:Hp)(S:Ft)(ρ:kA)(σ:St)(Z:PEnds)(Dn:Ends):Prop where
 nx:∀F' H' S' ρ' σ',Sts C [] F H S ρ σ F' H' S' ρ' σ'->Rl K F' H' S' ρ' σ'->Z.nx ρ'->Dn.nx σ' H'
 rt:∀v t W F' H' S' ρ' σ',Stc C F H S ρ σ F' H' S' ρ' σ'->Rl K F' H' S' ρ' σ'->Tr K F' H' kf v t W->Held F' H' S' ρ' W->(∀b,W b->H b=kv∨U ρ S b)->Z.rt t ρ'->Dn.rt v H'
 bk:∀F' H' S' ρ' σ',Sts C [] F H S ρ σ F' H' S' ρ' σ'->Rl K F' H' S' ρ' σ'->Z.bk ρ'->Dn.bk σ' H'
 ct:∀F' H' S' ρ' σ',Sts C [] F H S ρ σ F' H' S' ρ' σ'->Rl K F' H' S' ρ' σ'->Z.ct ρ'->Dn.ct σ' H'
theorem cw(s:Sts C J F H S ρ σ p X S1 y g){W:eB}(fr:∀b,W b->X b=kv∨U y S1 b):∀b,W b->H b=kv∨U ρ S b:=λb hb=>by rcases fr b hb with q|q;exact .inl (s.dm b q);exact(s.uu b q).symm
theorem EndsOk.from{Z:PEnds}{b:Ends}(ok:EndsOk K C F H S ρ σ Z b)(s:Sts C [] F H S ρ σ p X S1 y g):EndsOk K C p X S1 y g Z b :=
 #[λa k w z x u I q=>ok.nx a k w z x (s.trans u) I q,λv t W a k w z x u I r h fr q=>ok.rt v t W a k w z x (s.c.trans u) I r h (cw s fr) q,
  λa k w z x u I q=>ok.bk a k w z x (s.trans u) I q,λa k w z x u I q=>ok.ct a k w z x (s.trans u) I q]
theorem Sts.setD(s:Sts C J F H S ρ σ p X S1 y g)(i:Nat)(a:i∉C)(v:V)(k:t.isD=kf)(Z:eB):Sts C J F H S ρ σ p X (GH S1 i Z) (y.set i (kx (.bor t))) (g.set i (kx v)) :=
 #[s.ff,s.hh,s.dm,s.fn,λb #[j,u,z,w]=>by
  rcases gA z with⟨_,e,_⟩| ⟨n,z⟩
  cases e;rw[KA (Q8 n)]at w;exact s.uu b #[j,u,z,w],
 λj u h e x=>by
  rcases gA e with⟨_,e,_⟩| ⟨n,e⟩
  injection e with e;injection e with e;subst e;rw[k]at x;cases x;rw[KA (Q8 n),vE n];exact s.bo j u h e x,
 λj h=>by have n:i≠j:=λe=>a (e▸h);rw[vE n];exact s.sg j h]
theorem Rl.setD(I:Rl K F H S ρ σ)(i:Nat){v:V}{x:D}(r:Rep K F v x):Rl K F H (GH S i λ_=>False) (ρ.set i (bD x)) (σ.set i (kx v)) :=
 I.setB i (.d r λ_ z=>z) λ_ _ _ _ _ z=>z.elim
theorem Rl.setN(I:Rl K F H S ρ σ)(i:Nat){v:V}(r:Tr K F H kf v t Z)(w:∀(j:Nat) s,j≠i->ρ[j]?=kx (kx s)->∀b,Z b->¬ S j b):Rl K F H (GH S i Z) (ρ.set i (kx (.own t))) (σ.set i (kx v)) where
 fh:=I.fh
 len:=by simpa using I.len
 sl:=λj s h=>by
  rcases gA h with⟨rfl,e,hl⟩| ⟨a,h⟩
  cases e;exact#[v,fY (by rw[<- I.len];exact hl),by rw[AA];exact r];rw[vE a,KA (Q8 a)];exact I.sl j s h
 dj:=λj k f s n u x b hb hk=>by
  rcases gA u with⟨e,_,_⟩| ⟨l,u⟩
  subst e;rw[AA]at hb;rcases gA x with⟨e,_,_⟩| ⟨z,x⟩
  exact n e;rw[KA (Q8 z)]at hk;exact w k s (Q8 z) x b hb hk;rw[KA (Q8 l)]at hb;rcases gA x with⟨e,_,_⟩| ⟨z,x⟩
  subst e;rw[AA]at hk;exact w j _ n u b hk hb;rw[KA (Q8 z)]at hk;exact I.dj j k f s n u x b hb hk
theorem Sts.setN(s:Sts C J F H S ρ σ p X S1 y g)(i:Nat)(w:i∉C)(v:V)(t:T)(fr:∀b,Z b->H b=kv∨U ρ S b):Sts C J F H S ρ σ p X (GH S1 i Z) (y.set i (kx (.own t))) (g.set i (kx v)) :=
 #[s.ff,s.hh,s.dm,s.fn,λb #[j,u,z,x]=>by
  rcases gA z with⟨rfl,_,_⟩| ⟨n,z⟩
  rw[AA]at x;exact(fr b x).symm;rw[KA (Q8 n)]at x;exact s.uu b #[j,u,z,x],
 λj u h e k=>by
  rcases gA e with⟨_,e,_⟩| ⟨n,e⟩
  cases e;rw[KA (Q8 n),vE n];exact s.bo j u h e k,
 λj h=>by have n:i≠j:=λe=>w (e▸h);rw[vE n];exact s.sg j h]
theorem AO:∀(u:LN) (ds:List D) {ρ x:kA},iB u (ds.map T.d) ρ=kx x->∀(j:Nat) t,x[j]?=kx (kx (.bor t))->t.isD=kd->j∉u/\ρ[j]?=kx (kx (.bor t))
 |[],[],ρ,x,h,j,t,e,hd=>by simp only[wV,iB,Qj]at h;subst h;exact#[(by simp),e]|[],_::_,_,_,h,_,_,_,_=>by simp[iB]at h|_::_,[],_,_,h,_,_,_,_=>by simp[iB]at h|i::u,d::ds,ρ,x,h,j,t,e,hd=>by
  simp only[QT,iB]at h;let#[w,v]:=AO u ds h j t e hd;rcases gA v with⟨_,q,_⟩| ⟨n,q⟩
  injection q with q;injection q with q;subst q;cases hd;exact#[λm=>(QL.mp m).elim (λz=>n z.symm) w,q]
theorem Rl.frz1(I:Rl K F H S ρ σ)(h:ρ[i]?=kx (kx (.own t))):Rl K (xJ F H (S i)) H (GH S i λ_=>False) (ρ.set i (bD t.er)) σ/\Sts C [] F H S ρ σ (xJ F H (S i)) H (GH S i λ_=>False) (ρ.set i (bD t.er)) σ:=by
 let#[v,hv,r]:=I.sl i _ h;have k:=vH (H:=H) λb (hb:S i b)=>(r.dom b hb).2;have O:Rl K F H S (ρ.set i kv) σ:=I.drop (by simp) λj s e=>by
  rcases gA e with⟨_,z,_⟩| ⟨_,e⟩
  cases z;exact e
 have l:Held F H S (ρ.set i kv) (S i):=#[r.dom,λj s e b hb z=>by
  rcases gA e with⟨_,q,_⟩| ⟨n,e⟩
  cases q;exact I.dj i j t s n h e b hb z]
 have N:=O.frz l;have f:Rep K (xJ F H (S i)) v t.er:=Tr.kept k r λb u hb e=>by rw[vJ hb];exact e
 have a:=N.setD i f;have W:(ρ.set i kv).set i (bD t.er)=ρ.set i (bD t.er):=by simp
 have o:σ.set i (kx v)=σ:=by apply qO;intro j;rw[qW];split;rename_i e;subst e;split;exact hv.symm;rename_i n;rw[Qz ()];rfl
 rw[W,o]at a;refine#[a,#[k,λb u e _=>e,λb e=>e,λb e z=>.inl ?_,λb #[j,u,x,w]=>.inl ?_,λj u _ e m=>?_,λ_ _=>rfl]];by_cases hb:S i b
 ·exact#[i,t,h,hb]
 rw[sC hb]at z;exact ti e z;rcases gA x with⟨_,q,_⟩| ⟨n,x⟩
 ·cases q
 rw[KA (Q8 n)]at w;exact#[j,u,x,w];rcases gA e with⟨_,q,_⟩| ⟨n,e⟩
 ·injection q with q;injection q with q;subst q;cases m
 exact#[e,KA (Q8 n),rfl]
theorem M1{f:Option Sl->Option Sl}:ρ.modify i f=match ρ[i]? with|some o=>ρ.set i (f o)|none=>ρ:=by
 apply qO;intro j;rw[Wo];cases h:ρ[i]? with|none=>simp only;by_cases e:i=j;subst e;simp[h];simp[e]|some o=>simp only;rw[qW];by_cases e:i=j;subst e;let#[hl,rfl]:=Qf.mp h;simp[hl];simp[e]
theorem RS{α:Type}{l:List α}{o:α}(h:l[i]?=kx o):l.set i o=l:=by apply qO;intro j;rw[qW];split;rename_i e;subst e;rw[tt (Qf.mp h).1,h];rfl
theorem Rl.frzAt:∀(x:LN) {F:Hp}{S:Ft}{ρ:kA},Rl K F H S ρ σ->∃z S',Rl K z H S' (frzAt x ρ) σ/\Sts C [] F H S ρ σ z H S' (frzAt x ρ) σ
 |[],F,S,ρ,I=>#[F,S,I,.refl]|i::x,F,S,ρ,I=>by
  have one:∃p S1,Rl K p H S1 (ρ.modify i zX) σ/\Sts C [] F H S ρ σ p H S1 (ρ.modify i zX) σ:=by
   rw[M1];cases h:ρ[i]? with
   |none=>exact#[F,S,I,.refl]|some o =>
    cases o with
    |none=>have e:ρ.set i (zX kv)=ρ:=RS h;simp only[e];exact#[F,S,I,.refl]|some u =>
     cases u with|bor t=>have e:ρ.set i (zX (kx (.bor t)))=ρ:=RS h;simp only[e];exact#[F,S,I,.refl]|own t=>exact#[_,_,I.frz1 h]
  let#[p,S1,a,w]:=one;let#[B,G,k,v]:=Rl.frzAt x a;exact#[B,G,k,w.trans v]
end
end
noncomputable def EJ(C:LN):PT->Bool
 | .seq s r=>EJ C s&&EJ C r|.set i _=>!C.contains i|.own i _=>!C.contains i|.ife _ a b=>EJ C a&&EJ C b|.for_ x _ _ h=>x.ix.all (λi=>!C.contains i)&&EJ C h|.nil=>kf|.expr _=>kf|.ret _=>kf|.tset y _=>y.all λi=>!C.contains i|.six _ _ _=>kf|.sdf _ _=>kf|.sxo _ _=>kf|.pap _ _ _=>kf|.whl _ h=>EJ C h|.frz _ s=>EJ C s
section
variable{K:QA}{Γ:Ev}{Ψ:PEv}{E:XE}{O:XK}{F H D B F2 N:Hp}{S S1 R:Ft}{ρ A G:kA}{σ M σ2:St}{C J:LN}
theorem Sts.bind{L:LN}(s:Sts C J F H S ρ σ D B S1 A M)(b:Bd L D B S1 A M F2 N R G σ2)(v:∀j∈L,j∈J)(w:∀j∈L,j∉C):Sts C J F H S ρ σ F2 N R G σ2 :=
 #[s.ff.trans b.ff,λx u e n=>b.hh x u (s.hh x u e n),λx e=>s.dm x (b.dm x e),λx e z=>by
  by_cases q:D x=kv;exact .inr (s.dm x (b.fn x q z));exact s.fn x e q,λx u=>s.uu x (b.U u),λj t h e y=>by
  let#[i,g,e3]:=b.out j λz=>h (v j z);rw[i]at e;let#[f,a,k]:=s.bo j t h e y;exact#[f,g.trans a,e3.trans k],λj h=>(b.out j λz=>w j z h).2.2.trans (s.sg j h)]
theorem fZ{g:Tg}{body:PEnds->kA->Prop}{tb:TS}{Z:PEnds}{o:Ends}{xs:List Item}{ys:LT}{st:Hp->Prop}{Y:eB}
  (ib:∀{F H:Hp}{S:Ft}{ρ:kA}{σ:St}{Z:PEnds}{o:Ends},Rl K F H S ρ σ->AE K F H S ρ E O->body Z ρ->EndsOk K C F H S ρ σ Z o->tb o σ H)
  (I:Rl K F H S ρ σ) (X:AE K F H S ρ E O) (hC:∀j∈g.ix,j∉C) (pr:yn (BZ K F H Y) xs ys) (hy:∀b,Y b->¬ U ρ S b/\H b≠kv/\F b=kv) (hst:∀f k,Same F f->Same f k->(∀b,Y b->k b=H b)->st k) (h:yI body g Z ys ρ)
  (onx:∀f k S' z w,Sts C g.ix F H S ρ σ f k S' z w->Rl K f k S' z w->Z.nx z->o.nx w k)
  (ort:∀v t W f k S' z w,Stc C F H S ρ σ f k S' z w->Rl K f k S' z w->Tr K f k kf v t W->Held f k S' z W->(∀b,W b->H b=kv∨U ρ S b)->Z.rt t z->o.rt v k):Mm K xs st g tb o σ H:=by
 intro J hJ;have len:=qC pr;have yk:∀{D B:Hp}{S1:Ft}{A:kA}{M:St},Sts C g.ix F H S ρ σ D B S1 A M->∀b,Y b->B b=H b/\D b=none:=λ{D B S1 A M} s b hb=>by
  let#[n,d1,d2]:=hy b hb;refine#[?_,?_];cases e:H b with|none=>exact ti e d1|some u=>exact s.hh b u e n
  by_cases q:D b=kv
  ·exact q
  exact((s.fn b d2 q).elim n d1).elim
 refine#[λi m w k=>i<=xs.9/\m=xs.9 - i/\∃z f S',Sts C g.ix F H S ρ σ f k S' z w/\Rl K f k S' z w/\yI body g Z (ys.drop i) z,#[_,Qs _,rfl,ρ,F,S,.refl,I,by simpa using h],?_];rintro i m M B ⟨hi,rfl,A,D,S1,p,I1,h1⟩;have hs:=hst D B p.ff I1.fh λb hb=>(yk p b hb).1;rcases QAB i xs.9 with l|hge;refine .inr #[hJ.go i B hs l,λw k=>i+1<=xs.9/\∃z f S',Sts C g.ix F H S ρ σ f k S' z w/\Rl K f k S' z w/\yI body g Z (ys.drop (i+1)) z,λw k #[a,b]=>#[_,(),a,rfl,b],λx N hyl=>?_];let#[it,hx,hm]:=hJ.yld i B x N hs l hyl;let#[y,hd,ry]:=Paired.get_of pr hx;rw[hd]at h1;unfold yI at h1;have key:L3.bindI K g it M B λσ2 N=>tb { o with nx:=λw k=>i+1<=xs.9/\∃z f S',Sts C g.ix F H S ρ σ f k S' z w/\Rl K f k S' z w/\yI body g Z (ys.drop (i+1)) z,ct:=λw k=>i+1<=xs.9/\∃z f S',Sts C g.ix F H S ρ σ f k S' z w/\Rl K f k S' z w/\yI body g Z (ys.drop (i+1)) z,bk:=o.nx } σ2 N:=by
  refine mJ I1 (λb hb u=>?_) (ry.mono p.ff (yk p)) h1 λG σ2 F2 H3 R bd I2 h2=>?_;rcases p.uu b u with q|q
  ·exact(hy b hb).1 q
  exact(hy b hb).2.1 q;have Q:=p.bind bd (λj hj=>hj) hC;exact ib I2 (X.fromS Q) h2 #[λf k S' z w L P q=>#[l,z,f,S',Q.trans L,P,q],λv t W f k S' z w L P r hw fr q=>ort v t W f k S' z w (Q.c.trans L) P r hw (cw Q fr) q,
   λf k S' z w L P q=>onx f k S' z w (Q.trans L) P q,λf k S' z w L P q=>#[l,z,f,S',Q.trans L,P,q]]
 exact YN hm key;have e:ys.drop i=[]:=WY ();rw[e]at h1;exact .inl #[hJ.stop i B hs hge,onx D B S1 A M p I1 h1]
theorem gG:∀(J:LN) (ρ:kA) (i:Nat) s,(kill J ρ)[i]?=kx (kx s)->ρ[i]?=kx (kx s)/\(i∈J->∀t,s=.bor t->t.isD=kf)
 |[],ρ,i,s,h=>#[h,λz=>by simp at z]|j::J,ρ,i,s,h=>by
  unfold kill at h;let#[x,w]:=gG J _ i s h;rw[Wo]at x;by_cases e:j=i;subst e;simp only[reduceIte]at x;cases q:ρ[j]? with
  |none=>rw[q]at x;cases x|some o =>
   rw[q]at x;have x:EI o=kx s:=by simpa using x
   cases o with
   |none=>cases x|some v =>
    cases v with
    |own t=>cases x;exact#[rfl,λ_ u z=>by cases z]|bor t =>
     have x:(if t.isD=kf then kx (Sl.bor t) else kv)=kx s:=x;cases y:t.isD with|true=>rw[y,tt rfl]at x;cases x;exact#[rfl,λ_ u z=>by cases z;exact y]|false=>rw[y]at x;simp at x
  simp only[e,if_false]at x;refine#[by simpa using x,λm=>w ((QL.mp m).elim (λz=>ti z.symm e) id)]
theorem zN:∀(J:LN) (ρ:kA),(kill J ρ).9=ρ.9
 |[],_=>rfl|j::J,ρ=>by unfold kill;rw[zN J];simp
theorem Sts.kill(s:Sts C J F H S ρ σ D B S1 A M):Sts C [] F H S ρ σ D B S1 (L3.kill J A) M :=
 #[s.ff,s.hh,s.dm,s.fn,λb #[i,t,y,x]=>s.uu b #[i,t,(gG J A i _ y).1,x],λj t _ e h=>by let#[y,x]:=gG J A j _ e;by_cases z:j∈J;rw[x z t rfl]at h;cases h;exact s.bo j t z y h,s.sg]
theorem OT:∀(L:LN) (ρ:kA) (j:Nat),(lock L ρ)[j]?=if j∈L then ρ[j]?.map dG else ρ[j]?
 |[],ρ,j=>by simp[lock]|i::L,ρ,j=>by
  have x:∀o,dG (dG o)=dG o:=λo=>by
   match o with
   |none=>rfl|some (.own _)=>rfl|some (.bor _)=>rfl
  unfold lock;rw[OT L,Wo];by_cases e:i=j;subst e;cases h:ρ[i]? with|none=>simp|some o=>simp[x]
  have y:¬ j=i:=λz=>e z.symm;simp[e,y]
theorem NT:∀(L:LN) (ρ:kA),(lock L ρ).9=ρ.9
 |[],_=>rfl|i::L,ρ=>by unfold lock;rw[NT L];simp
theorem jM:∀(L:LN) (x ρ:kA) (j:Nat),(∀i∈L,i<ρ.9)->(HC L x ρ)[j]?=if j∈L then kx (x[j]?.getD kv) else ρ[j]?
 |[],x,ρ,j,_=>by simp[HC]|i::L,x,ρ,j,h=>by unfold HC;rw[jM L x _ j (λk hk=>by simpa using h k (QG _ hk)),qW];by_cases e:i=j;subst e;simp[h i QF];have y:¬ j=i:=λz=>e z.symm;simp[e,y]
theorem EL:∀(L:LN) (h ρ:kA),(HC L h ρ).9=ρ.9
 |[],_,_=>rfl|i::L,h,ρ=>by unfold HC;rw[EL L];simp
theorem SH{ρ:kA}:∀(x:LN),∀i∈oC ρ x,∃t,ρ[i]?=kx (kx (.own t))
 |[],i,h=>by simp[oC]at h|j::x,i,h=>by
  unfold oC at h;split at h
  ·rename_i ho
   rcases QL.mp h with e|e
   ·subst e
    unfold MM at ho;split at ho;rename_i t e;exact#[t,e]
    all_goals cases ho
   exact SH x i e
  exact SH x i h
theorem LM{ρ:kA}{i:Nat}{t:T}(h:ρ[i]?=kx (kx (.own t))):∀(x:LN),i∈x->i∈oC ρ x
 |[],hi=>by simp at hi|j::x,hi=>by
  unfold oC;rcases QL.mp hi with e|e;subst e;have:MM ρ[i]?=true:=by rw[h];rfl
  rw[tt this];exact QF;have:=LM h x e;split;exact QG _ this;exact this
section
variable{L:LN}(y:∀i∈L,∃t,ρ[i]?=kx (kx (.own t)))
include y
theorem MK{i:Nat}{s:Sl}(h:(lock L ρ)[i]?=kx (kx s)):(i∈L/\∃t,ρ[i]?=kx (kx (.own t))/\s=.bor t)∨(i∉L/\ρ[i]?=kx (kx s)):=by rw[OT]at h;by_cases x:i∈L;rw[tt x]at h;let#[t,e]:=y i x;rw[e]at h;injection h with h;injection h with h;exact .inl #[x,t,e,h.symm];rw[th x]at h;exact .inr #[x,h]
theorem fF{b:ko}(h:U (lock L ρ) S b):U ρ S b:=by
 let#[i,t,x,z]:=h;rcases MK y x with⟨_,u,_,e⟩| ⟨_,x⟩
 cases e;exact#[i,t,x,z]
theorem Rl.lock(I:Rl K F H S ρ σ):Rl K F H S (L3.lock L ρ) σ where
 fh:=I.fh
 len:=by rw[NT];exact I.len
 sl:=λi s e=>by
  rcases MK y e with⟨_,t,h,rfl⟩| ⟨_,h⟩
  let#[v,u,x]:=I.sl i _ h;exact#[v,u,x.weak];exact I.sl i s h
 dj:=λi j t s n k w=>by
  rcases MK y k with⟨_,_,_,z⟩| ⟨_,u⟩
  cases z;rcases MK y w with⟨_,a,x,_⟩| ⟨_,x⟩
  ·exact I.dj i j t _ n u x
  exact I.dj i j t s n u x
theorem Rl.lockU(I:Rl K F H S ρ σ){i:Nat}(x:i∈L){b:ko}(hb:S i b):¬ U (L3.lock L ρ) S b:=λ#[j,t,h,v]=>by
 let#[w,e]:=y i x;rcases MK y h with⟨_,_,_,z⟩| ⟨u,h⟩
 cases z;exact I.dj j i t _ (λz=>u (z▸x)) h e b v hb
theorem MZ(I:Rl K F H S ρ σ)(s:Sts C [] F H S (lock L ρ) σ D B S1 A M)(W:Rl K D B S1 A M)(hl:∀i∈L,A[i]?=ρ[i]?.map dG) :
  ∃R,Rl K D B R (HC L ρ A) M/\Sts C [] F H S ρ σ D B R (HC L ρ A) M:=by
 classical
 have l1:∀i∈L,∃t,ρ[i]?=kx (kx (.own t))/\A[i]?=kx (kx (.bor t)):=λi h=>by let#[t,e]:=y i h;have:=hl i h;rw[e]at this;exact#[t,e,this]
 have hlt:∀i∈L,i<A.length:=λi h=>by let#[t,_,e]:=l1 i h;exact(Qf.mp e).1
 let R:Ft:=λi=>if i∈L then S i else S1 i
 have l:∀i∈L,R i=S i:=λi h=>tt h;have g:∀i,i∉L->R i=S1 i:=λi h=>th h;have get:∀i a,(HC L ρ A)[i]?=kx (kx a)->(i∈L/\∃t,ρ[i]?=kx (kx (.own t))/\A[i]?=kx (kx (.bor t))/\a=.own t)∨(i∉L/\A[i]?=kx (kx a)):=λi a e=>by rw[jM L ρ A i hlt]at e;by_cases h:i∈L;rw[tt h]at e;let#[t,f,Y]:=l1 i h;rw[f]at e;injection e with e;have e:kx (Sl.own t)=kx a:=e;injection e with e;exact .inl #[h,t,f,Y,e.symm];rw[th h]at e;exact .inr #[h,e]
 have P:∀i∈L,∀k a,k∉L->A[k]?=kx (kx a)->∀b,S i b->¬ S1 k b:=λi h k a hk e b hb z=>by
  let#[t,f,_]:=l1 i h;cases a with
  |own u=>rcases s.uu b ⟨k,u,e,z⟩ with q|q;exact I.lockU y h hb q;exact(I.dom f hb).1 q
  |bor u =>
   cases o:u.isD with
   |true=>exact W.isD e o z|false =>
    let#[m,p,_]:=s.bo k u (by simp) e o;rw[p]at z;rcases MK y m with⟨q,_⟩| ⟨_,m⟩
    exact hk q;exact I.dj i k t _ (λq=>hk (q▸h)) f m b hb z
 refine#[R,#[W.fh,by rw[EL];exact W.len,λi a e=>?_,λi k t a n f Y b hb hk=>?_],#[s.ff,λb u e n=>s.hh b u e λz=>n (fF y z),s.dm,λb e z=>(s.fn b e z).imp (fF y) id,λb #[i,t,h1,Q]=>?_,λj t _ e o=>?_,s.sg]];rcases get i a e with⟨h,t,f,Y,rfl⟩| ⟨h,f⟩
 ·rw[l i h]
  let#[v,m,p]:=I.sl i _ f;cases o:t.isD with
  |true =>
   let#[v',g3,g4]:=W.sl i _ Y;refine#[v',g3,?_];have nb:∀b,¬ S i b:=λb=>I.isD f o;cases t with
   |d x =>
    have g4:Tr K D B kd v' (.d x) (S1 i):=g4;cases g4 with|d r _=>exact .d r nb
   |_=>cases o
  |false =>
   let#[_,_,g5]:=s.bo i t (by simp) Y o;refine#[v,g5.trans m,?_];have p:Tr K F H kf v t (S i):=p;refine p.mono s.ff λb hb=>?_;let#[d1,d2]:=p.dom b hb;have nu:=I.lockU y h hb;refine#[?_,?_];cases eb:H b with|none=>exact ti eb d1|some u=>exact s.hh b u eb nu
   by_cases q:D b=kv
   ·exact q
   exact((s.fn b d2 q).elim nu d1).elim
 rw[g i h];exact W.sl i a f;rcases get i _ f with⟨h,t',X,a2,_⟩| ⟨h,X⟩
 ·rw[l i h]at hb
  rcases get k a Y with⟨w,t2,Z,b2,_⟩| ⟨w,Z⟩
  rw[l k w]at hk;exact I.dj i k t' _ n X Z b hb hk;rw[g k w]at hk;exact P i h k a w Z b hb hk
 rw[g i h]at hb;rcases get k a Y with⟨w,t2,Z,b2,_⟩| ⟨w,Z⟩
 rw[l k w]at hk;exact P k w i _ h X b hk hb;rw[g k w]at hk;exact W.dj i k t a n X Z b hb hk;rcases get i _ h1 with⟨h,t',X,a2,_⟩| ⟨h,X⟩
 ·rw[l i h]at Q
  exact .inl #[i,t',X,Q]
 rw[g i h]at Q;exact(s.uu b #[i,t,X,Q]).imp (fF y) id;rcases get j _ e with⟨_,_,_,_,z⟩| ⟨hj,f⟩
 ·cases z
 let#[m,p,g3]:=s.bo j t (by simp) f o;rcases MK y m with⟨q,_⟩| ⟨_,m⟩
 exact ti q hj;exact#[m,(g j hj).trans p,g3]
end
theorem SQ{i:Nat}(h:(!C.contains i)=kf):i∉C:=λz=>by have:C.contains i=true:=Q9.mpr z;rw[this]at h;cases h
theorem pT{x:LN}(h:(x.all λi=>!C.contains i)=kf):∀i∈x,i∉C:=λi y=>SQ (qH.mp h i y)
theorem L5{v:V}{t:T}{W:eB}{Z:PEnds}{h:Ends}(ok:EndsOk K C F H S ρ σ Z h)(s:Ste F H S ρ D B S1 A)(I:Rl K D B S1 A σ)(r:Tr K D B kf v t W)(x:Held D B S1 A W)(fr:∀b,W b->H b=kv∨U ρ S b)(q:Z.rt t A):h.rt v B :=
 ok.rt v t W D B S1 A σ (s.toStp.sts (J:=[])).c I r x fr q
theorem YQ(g:GOk K Γ Ψ):∀(e:PX) {F H:Hp}{S:Ft}{ρ:kA}{σ:St}{Z:PEnds}{f:Ends},Rl K F H S ρ σ->AE K F H S ρ E O->xE Ψ E Z.rt e ρ->EndsOk K C F H S ρ σ Z f->(wp K Γ e O).e σ H f.rt:=by
  intro e F H S ρ σ Z f I X h ok;have o:∀e,(pe Ψ e E).e ρ (λx n A=>OF x n=kf/\Z.rt x A)->(wp K Γ e O).e σ H f.rt:=λe h=>by refine(DA g e).e (Q:=λx n A=>OF x n=kf/\Z.rt x A) I X h λv F' H' S' m x n Za s J r #[P,q]=>?_;let#[W,p,Y,fr]:=r.strict P;exact L5 ok s J p Y fr q
  cases e with
  |ife t a b =>
   have h:(pe Ψ t E).t ρ λk A=>if k=kf then xE Ψ E Z.rt a A else xE Ψ E Z.rt b A:=h
   refine(DA g t).t I X h λk F' H' S' m s J q=>?_;cases k with|true=>exact YQ g a J (X.from s.toStp) q (ok.from s.toStp.sts)|false=>exact YQ g b J (X.from s.toStp) q (ok.from s.toStp.sts)
  |var i =>
   have y:Eu ρ i Z.rt ρ[i]?:=h;show(match σ[i]? with|some (kx v)=>f.rt v _|_=>False)
   match l:ρ[i]?,y with
   |some (kx (.own t)),y =>
    let#[v,w,r]:=I.sl i _ l;rw[w];have I0:Rl K F H S (ρ.set i kv) σ:=I.drop (by simp) λj s e=>by
     rcases gA e with⟨_,z,_⟩| ⟨_,e⟩
     cases z;exact e
    refine ok.rt v t (S i) F H S (ρ.set i kv) σ #[.refl _,λb u e _=>e,λb e=>e,λb e z=>ti e z,λb #[j,u,w,h2]=>.inl ?_,λ_ _=>rfl] I0 r #[r.dom,λj s e b hb z=>?_] (λb hb=>.inr #[i,t,l,hb]) y;rcases gA w with⟨_,z,_⟩| ⟨_,w⟩
    ·cases z
    exact#[j,u,w,h2];rcases gA e with⟨_,q,_⟩| ⟨n,e⟩
    ·cases q
    exact I.dj i j t s n l e b hb z
   |some (kx (.bor t)),y =>
    let#[v,w,r]:=I.sl i _ l;rw[w];let#[L,y]:=y;cases t with
    |d x =>
     have r:Tr K F H kd v (.d x) (S i):=r;cases r with|d q n=>exact L5 (W:=λ_=>False) ok .refl I (.d q λ_ z=>z) .none (λ_ z=>z.elim) y
    |_=>cases L
   |some kv,y=>exact y.elim|none,y=>exact y.elim
  |_=>exact o _ h
theorem BI(g:GOk K Γ Ψ):∀(p:PT) {F H:Hp}{S:Ft}{ρ:kA}{σ:St}{Z:PEnds}{Dn:Ends},EJ C p=kf->Rl K F H S ρ σ->AE K F H S ρ E O->lB Ψ E p Z ρ->EndsOk K C F H S ρ σ Z Dn->kQ K Γ O p Dn σ H
 | .nil,_,_,_,_,_,_,_,c,I,X,h,ok=>ok.nx _ _ _ _ _ .refl I h|.seq s r,_,_,_,_,_,_,_,c,I,X,h,ok=>by let#[c1,c2]:=xA c;exact BI g s c1 I X h #[λF' H' S' L σ' s' J q=>BI g r c2 J (X.fromS s') q (ok.from s'),ok.rt,ok.bk,ok.ct]|.set i e,F,H,S,ρ,σ,Z,Dn,c,I,X,h,ok=>by have hi:=SQ c;refine ND (RR:=λx B=>Dn.nx (σ.set i (kx x)) B) (DA g e) I X h λv F' H' S' L x n Za s J X' r er _ #[he,q]=>?_;exact ok.nx _ _ _ _ _ (s.toStp.sts.setD i hi v rfl _) (J.setD i (er he)) q|.expr e,F,H,S,ρ,σ,Z,Dn,c,I,X,h,ok=>(DA g e).e I X h λv F' H' S' L x n Za s J r q=>ok.nx _ _ _ _ _ s.toStp.sts J q|.ret e,F,H,S,ρ,σ,Z,Dn,c,I,X,h,ok=>YQ g e I X h ok|.ife t a b,F,H,S,ρ,σ,Z,Dn,c,I,X,h,ok=>by
  let#[c1,c2]:=xA c;refine(DA g t).t I X h λk F' H' S' L s J q=>?_;cases k with|true=>exact BI g a c1 J (X.from s.toStp) q (ok.from s.toStp.sts)|false=>exact BI g b c2 J (X.from s.toStp) q (ok.from s.toStp.sts)
 | .for_ tg ik its body,F,H,S,ρ,σ,Z,Dn,c,I,X,h,ok=>by
  let#[c1,c2]:=xA c;have hC:=pT c1;refine dS (RR:=λvs B=>rC K ik vs B λxs st N=>Mm K xs st tg (kQ K Γ O body) Dn σ N) (DA g its) I X h λvs D B S1 A xs Y s1 I1 X1 tn tm q=>?_;rw[DJ _ rfl]at q;have ok1:=ok.from s1.toStp.sts;cases ha:FN xs with
  |true=>have tn':=tn.bare (nS ha);refine zH I1.fh tn' q λits ys st pr hst hc=>?_;rw[ha,tt rfl]at hc;refine fZ (λI X h ok=>BI g body c2 I X h ok) I1 X1 hC pr (λb z=>z.elim) hst hc ?_ ?_;exact λF' H' S' L σ' s' I' q=>ok1.nx _ _ _ _ _ s'.kill (I'.drop (zN _ _) λi sl e=>(gG _ _ i sl e).1) q;exact λv t W F' H' S' L σ' s' I' r hw fr q=>ok1.rt v t W F' H' S' L σ' s' I' r hw fr q|false =>
   refine zH I1.fh tn q λits' ys st pr hst hc=>?_;rw[ha,th (by simp)]at hc;have hL:=SH (ρ:=A) (NF its);have IL:=I1.lock hL;have sL:Sts C [] D B S1 A σ D B (λ_ _=>False) [] σ:=#[.refl _,λb u e _=>e,λb e=>e,λb e z=>ti e z,λb #[i,t,e,_]=>by simp at e,λj t _ e=>by simp at e,λ_ _=>rfl]
   have XL:AE K D B S1 (lock (oC A (NF its)) A) E O:=λx dx F2 N R G s2 f r q =>
    X1 x dx F2 N (λ_ _=>False) [] #[s2.ff,λb u e n=>s2.hh b u e λz=>n (fF hL z),s2.dm,λb e z=>(s2.fn b e z).imp (fF hL) id,λb #[i,t,e,_]=>by simp at e,λj t e=>by simp at e] f r q
   refine fZ (λI X h ok=>BI g body c2 I X h ok) IL XL hC pr (λb hb=>?_) hst hc ?_ ?_;let#[i,sl,h1,h2,h3]:=tm b hb;refine#[λu=>?_,I1.dom h2 h3];cases sl with
   |own t=>exact I1.lockU hL (LM h2 _ h1) h3 u|bor t =>
    let#[j,t',e1,e2]:=u;rcases MK hL e1 with⟨_,_,_,z⟩| ⟨_,e1⟩
    cases z;exact I1.dj j i t' _ (λz=>by subst z;rw[h2]at e1;cases e1) e1 h2 b e2 h3
   intro F' H' S' L σ' s' I' #[q1,q2];have sk:=s'.kill;have Ik:=I'.drop (zN tg.ix L) λi sl e=>(gG _ _ i sl e).1;let#[R,I2,s2]:=MZ hL I1 sk Ik λi hi=>(q1 i hi).2;exact ok1.nx _ _ _ _ _ s2 I2 q2;intro v t W F' H' S' L σ' s' I' r hw fr q;exact ok1.rt v t W F' H' S' L σ' #[s'.ff,λb u e n=>s'.hh b u e λz=>n (fF hL z),s'.dm,λb e z=>(s'.fn b e z).imp (fF hL) id,λb u=>(s'.uu b u).imp (fF hL) id,s'.sg] I' r hw (λb hb=>(fr b hb).imp id (fF hL)) q
 | .own i e,F,H,S,ρ,σ,Z,Dn,c,I,X,h,ok=>by refine(DA g e).e (Q:=λx n A=>OF x n=kf/\Z.nx (A.set i (kx (.own x)))) I X h λv F' H' S' L x n Za s J r #[he,q]=>?_;let#[W,r2,hw,fr]:=r.strict he;exact ok.nx _ _ _ _ _ (s.toStp.sts.setN i (SQ c) v x fr) (J.setN i r2 λj sl _ e b hb=>hw.nw j sl e b hb) q|.tset is e,F,H,S,ρ,σ,Z,Dn,c,I,X,h,ok=>by
  have hc:=pT c;refine ND (RR:=λx B=>ME K (.tp is) x σ B Dn.nx) (DA g e) I X h λv F' H' S' L x n Za s J X' r er _ #[he,q]=>?_;have q2:nJ (.tp is) (.d x.er) L λG=>Z.nx G/\∀(j:Nat) t,G[j]?=kx (kx (.bor t))->t.isD=kd->j∉is:=by
   generalize x.er=d at q;cases d with
   |tuple ds=>let#[G,e,q]:=q;exact#[G,e,q,λj t h1 h2=>(AO is ds e j t h1 h2).1]|dict kvs =>
    have q:(match LB kvs with | .tp ts=>∃G,iB is ts L=kx G/\Z.nx G|_=>False):=q;unfold LB at q;cases ek:NC kvs with|none=>rw[ek]at q;exact q.elim|some b=>rw[ek]at q;exact q.elim
   |_=>exact q.elim
  refine mJ (Y:=λ_=>False) (it:=.one v) J (λb z=>z.elim) #[λ_=>False,.d (er he) λ_ z=>z,λ_ z=>z] q2 λG σ2 F2 N R bd J2 qn=>?_;have st:=(s.toStp.sts (σ:=σ) (C:=C) (J:=is)).bind bd (λj hj=>hj) hc;exact ok.nx _ _ _ _ _ #[st.ff,st.hh,st.dm,st.fn,st.uu,λj t _ e hd=>st.bo j t (qn.2 j t e hd) e hd,st.sg] J2 qn.1
 | .six o i e,F,H,S,ρ,σ,Z,Dn,c,I,X,h,ok=>by
  have later:∀{j:Nat}{t:T}{v0:V},ρ[j]?=kx (kx (.own t))->Tr K F H kf v0 t (S j)->∀{F' H':Hp}{S':Ft}{L:kA},Ste F H S (ρ.set j (kx (.bor t))) F' H' S' L->Tr K F' H' kf v0 t (S j)/\∀b,S j b->H' b=H b:=λ{j t v0} hj r0 {F' H' S' L} s=>#[s.toStp.keep r0 (I.lock1U hj),λb hb=>by
   cases e:H b with|none=>exact ti e (r0.dom b hb).1|some u=>exact s.hh b u e (I.lock1U hj b hb)]
  cases o with
  |var j =>
   have h:xC ρ[j]? _:=h;unfold xC at h;split at h;rename_i t hj;let#[v0,hv,r0]:=I.sl j _ hj;have r0:Tr K F H kf v0 t (S j):=r0;show(wp K Γ e O).e σ H λv B=>(wp K Γ (.var j) O).e σ B λov N=>(wp K Γ i O).e σ N λiv H3=>bO K ov iv v H3 λH4=>Dn.nx σ H4;refine ND (DA g e) (I.lock1 hj) (X.lock1 hj) h λxv D B S1 A x n Zx s1 I1 X1 _ er1 _ #[he,q1]=>?_;have rx:=er1 he;show(match σ[j]? with|some (kx v)=>_|_=>False);rw[hv];refine ND (DA g i) I1 X1 q1 λiv F2 N R G y m Zy s2 I2 X2 _ er2 _ #[he2,hj2,q2]=>?_;have s12:=s1.trans s2;refine A4 I2.fh (later hj r0 s12).1 (er2 he2) (rx.mono s2.ff) q2 λt' H3 S3 hh dm rt sub q=>?_;let#[st,I3,_]:=iE (W:=λ_=>False) I hj hv s12 I2 hh dm rt (λb hb=>.inl (sub b hb)) .none (λ_ z=>z.elim);exact ok.nx _ _ _ _ _ st.toStp.sts I3 q
   all_goals exact h.elim
  |idx a k =>
   cases a with
   |var j =>
    have h:xC ρ[j]? _:=h;unfold xC at h;split at h;rename_i t hj;let#[v0,hv,r0]:=I.sl j _ hj;have r0:Tr K F H kf v0 t (S j):=r0;show(wp K Γ e O).e σ H λv B=>(wp K Γ (.var j) O).e σ B λov N=>(wp K Γ k O).e σ N λzv H3=>kW K ov zv H3 λow H4=>(wp K Γ i O).e σ H4 λiv H5=>bO K ow iv v H5 λH6=>Dn.nx σ H6;refine ND (DA g e) (I.lock1 hj) (X.lock1 hj) h λxv D B S1 A x n Zx s1 I1 X1 _ er1 _ #[he,q1]=>?_;have rx:=er1 he;show(match σ[j]? with|some (kx v)=>_|_=>False);rw[hv];refine ND (DA g k) I1 X1 q1 λzv F2 N R G z l Zz s2 I2 X2 _ er2 _ #[hez,b,ks,ts,n,s,et,hk,hf,ht,q2]=>?_;have s12:=s1.trans s2;have rz:=er2 hez;subst et;let#[r2,k2]:=later hj r0 s12;obtain⟨a,o,vs,ea,ho,dk,hw⟩:∃a o vs,v0=.ref a/\N a=kx o/\mI K F2 b o ks vs/\∃w,vs[n]?=kx w/\S j a:=by
     cases r2 with|dct h1 dk h2 h3 h4 h5=>let#[w,_,g1,_]:=h3.get ht;exact#[_,_,_,rfl,h1,dk,w,g1,(h5 _).mpr (.inl rfl)]
    let#[w,hw,sa]:=hw;subst ea;have gd:=(dk.mono I2.fh).get ho (rz.mono I2.fh) hk;rw[hf]at gd;have gd:CO K N a zv (vs[n]?):=gd;rw[hw]at gd;have fin:(wp K Γ i O).e σ N λiv H5=>bO K w iv xv H5 λH6=>Dn.nx σ H6:=by
     refine ND (DA g i) I2 X2 q2 λiv F3 H3 S3 ρ3 y m Zy s3 I3 X3 _ er3 _ #[he3,hj3,q3]=>?_;have s13:=s12.trans s3;let#[r3,k3]:=later hj r0 s13;have ho3:H3 a=kx o:=by rw[k3 a sa,<- k2 a sa];exact ho
     refine Ba I3.fh r3 ho3 dk hw ht (er3 he3) ((rx.mono s2.ff).mono s3.ff) q3 λt' H4 S4 hh dm rt sub q=>?_;let#[st,I4,_]:=iE (W:=λ_=>False) I hj hv s13 I3 hh dm rt (λb hb=>.inl (sub b hb)) .none (λ_ z=>z.elim);exact ok.nx _ _ _ _ _ st.toStp.sts I4 q
    cases zv with|str z=>exact#[w,gd,fin]|ref c=>exact#[w,gd,fin]|_=>exact gd.elim
    all_goals exact h.elim
   |_=>exact h.elim
  |_=>exact h.elim
 | .sxo j i,F,H,S,ρ,σ,Z,Dn,c,I,X,h,ok=>by
  have h:xC ρ[j]? _:=h;unfold xC at h;split at h
  ·rename_i t hj
   let#[v0,hv,r0]:=I.sl j _ hj;have r0:Tr K F H kf v0 t (S j):=r0;let#[hn,h]:=h;have#[s,y,hi,ey,q]:∃s d,ρ[i]?=kx (kx s)/\s.t=.d d/\ft d t λt'=>Z.nx (ρ.set j (kx (.own t'))):=by
    unfold Mi at h;split at h;rename_i u hu;let#[d,e,q]:=h;exact#[_,d,hu,e,q];rename_i u hu;let#[d,e,q]:=h;exact#[_,d,hu,e,q]
    all_goals exact h.elim
   let#[iv,hiv,ri]:=I.sl i _ hi;rw[ey]at ri;have ri:Rep K F iv y:=by
    generalize s.st=b at ri;cases ri with|d r _=>exact r
   let#[ks,ts,rfl,hk,hl,hf,q]:=q;show([]:LV).9<=kb/\∀p,H p=kv->(match σ[j]? with|some (kx v)=>(match σ[i]? with|some (kx iv)=>bO K v iv (.ref p) (CA H p (.lst [])) λH4=>Dn.nx σ H4|_=>False)|_=>False);refine#[Qs _,λp hp=>?_];rw[hv];show(match σ[i]? with|some (kx iv)=>_|_=>False);rw[hiv];refine yi I.fh hp r0 ri hk hl hf λH3 S3 hh dm rt sub=>?_;let#[st,I3,_]:=iE (W:=λ_=>False) I hj hv .refl (I.lock1 hj) hh dm rt (λb hb=>(sub b hb).imp id λ(z:b=p)=>.inr (by rw[z];exact hp)) .none (λ_ z=>z.elim);refine ok.nx _ _ _ _ _ st.toStp.sts I3 ?_;rw[List.set_set];exact q
  all_goals exact h.elim
 | .pap j k e,F,H,S,ρ,σ,Z,Dn,c,I,X,h,ok=>by
  have h:xC ρ[j]? _:=h;unfold xC at h;split at h;rename_i t hj;let#[v0,hv,r0]:=I.sl j _ hj;have r0:Tr K F H kf v0 t (S j):=r0;have later:∀{F' H':Hp}{S':Ft}{L:kA},Ste F H S (ρ.set j (kx (.bor t))) F' H' S' L->Tr K F' H' kf v0 t (S j)/\∀b,S j b->H' b=H b:=λ{F' H' S' L} s=>#[s.toStp.keep r0 (I.lock1U hj),λb hb=>by
   cases e:H b with|none=>exact ti e (r0.dom b hb).1|some u=>exact s.hh b u e (I.lock1U hj b hb)]
  show(match σ[j]? with|some (kx ov)=>(wp K Γ k O).e σ H λiv B=>kW K ov iv B λw N=>yY K "list" w N/\(wp K Γ e O).e σ N λxv H3=>tL w [xv] H3 λ_ H4=>Dn.nx σ H4|_=>False);rw[hv];refine ND (DA g k) (I.lock1 hj) (X.lock1 hj) h λzv D B S1 A z l Zz s1 I1 X1 _ er1 _ #[hez,b,ks,ts,n,s,et,hk,hf,ht,us,es,q1]=>?_;subst et es;have rz:=er1 hez;let#[r2,k2]:=later s1;obtain⟨a,o,vs,ea,ho,dk,w,hw,sa⟩:∃a o vs,v0=.ref a/\B a=kx o/\mI K D b o ks vs/\∃w,vs[n]?=kx w/\S j a:=by
   cases r2 with|dct h1 dk h2 h3 h4 h5=>let#[w,_,g1,_]:=h3.get ht;exact#[_,_,_,rfl,h1,dk,w,g1,(h5 _).mpr (.inl rfl)]
  subst ea;have gd:=(dk.mono I1.fh).get ho (rz.mono I1.fh) hk;rw[hf]at gd;have gd:CO K B a zv (vs[n]?):=gd;rw[hw]at gd;let#[P1,g2,g3,_]:=FM r2 ho dk hw ht;obtain⟨c0,xs,rfl,hc0,sc⟩:∃c0 xs,w=.ref c0/\B c0=kx (.lst xs)/\P1 c0:=by
   cases g2 with|lst f1 f2 f3 f4 f5=>exact#[_,_,rfl,f1,(f5 _).mpr (.inl rfl)]
  have fin:yY K "list" (.ref c0) B/\(wp K Γ e O).e σ B λxv H3=>tL (.ref c0) [xv] H3 λ_ H4=>Dn.nx σ H4:=by
   refine#[.inl #[rfl,_,RC.of hc0],ND (DA g e) I1 X1 q1 λxv F2 N R G x m Zx s2 I2 X2 _ er2 _ #[he,hj2,hl,q2]=>?_];have s12:=s1.trans s2;let#[r3,k3]:=later s12;have kk:∀b,S j b->N b=B b:=λb hb=>(k3 b hb).trans (k2 b hb).symm;let#[P2,h2,h3,h4]:=FM r3 ((kk a sa).trans ho) (dk.mono s2.ff) hw ht;cases h2 with
   |lst f1 f2 f3 f4 f5 =>
    have f1':=f1;rw[kk c0 (g3 c0 sc),hc0]at f1';cases f1';have pc:P2 c0:=(f5 c0).mpr (.inl rfl);refine#[c0,_,xv,rfl,rfl,f1,by rw[f3.9];exact hl,?_];have g1:=Trs.append f3 (Trs.one (Tr.d (S:=λ_=>False) (er2 he) λ_ z=>z)) λ_ _ z=>z;let#[P,p1,p2]:=h4 _ _ _ (gC pc) (cJ f2 g1 λz=>z.elim f4 id) λb hb=>by rcases hb with hb|hb|hb;exact hb▸pc;exact(f5 b).mpr (.inr hb);exact hb.elim
    let#[st,I4,_]:=iE (W:=λ_=>False) I hj hv s12 I2 (gC (h3 c0 pc)) bB p1 (λb hb=>.inl (p2 b hb)) .none (λ_ z=>z.elim);exact ok.nx _ _ _ _ _ st.toStp.sts I4 q2
  cases zv with|str z=>exact#[_,gd,fin]|ref c=>exact#[_,gd,fin]|_=>exact gd.elim
  all_goals exact h.elim
 | .sdf j k,F,H,S,ρ,σ,Z,Dn,c,I,X,h,ok=>by
  have h:xC ρ[j]? _:=h;unfold xC at h;split at h;rename_i t hj;let#[v0,hv,r0]:=I.sl j _ hj;have r0:Tr K F H kf v0 t (S j):=r0;let#[hd,h]:=h;show(match σ[j]? with|some (kx v)=>yY K "dict" v H/\(wp K Γ k O).e σ H λx B=>∀p,B p=kv->rL K v [x,.ref p] (CA B p (.dT 0 [])) λ_ N=>Dn.nx σ N|_=>False);rw[hv];constructor;cases r0 with
  |@dct _ b _ _ _ _ _ _ _ h1 dk _ _ _ _ =>
   cases b with|true=>let#[ep,kvs,rfl,_]:=dk;exact .inr (.inr (.inl #[rfl,.inr #[ep,kvs,h1]]))|false=>cases hd
  |_=>cases hd
  refine ND (DA g k) (I.lock1 hj) (X.lock1 hj) h λiv D B S1 A y m Zy s1 I1 X1 _ er _ #[he,hj1,q1]=>?_;intro p hp;have r1:=s1.toStp.keep r0 (I.lock1U hj);refine Ci I1.fh hp r1 (er he) q1 λt' H3 S3 hh dm rt sub q=>?_;let#[st,I3,_]:=iE (W:=λ_=>False) I hj hv s1 I1 hh dm rt (λb hb=>(sub b hb).imp id λ(z:b=p)=>.inr (by rw[z];exact hp)) .none (λ_ z=>z.elim);exact ok.nx _ _ _ _ _ st.toStp.sts I3 q
  all_goals exact h.elim
 | .whl t body,F,H,S,ρ,σ,Z,Dn,c,I,X,h,ok=>by
  let#[W,#[m0,w0],turn]:=h;refine#[λm σ' H'=>∃L F' S',Sts C [] F H S ρ σ F' H' S' L σ'/\Rl K F' H' S' L σ'/\W m L,#[m0,ρ,F,S,.refl,I,w0],?_];rintro m M B ⟨A,D,S1,s1,I1,w1⟩;refine(DA g t).t I1 (X.fromS s1) (turn m A w1) λk F' H' S' L s' J q=>?_;have s2:=s1.trans s'.toStp.sts;cases k with
  |false=>exact ok.nx _ _ _ _ _ s2 J q|true =>
   refine#[λσ' H'=>∃m',m' < m/\∃L F' S',Sts C [] F H S ρ σ F' H' S' L σ'/\Rl K F' H' S' L σ'/\W m' L,λ_ _ z=>z,?_];refine BI g body c J (X.fromS s2) q #[?_,?_,?_,?_];exact λF' H' S' L σ' s' I' #[m',hm,w]=>#[m',hm,L,F',S',s2.trans s',I',w]
   exact λv t W F' H' S' L σ' s' I' r hw fr q=>ok.rt v t W F' H' S' L σ' (s2.c.trans s') I' r hw (cw s2 fr) q;exact λF' H' S' L σ' s' I' q=>ok.nx _ _ _ _ _ (s2.trans s') I' q;exact λF' H' S' L σ' s' I' #[m',hm,w]=>#[m',hm,L,F',S',s2.trans s',I',w]
 | .frz is s,F,H,S,ρ,σ,Z,Dn,c,I,X,h,ok=>by let#[F',S',I',s']:=I.frzAt (C:=C) is;exact BI g s c I' (X.fromS s') h (ok.from s')
end
section
variable{z:Ev}{n:Need}
structure Need where
 fn:LS
 va:LS
 no:LS
noncomputable def Mv(n:Need):ItK->Bool
 | .val=>kf|.rng1=>n.no.contains ("range":Str)|.enum=>n.no.contains ("enumerate":Str)|.itm=>kf
def tB(n:Need):PX->Bool
 | .glo x=>n.va.contains x|.bin _ a b | .cmp _ a b | .and a b | .or a b | .idx a b | .acons a b | .dsp a b=>tB n a&&tB n b
 | .not a | .lst a | .tup a | .eff a=>tB n a
 | .ife a b c | .slc a b c=>tB n a&&(tB n b&&tB n c)
 | .call f y=>n.fn.contains f&&tB n y|.bi f y=>n.no.contains f.nm&&tB n y|.mt _ o y=>tB n o&&tB n y|.comp _ _ _ w u h v=>Mv n w&&(tB n u&&(tB n h&&tB n v))|_=>kf
def uF(n:Need):PT->Bool
 | .seq s r=>uF n s&&uF n r|.set _ e=>tB n e|.own _ e=>tB n e|.expr e=>tB n e|.ret e=>tB n e|.ife c a b=>tB n c&&(uF n a&&uF n b)|.for_ _ y x h=>Mv n y&&(tB n x&&uF n h)|.tset _ e=>tB n e|.six o i e=>tB n o&&(tB n i&&tB n e)|.sdf i k=>tB n (To i k)|.sxo _ _=>kf|.pap j k e=>tB n (i6 j k e)|.whl c b=>tB n c&&uF n b|.frz _ s=>uF n s|.nil=>kf
noncomputable def FR(z:Ev)(n:Need):Glob:=#[z,λf=>f∈n.fn,λx=>x∈n.va,λx=>x∈n.no]
theorem m8{x:ItK}(h:Mv n x=kf):Hq (FR z n) x:=by
 cases x with|val=>trivial|itm=>trivial|_=>exact Q9.mp h
theorem pC:∀(p:PX),tB n p=kf->LA (FR z n) p:=by
 intro p;induction p with
 |glo x=>intro h;exact Q9.mp h|bin _ a b y w|cmp _ a b y w|and a b y w|or a b y w|idx a b y w|acons a b y w|dsp a b y w=>intro h;let#[v,u]:=xA h;exact#[y v,w u]
 |not a y|lst a y|tup a y|eff a y=>intro h;exact y h
 |ife a b c y w g|slc a b c y w g=>intro h;let#[v,e]:=xA h;let#[u,k]:=xA e;exact#[y v,w u,g k]
 |call f j y=>intro h;let#[v,u]:=xA h;exact#[Q9.mp v,y u]|bi f j y=>intro h;let#[v,u]:=xA h;exact#[Q9.mp v,y u]|mt _ o j m y=>intro h;let#[v,u]:=xA h;exact#[m v,y u]|comp _ _ _ Z l i Y s r q=>intro h;let#[v,h]:=xA h;let#[u,h]:=xA h;let#[k,X]:=xA h;exact#[m8 v,s u,r k,q X]|_=>intro _;trivial
theorem O0:∀(p:PT),uF n p=kf->xF (FR z n) p:=by
 intro p;induction p with
 |seq s r f m=>intro h;let#[u,y]:=xA h;exact#[f u,m y]|set _ e|own _ e|expr e|ret e|tset _ e=>intro h;exact pC _ h
 |six o i e=>intro h;let#[u,x]:=xA h;let#[y,w]:=xA x;exact#[pC _ u,pC _ y,pC _ w]|sdf i k=>intro h;exact pC _ h|pap j k e=>intro h;exact pC _ h|sxo j i=>intro h;trivial|frz _ s f=>intro h;exact f h|whl c b v=>intro h;let#[u,y]:=xA h;exact#[pC _ u,v y]|ife c a b q v=>intro h;let#[u,x]:=xA h;let#[y,w]:=xA x;exact#[pC _ u,q y,v w]|for_ _ X l g v=>intro h;let#[u,x]:=xA h;let#[y,w]:=xA x;exact#[m8 u,pC _ y,v w]|_=>intro _;trivial
noncomputable def cN(N h:LS)(sc:hZ):Bool:=sc.kind==.function&&!sc.isCoroutine&&!sc.isGenerator&&TJ N&&N.take h.9==h &&
 h.all (λx=>sc.names.lookup x==kx .local||sc.names.lookup x==kx .cell)&&sc.names.all λy=>y.2 != .free
theorem oU{N x:LS}{sc:hZ}(h:cN N x sc=kf):FnScope N x sc:=by simp only[cN,Qg,qH,WR,beq_iff_eq,Q2,bne_iff_ne,ne_eq]at h;let#[#[#[#[#[#[b,a],k],w],v],u],y]:=h;exact#[b,a,k,ZE w,v,u,y]
def GA(n:Need)(b:PT)(N h:LS)(st:gp):Bool:=cN N h (NA st)&&SR b #[N,NA st] (JC st)&&uF n b
def cj:Md->T->Sl
 | .chg,t=>.own t|_,t=>.bor t
noncomputable def uE:List Md->LT->kA
 |_,[]=>[]|md,t::ts=>kx (cj (md.headD .fro) t)::uE md.tail ts
def EA(N:LS)(md:List Md)(ts:LT):kA:=uE md ts++wE (N.9 - ts.9) kv
noncomputable def BB:Nat->List Md->Nat->LN
 |_,_,0=>[]|k,md,n+1=>match md.headD .fro with
  | .chg=>k::BB (k+1) md.tail n|_=>BB (k+1) md.tail n
def DQ:Option (LT)->(LT->Prop)->Prop
 |some os,Q=>Q os|none,_=>False
def iC(P:PSp)(n:Nat)(Q:T->LT->Prop):PEnds where
 nx:=λh=>DQ (rA (BB 0 P.md n) h) (Q (.d .none))
 rt:=λt h=>DQ (rA (BB 0 P.md n) h) (Q t)
abbrev Jz(Ψ:PEv)(b:PT)(p:PSp)(N h:LS)(ds:LT)(Q:T->LT->Prop):Prop:=ds.9=h.9/\pF Ψ b (iC p h.9 Q) (EA N p.md ds)
abbrev CD(Ψ:PEv)(b:PT)(p:PSp)(N x:LS):Prop:=∀(h:LT) (Q:T->LT->Prop) (E:XE),p.run h Q E->h.9=x.9/\pF Ψ b (iC p x.9 Q) (EA N p.md h)
def VV(mg:Str->Option kn)(x:Str):V:=((mg x).bind HN).getD .non
def Aq(K:QA)(mg:Str->Option kn)(Ψ:PEv):Ev:=#[λf=>lift K (Ψ.sp f),VV mg]
structure ValsOk(P:vu)(w:x2)(K:QA)(mg:Str->Option kn)(Ψ:PEv)(va:LS):Prop where
 rep:∀x d,Ψ.va x=kx d->∀F,Rep K F (VV mg x) d
 has:∀x∈va,∃u v,mg x=kx u/\HN u=kx v
theorem pY{u:kn}{v:V}(h:HN u=kx v):ZA v u:=by cases u<;>first | (obtain rfl:=Qp h;first|rfl|exact#[_,rfl])|exact nomatch (show(none:Option V)=kx v from h)
end
section
variable{P:vu}{w:x2}{K:QA}{mg:Str->Option kn}{base:x0}{Ψ:PEv}
section
variable{k:Nat}{F H:Hp}{Y M:eB}{md:List Md}{vs:LV}{ts:LT}{N l:LS}{R:PSp}{x o:Str}{st:gp}{f:ko}{p:gl}{n:Need}
def CG(P:vu)(w:x2)(K:QA)(mg:Str->Option kn)(base:x0)(Ψ:PEv)(k:Nat)(f:Str):Prop :=
 ∃(a:ko) (p:gl) (l:LS),FnOk P w K mg base i4 k a p l (lift K (Ψ.sp f))/\mg f=kx (.ref a)/\wM K (.ref a)=kf/\XJ K p l []
theorem CG.mono{j:Nat}{f:Str}(h:CG P w K mg base Ψ j f)(hk:j<=k):CG P w K mg base Ψ k f:=by let#[a,p,l,z,y]:=h;exact#[a,p,l,z.mono hk,y]
theorem ArgsR.length(h:ArgsR K F H Y md vs ts):vs.9=ts.length:=by
 induction h with|nil=>rfl|chg _ _ e=>exact aj Nat.succ e|rd _ _ _ _ e=>exact aj Nat.succ e
theorem HI:∀(m:List Md) (ts:LT),(uE m ts).9=ts.9
 |_,[]=>rfl|m,d::ds=>by unfold uE;rw[QK,QK,HI]
theorem e6{m:Md}(h:m≠.chg)(t:T):cj m t=.bor t:=by cases m<;>first|rfl|exact ti rfl h
theorem TH(md:List Md)(v:V)(vs:LV):aB md (v::vs)=match md.headD .fro with | .chg=>v::aB md.tail vs|_=>aB md.tail vs:=by first | (rw[aB];done) | (rw[aB];cases md.headD .fro<;>rfl)
theorem AM(md:List Md)(v:T)(vs:LT):OB md (v::vs)=match md.headD .fro with | .chg=>v::OB md.tail vs|_=>OB md.tail vs:=by first | (rw[OB];done) | (rw[OB];cases md.headD .fro<;>rfl)
theorem dP(md:List Md)(t:T)(ts:LT):uE md (t::ts)=kx (cj (md.headD .fro) t)::uE md.tail ts:=by rw[uE]
theorem be(h:ArgsR K F H Y md vs ts)(r:Trs K F H kf (aB md vs) (OB md ts) M) :
  ∃Z:Ft,(∀(i:Nat) s,(uE md ts)[i]?=kx (kx s)->∃v,vs[i]?=kx v/\Tr K F H s.st v s.t (Z i))/\(∀(i:Nat) t,(uE md ts)[i]?=kx (kx (.own t))->∀b,Z i b->M b)/\(∀(i:Nat) t,(uE md ts)[i]?=kx (kx (.bor t))->∀b,Z i b->Y b) /\
   ∀(i j:Nat) t u,i≠j->(uE md ts)[i]?=kx (kx (.own t))->(uE md ts)[j]?=kx (kx (.own u))->∀b,Z i b->¬ Z j b:=by
 induction h generalizing M with
 |nil=>exact#[λ_ _=>False,λi s e=>by simp[uE]at e,λi t e=>by simp[uE]at e,λi t e=>by simp[uE]at e,λi j t u _ e=>by simp[uE]at e]|@chg md v vs t ts a O A =>
  have J:aB md (v::vs)=v::aB md.tail vs:=by rw[TH,a]
  have I:OB md (t::ts)=t::OB md.tail ts:=by rw[AM,a]
  rw[J,I]at r;cases r with
  |@cons _ _ _ _ _ _ L Z2 W Q n q =>
   let#[Z,E,g,C,B]:=A Q;have G:uE md (t::ts)=kx (.own t)::uE md.tail ts:=by rw[dP,a];rfl
   rw[G];refine#[λi=>match i with|0=>L|i+1=>Z i,λi s e=>?_,λi u e b hb=>?_,λi u e b hb=>?_,λi j u w X e m b hb y=>?_];cases i with|zero=>simp at e;subst e;exact#[v,rfl,W]|succ i=>exact E i s (by simpa using e)
   cases i with|zero=>exact(q b).mpr (.inl hb)|succ i=>exact(q b).mpr (.inr (g i u (by simpa using e) b hb))
   cases i with|zero=>simp at e|succ i=>exact C i u (by simpa using e) b hb
   cases i with
   |zero =>
    cases j with|zero=>exact X rfl|succ j=>exact n b hb (g j w (by simpa using m) b y)
   |succ i =>
    cases j with|zero=>exact n b y (g i u (by simpa using e) b hb)|succ j=>exact B i j u w (λz=>X (by rw[z])) (by simpa using e) (by simpa using m) b hb y
 |@rd md v vs t ts L a W S O A =>
  have J:aB md (v::vs)=aB md.tail vs:=by rw[TH];cases e:md.headD .fro<;>first|exact ti e a|rfl
  have I:OB md (t::ts)=OB md.tail ts:=by rw[AM];cases e:md.headD .fro<;>first|exact ti e a|rfl
  rw[J,I]at r;let#[Z,E,g,C,B]:=A r;have G:uE md (t::ts)=kx (.bor t)::uE md.tail ts:=by rw[dP,e6 a]
  rw[G];refine#[λi=>match i with|0=>L|i+1=>Z i,λi s e=>?_,λi u e b hb=>?_,λi u e b hb=>?_,λi j u w X e m b hb y=>?_];cases i with|zero=>simp at e;subst e;exact#[v,rfl,W]|succ i=>exact E i s (by simpa using e)
  cases i with|zero=>simp at e|succ i=>exact g i u (by simpa using e) b hb
  cases i with|zero=>exact S b hb|succ i=>exact C i u (by simpa using e) b hb
  cases i with
  |zero=>simp at e|succ i =>
   cases j with|zero=>simp at m|succ j=>exact B i j u w (λz=>X (by rw[z])) (by simpa using e) (by simpa using m) b hb y
theorem T4(f:Same F H)(h:ArgsR K F H Y md vs ts)(r:Trs K F H kf (aB md vs) (OB md ts) M)(C:∀b,Y b->¬ M b) :
  ∃S,Rl K F H S (EA N md ts) (gD N vs)/\∀b,U (EA N md ts) S b->M b:=by
 let#[Z,A,a,W,X]:=be h r;have hl:=h.9;have get:∀(i:Nat) s,(EA N md ts)[i]?=kx (kx s)->(uE md ts)[i]?=kx (kx s):=λi s e=>by
  unfold EA at e;rcases QAB i ts.9 with z|z
  ·rwa [qI (by rw[HI];exact z)]at e
  rw[Qv (by rw[HI];exact z),wB]at e;split at e<;>cases e
 refine#[Z,#[f,?_,λi s e=>?_,λi j t s n q m b hb y=>?_],λb #[i,t,e,hb]=>a i t (get i _ e) b hb];unfold EA gD;rw[QI,QI,HI,QC,qq,qq,hl];let#[v,g,B]:=A i s (get i s e);refine#[v,?_,B];unfold gD;rw[qI (by rw[QC];exact(Qf.mp g).1),QX,g];rfl;cases s with|own u=>exact X i j t u n (get i _ q) (get j _ m) b hb y|bor u=>exact C b (W j u (get j _ m) b y) (a i t (get i _ q) b hb)
theorem JP:∀{md:List Md}{k n:Nat}{vs:LV}{σ:St},vs.9=n->(∀(i:Nat) v,vs[i]?=kx v->σ[k+i]?=kx (kx v))->(aB md vs).map (λv=>kx (kx v))=(BB k md n).map λj=>σ[j]?
 |md,k,0,vs,σ,h,g=>by
  cases vs with|nil=>rfl|cons _ _=>cases h
 |md,k,n+1,vs,σ,h,g=>by
  cases vs with
  |nil=>cases h|cons v vs =>
   have y:=JP (md:=md.tail) (k:=k+1) (n:=n) (vs:=vs) (σ:=σ) (by simpa using h) λi w z=>by have:=g (i+1) w (by simpa using z);rw[show k+1+i=k+(i+1) by omega];exact this
   have g0:=g 0 v rfl;rw[TH];unfold BB;cases e:md.headD .fro with|chg=>simp only[QT,y];rw[show σ[k]?=kx (kx v) from g0]|_=>exact y
theorem rN:∀{md:List Md}{k n j:Nat},j∈BB k md n->k<=j
 |md,k,0,j,h=>by simp[BB]at h|md,k,n+1,j,h=>by
  unfold BB at h;cases e:md.headD .fro with
  |chg=>rw[e]at h;rcases QL.mp h with z|z;omega;have:=rN z;omega
  |_=>rw[e]at h;have:=rN h;omega
theorem UU:∀(md:List Md) (k n:Nat),(BB k md n).Nodup
 |md,k,0=>Qx|md,k,n+1=>by
  have h:=UU md.tail (k+1) n;unfold BB;cases e:md.headD .fro with|chg=>exact Qh.mpr #[λz=>by have:=rN z;omega,h]|_=>exact h
theorem V8{b:PT}(F:Fun K x o st f p)(zC:GA n b N l st=kf)(hc:EJ (BB 0 R.md l.9) b=kf)
  (fns:∀g∈n.fn,CG P w K mg base Ψ k g) (G:ValsOk P w K mg Ψ n.va) (nos:∀y∈n.no,mg y=kv)
  (body:∀ts Q E,R.run ts Q E->ts.9=l.9/\pF Ψ b (iC R l.9 Q) (EA N R.md ts)):FnOk P w K mg base i4 (k+1) f p l (lift K R):=by
 let#[c12,c3]:=xA zC;let#[c1,c2]:=xA c12;have S:=oU c1;refine F.ok S (λvs H Q E h=>?_) (λcdv A L s H vs Q E hr h=>?_);let#[F',ts,M,Y,h1,h2,h3,h4,h5]:=h;rw[h2.9];exact(body ts _ _ h5).1;let#[F',ts,M,Y,h1,h2,h3,h4,h5]:=h;have q:=(body ts _ _ h5).2;have hlen:=(body ts _ _ h5).1;have ok:OkS ((gX i4 P w K mg base N o (NA st) f cdv A L s H E).nox) #[N,NA st] (FR (Aq K mg Ψ) n) E0:={
  N:=rfl
  sc:=rfl
  calm:=rfl
  un:=by have:=hr.un;show(A.deeper _).units+66<g7;omega
  fn:=λg hg=>by let#[a,gd,gps,g1,g2,g3,g4]:=fns g hg;exact#[i4,k,a,gd,gps,g1,hr,g2,g3,g4,Cp,λ_ _ _ _ _ z=>z]
  val:=λy hy=>by let#[u,v,e1,e2]:=G.has y hy;refine#[u,e1,?_];show ZA (VV mg y) u;unfold VV;rw[e1];show ZA ((HN u).getD .non) u;rw[e2];exact pY e2
  no:=λy hy=>nos y hy
  po:=PassesOwn.never
  nd:=S.nd
  cel:=λ_=>rfl }
 refine#[_,(Lu b ok c2 (O0 b c3)).1,?_];let#[S0,I,hU]:=T4 (N:=N) h1 h2 h3 h4;have g:GOk K (Aq K mg Ψ) Ψ:=#[λ_ _ _ _ _ h=>h,λy d e F=>G.rep y d e F]
 have hvl:vs.9=l.length:=h2.length.trans hlen;have fin:∀v t W C B J m X,Stc (BB 0 R.md l.9) F' H S0 (EA N R.md ts) (gD N vs) C B J m X->Rl K C B J m X->Tr K C B kf v t W->Held C B J m W->(∀b,W b->H b=kv∨U (EA N R.md ts) S0 b) ->
   DQ (rA (BB 0 R.md l.9) m) (λos=>∀v F3 H3 Z M',Frm M F' H F3 H3->Tr K F3 H3 kf v t Z->Trs K F3 H3 kf (aB R.md vs) os M'->(∀b,Z b->¬ M' b)->(∀b,Z b∨M' b->M b∨H b=kv)->Q v H3)->Q v B:=by
  intro v t W C B J m X s I2 r hw fr q;cases eo:rA (BB 0 R.md l.9) m with
  |none=>rw[eo]at q;exact q.elim|some os =>
   rw[eo]at q;have hv:(aB R.md vs).map (λv=>kx (kx v))=(BB 0 R.md l.9).map λj=>X[j]?:=by rw[JP (md:=R.md) (k:=0) (n:=l.9) (vs:=vs) (σ:=gD N vs) hvl λi w hw=>?_];exact wI λj O=>(s.sg j O).symm;unfold gD;rw[Wg,qI (by rw[QC];exact(Qf.mp hw).1),QX,hw];rfl
   have trs:=I2.trs (UU _ _ _) eo hv;have own:∀j∈BB 0 R.md l.9,∃t,m[j]?=kx (kx (.own t)):=λj O=>by let#[i,hi]:=Wm.mp O;let#[t,_,e]:=(MD eo).2 i j hi;exact#[t,e]
   have lk:∀b,U (EA N R.md ts) S0 b∨H b=kv->M b∨H b=none:=λb hb=>hb.imp (hU b) id;refine q v C B W _ #[s.ff,I2.fh,λb u e n=>s.hh b u e λz=>n (hU b z),s.dm,λb e z=>lk b (s.fn b e z)] r trs (λb hb #[j,O,z]=>?_) λb hb=>?_;let#[t',e]:=own j O;exact hw.nw j _ e b hb z;rcases hb with hb|⟨j,O,z⟩
   ·exact lk b (fr b hb).symm
   let#[t',e]:=own j O;exact lk b (s.uu b #[j,t',e,z])
 refine BI g b hc I (λ_ _ _ _ _ _ _ _ _ z=>z.elim) q #[?_,?_,λ_ _ _ _ _ _ _ z=>z.elim,λ_ _ _ _ _ _ _ z=>z.elim];intro C B J m X s I2 q;exact fin .non (.d .none) (λ_=>False) C B J m X s.c I2 (.d .non λ_ z=>z) .none (λ_ z=>z.elim) q;intro v t W C B J m X s I2 r hw fr q;exact fin v t W C B J m X s I2 r hw fr q
theorem J8{h:PEv}{b:PT}(F:Fun K x o st f p)(a:mg x=kx (.ref f))(hb:XJ K p l [])(zC:GA n b N l st=kf)(hc:EJ (BB 0 R.md l.9) b=kf)
  (v:∀g∈n.fn,CG P w K mg base Ψ k g) (z:ValsOk P w K mg Ψ n.va) (u:∀y∈n.no,mg y=kv)
  (body:∀ts Q E,R.run ts Q E->ts.9=l.9/\pF Ψ b (iC R l.9 Q) (EA N R.md ts)) (e:h.sp x=R):CG P w K mg base h (k+1) x :=
 #[f,p,l,by rw[e];exact V8 F zC hc v z u body,a,F.kp,hb]
end
end
noncomputable def uT:PSp where
 md:=[.shal]
 run:=λx Q _=>∃h:LJ,h.9<=63/\(∀n∈h,qM n<=1048576)/\x=[.lst ((h.map j0).map T.d)]/\Q (.d (.bool kf)) []
def bn:PSp:=#[[],λ_ _ _=>False,λ_ _ h=>h]
theorem jP{K:QA}{F:Hp}:∀(ns:LJ),Reps K F (ns.map V.int) (ns.map j0)
 |[]=>.nil|n::r=>.cons (.int n) (jP r)
theorem oM{K:QA}{F:Hp}:∀(ns:LS),Reps K F (ns.map V.str) (ns.map jk)
 |[]=>.nil|n::r=>.cons (.str n) (oM r)
theorem Kk(K:QA)(H:Hp)(a:ko)(ns:LJ)(hl:ns.9<=63)(h:∀n∈ns,qM n<=1048576)(x:RC K H a (ns.map V.int)):lift K uT [.ref a] H (λv _=>v=.bl kf) λ_ _ _=>False:=by
 refine#[H,[.lst ((ns.map j0).map T.d)],λ_=>False,λ_=>False,.refl _,.rd (Z:=λ_=>False) (by simp[uT]) (.lstF x (jP ns) λ_ z=>z) (λ_ z=>z) .nil,.nil λ_ z=>z,λ_ z=>z.elim,ns,hl,h,rfl,λv w u Z y _ r _ _ _=>?_];cases r with|d r _=>cases r;rfl
theorem JV{ns:LJ}:∀n∈ns,Wp (.int n)<=wZ (ns.map Wu.int):=by
 induction ns with|nil=>intro n h;cases h|cons m ns x=>intro n h;show _<=Wp (.int m)+1+wZ (ns.map Wu.int);rcases QL.mp h with rfl|h;omega;have:=x n h;omega
theorem ve{ns:LJ}(h:Wu.layableAll [.list (ns.map .int)]=kf):∀n∈ns,qM n<=1048576:=by
 intro n z;have v:=(PySem.W.layableW_iff.mp (PySem.W.layableW_arg h _ QF)).2.2;have k:wZ (ns.map Wu.int)<=2 ^ 20:=v;have y:=JV n z;have u:Wp (.int n)=if n==0 then 0 else n.natAbs.log2+1:=rfl
 rw[PySem.intBits_le_iff];by_cases x:n=0;subst x;exact Nat.pow_pos (by decide);have:(n==0)=false:=by simpa using x
 rw[u,this]at y;have w:n.natAbs.log2+1<=1048576:=by have:n.natAbs.log2+1<=wZ (ns.map Wu.int):=y;omega
 exact(Nat.log2_lt (show n.natAbs≠0 by omega)).mp ()
def DZ(K:QA)(x:Str)(st:gp):Prop:=∃f h,qm K vx x=kx (kx (.ref f))/\Fun K x x st f h
def MN(K:QA)(x:Str)(d:D):Prop:=∃u v,qm K vx x=kx (kx u)/\HN u=kx v/\∀F,Rep K F v d
theorem D4{K:QA}{x:Str}{f:ko}{xs:LS}{v:Option ko}{its:LW}{n:Nat}{z:Array (Option kn)}(a:qm K vx x=kx (kx (.ref f)))
  (l:K.lookup f=kx #[.type "tuple",v,.seq its.toArray n,z]) (h:its.map HN=xs.map λy=>kx (.str y)) (k:xs.9<=kb):MN K x (.tuple (xs.map jk)):=by
 refine#[_,_,a,rfl,λF=>.tup (.inr #[_,its.toArray,n,l,rfl,rfl,?_,?_]) (oM xs)];have:=aj qD h;simp at this;simp;omega;have key:∀(its:LW) (xs:LS),its.map HN=xs.map (λy=>kx (.str y))->oA (xs.map V.str) its:=by
  intro its;induction its with
  |nil =>
   intro xs h;cases xs with|nil=>exact .nil|cons _ _=>simp at h
  |cons u its w =>
   intro xs h;cases xs with|nil=>simp at h|cons y xs=>simp only[QT,WT]at h;exact .cons (pY h.1) (w xs h.2)
 simpa using key its xs h
section
variable{P:vu}{w:x2}{K:QA}{mg:Str->Option kn}{base h:x0}{Ψ:PEv}
section
variable{x:Str}{st:gp}{z:LS}{k:Nat}
theorem MN.inMg(X:K.In h)(G:h.Ns vx mg){d:D}(v:MN K x d):(∀F,Rep K F (VV mg x) d)/\∃u v,mg x=kx u/\HN u=kx v:=by
 let#[u,v,b,y,a]:=v;have e:=WU X G b;refine#[λF=>?_,u,v,e,y];have:VV mg x=v:=by unfold VV;rw[e];show(HN u).getD .non=v;rw[y];rfl
 rw[this];exact a F
theorem Y8{R:PSp}{u:PEv}{N:LS}{b:PT}{n:Need}(X:K.In h)(G:h.Ns vx mg)(D:DZ K x st)(zC:GA n b N z st=kf)(hc:EJ (BB 0 R.md z.9) b=kf)
  (hb:∀(kV j m:kn) (q:Option ko) (l ct:kn) (us:LW),us.9=z.9->c5 (qp x x (uD st) (JC st) (NA st) .none kV j m q l ct) #[us,[]]=p7 (z.zip us))
  (i:∀g∈n.fn,CG P w K mg base Ψ k g) (v:ValsOk P w K mg Ψ n.va) (e:∀y∈n.no,qm K vx y=kx kv)
  (body:∀ts Q E,R.run ts Q E->ts.9=z.9/\pF Ψ b (iC R z.9 Q) (EA N R.md ts)) (p:u.sp x=R):CG P w K mg base u (k+1) x:=by
 let#[f,r,a,F]:=D;exact J8 F (WU X G a) (F.binds hb) zC hc i v (λy o=>QAE X G (e y o)) body p
theorem Vk{j:ko}(X:K.In h)(G:h.Ns vx mg)(D:DZ K "law" st)(p:z=[x])(g:mg "law"=kx (.ref j))(hs:Ψ.sp "law"=uT)
  (hb:∀(kV v i:kn) (l:Option ko) (b ct:kn) (us:LW),us.9=z.9->c5 (qp "law" "law" (uD st) (JC st) (NA st) .none kV v i l b ct) #[us,[]]=p7 (z.zip us))
  (H:∀base:x0,K.In base->base.Ns vx mg->∀f y,Fun K "law" "law" st f y->mg "law"=kx (.ref f)->FnOk P w K mg base i4 k f y z (lift K (Ψ.sp "law"))) :
  ∃y:gl,(∀(s:kt) (u:kn),lb s y #[[u],[]] [(x,u)])/\∀base:x0,K.In base->base.Ns vx mg->FnOk P w K mg base i4 k j y [x] (lift K uT):=by
 let#[f,y,a,F]:=D;have e:=g.symm.trans (WU X G a);cases e;subst p;refine#[y,λs u=>?_,λbase o n=>?_];let#[Y,r,kV,v,i,l,b,ct,m,rfl,lk,q]:=F.ex;exact .of_eq (hb kV v i l b ct [u] rfl);rw[<- hs];exact H base o n j y F g
end
end
theorem uB{α:Type}{body:T->(Option T->Prop)->Prop}(g f:α->T):∀(l:List α) (h:LT) (Q:LT->Prop),(∀x∈l,∀R:Option T->Prop,R (kx (f x))->body (g x) R)->h.9+l.9<=kb->Q (h++l.map f)->vD body (l.map g) h Q
 |[],h,Q,_,hl,q=>by simp only[wV,vD];exact#[by simpa using hl,by simpa using q]|x::r,h,Q,hb,hl,q=>by simp only[QT,vD];refine hb x QF _ ?_;simp only[QK]at hl;refine#[(),uB g f r _ Q (λy z=>hb y (QG _ z)) (by simp;omega) (by simpa using q)]
theorem dA{α:Type}{body:T->(Option T->Prop)->Prop}(g f:α->T)(p:α->Bool):∀(l:List α) (h:LT) (Q:LT->Prop),(∀x∈l,∀R:Option T->Prop,R (if p x=kf then kx (f x) else kv)->body (g x) R)->h.9+l.9<=kb->Q (h++(l.filter p).map f)->vD body (l.map g) h Q
 |[],h,Q,_,hl,q=>by simp only[wV,vD];exact#[by simpa using hl,by simpa using q]|x::r,h,Q,hb,hl,q=>by
  simp only[QT,vD];refine hb x QF _ ?_;simp only[QK]at hl;cases u:p x with|true=>refine#[(),dA g f p r _ Q (λy z=>hb y (QG _ z)) (by simp;omega) ?_];rw[WE,tt u]at q;simpa using q|false=>refine dA g f p r _ Q (λy z=>hb y (QG _ z)) () ?_;rw[WE,th (by rw[u];simp)]at q;exact q
theorem uS{α:Type}{xs:List α}{i:Int}(y:0<=i)(x:i<xs.9):∃v,BD xs i=kx v/\xs[i.toNat]?=kx v:=by
 have h:i.toNat<xs.length:=()
 have e:((i.toNat:Nat):Int)=i:=()
 have q:=VF (Qq h);rw[e]at q;exact#[xs[i.toNat],q,Qq h]
theorem FL{α h:Type}(f:α->h)(xs:List α)(i:Int):BD (xs.map f) i=(BD xs i).map f:=by
 unfold BD;rw[QC];cases kU xs.9 i with|none=>rfl|some j=>exact QX
theorem ZB{Ψ:PEv}{E:XE}{α:Type}{body:PT}{u:Tg}{Z:PEnds}(g:α->T)(W:List α->kA->Prop)(v:∀ρ,W [] ρ->Z.nx ρ)
  (hs:∀x xs ρ (N:kA->Prop),(∀y,W xs y->N y)->W (x::xs) ρ->nJ u (g x) ρ λz=>lB Ψ E body { Z with nx:=N,ct:=N,bk:=Z.nx } z):∀(xs:List α) (ρ:kA),W xs ρ->yI (lB Ψ E body) u Z (xs.map g) ρ
 |[],ρ,w=>v ρ w|x::xs,ρ,w=>hs x xs ρ (λh=>yI (lB Ψ E body) u Z (xs.map g) h) (λh k=>ZB g W v hs xs h k) w
noncomputable def De(y:List (Str×PSp))(h:List (Str×D)):PEv:=#[λf=>(y.lookup f).getD bn,λx=>h.lookup x]
theorem IX{P:vu}{w:x2}{K:QA}{mg:Str->Option kn}{h:x0}{v:List (Str×PSp)}{tbl:List (Str×D)}{z:LS}(X:K.In h)(G:h.Ns vx mg)(u:∀p∈tbl,MN K p.1 p.2)
  (y:(z.all λx=>(tbl.map qk).contains x)=kf):ValsOk P w K mg (De v tbl) z:=by
 refine#[λx d e F=>((u (x,d) (qL e)).inMg X G).1 F,λx k=>?_];have:=qH.mp y x k;let#[p,a,e]:=QN.mp (Q9.mp this);rw[<- e];exact((u p a).inMg X G).2
theorem vQ{α:Type}[BEq α][LawfulBEq α]{l m:List α}(h:(l.all λx=>m.contains x)=kf):∀x∈l,x∈m:=λx y=>Q9.mp (qH.mp h x y)
section
variable{a b c:PX}{i:Nat}{n:Int}{x:Str}{m:Mt}{f:Str}{g:Bi}{u:Hz}{w:fv}{is:List Bool}{h:LS}{z:Tg}{v:ItK}{y:String}
theorem EX:NF (.var i)=[i]:=rfl
theorem FO:NF (.acons a b)=NF a++NF b:=rfl
theorem ZS:NF .anil=[]:=rfl
end
def JE{α:Type}(o:Option α)(K:α->Prop):Prop:=∃a,o=kx a/\K a
theorem JE.mk{α:Type}{o:Option α}{a:α}{K:α->Prop}(e:o=kx a)(k:K a):JE o K:=#[a,e,k]
theorem sB{α:Type}{a:α}{K:α->Prop}:JE (kx a) K=K a:=t3 #[λ#[_,e,k]=>by cases e;exact k,λk=>#[a,rfl,k]]
theorem TC{α h:Type}{o:Option α}{f:α->h}{K:h->Prop}:JE (o.map f) K=JE o λa=>K (f a):=by
 cases o with|none=>exact t3 #[λ#[_,e,_]=>(by cases e),λ#[_,e,_]=>(by cases e)]|some a=>rw[Q4,sB,sB]
def jB(Ψ:PEv)(e:PX)(E:XE)(ρ:kA)(K:TK):Prop:=(pe Ψ e E).e ρ K
def aS(Ψ:PEv)(e:PX)(E:XE)(ρ:kA)(K:Bool->kA->Prop):Prop:=(pe Ψ e E).t ρ K
def BJ(Ψ:PEv)(e:PX)(E:XE)(md:List Md)(ρ:kA)(K:List (T×Bool)->kA->Prop):Prop:=(pe Ψ e E).a md ρ K
def cO(p:PSp)(ts:LT)(K:T->LT->Prop)(E:XE):Prop:=p.run ts K E
def z5(x:T)(n:Bool)(Ψ:PEv)(b:PX)(E:XE)(ρ:kA)(K:TK):Prop:=sq (nA x n) ρ (cu (pe Ψ b E).e) λy h=>K y.1 y.2 h
def MS(x:T)(n:Bool)(Ψ:PEv)(b:PX)(E:XE)(md:List Md)(ρ:kA)(K:List (T×Bool)->kA->Prop):Prop:=sq (if n=kf then .d .none else x) ρ ((pe Ψ b E).a md) K
def Hu(x:T)(n:Bool)(Ψ:PEv)(b:PX)(E:XE)(ρ:kA)(K:List (T×Bool)->kA->Prop):Prop:=sq (nA x n) ρ ((pe Ψ b E).a []) K
def IH(i:Nat)(σ ρ:kA)(K:TK):Prop:=Mi σ[i]? λt=>K t kd ρ
def M5(i:Nat)(σ:kA)(ρ:kA)(j:Nat)(R:T->kA->Prop):Prop:=Eu ρ j R σ[i]?
def NH(Ψ:PEv)(E:XE)(r:PT)(Z:PEnds)(i:Nat)(x:T)(n:Bool)(ρ:kA):Prop:=OF x n=kf/\lB Ψ E r Z (ρ.set i (bD x.er))
def Fp(Ψ:PEv)(E:XE)(r:PT)(Z:PEnds)(i:Nat)(x:T)(n:Bool)(ρ:kA):Prop:=OF x n=kf/\lB Ψ E r Z (ρ.set i (kx (.own x)))
def uC(x:T)(n:Bool)(P:Prop):Prop:=OF x n=kf/\P
def DD(h:Hz)(x:T)(n:Bool)(y:T)(m:Bool)(Q:T->Bool->Prop):Prop:=binT h (nA x n).vw (nA y m).vw Q
def KB(h:fv)(x y:T)(Q:Bool->Prop):Prop:=Nd h x.er y Q
def aa(x:T)(Q:Bool->Prop):Prop:=sI x.er Q
def Rx(x:T)(Q:Bool->Prop):Prop:=am x.er Q
def iS(f:Bi)(xs:List (T×Bool))(Q:T->Bool->Prop):Prop:=z4 f (vC xs) Q
def UA(x:T)(n:Bool)(y:T)(m:Bool)(Q:T->Prop):Prop:=pO (nA x n).vw (nA y m).vw Q∨iU (nA x n).vw y.er Q
def jo(Ψ:PEv)(E:XE)(c:PX)(q:PT)(Z:PEnds)(ρ:kA):Prop:=lB Ψ E (.whl c q) Z ρ
def Ua(t y x:T)(Q:T->Prop):Prop:=Ho t y.er x.er Q
def Xa(z t:T)(Q:T->(T->T)->Prop):Prop:=zi z.er t Q
def So(y t:T)(Q:T->Prop):Prop:=Ui y.er t Q
def jW(x:T)(n:Bool)(l u:Option Int)(Q:T->Bool->Prop):Prop:=uO (nA x n).vw l u Q
def IM(xs:List (T×Bool))(C:LT->Prop):Prop:=GE xs=kf/\C (HF xs)
def ZL(h:ItK)(xs:List (T×Bool))(R:LT->Prop):Prop:=AB h (vC xs) R
def dn(m:Mt)(x:T)(n:Bool)(xs:List (T×Bool))(Q:T->Bool->Prop):Prop:=gn m (nA x n).vw (vC xs) Q
def XA(md:List Md)(xs:List (T×Bool))(C:LT->Prop):Prop:=JE (lA md xs []) C
def ZH(Ψ:PEv)(E:XE)(mask:List Bool)(x:LS)(z:Tg)(h y:PX)(ρ:kA):T->(Option T->Prop)->Prop:=pG z (xL x.9 mask (lockA ρ)) (if isNop h=kf then λρ R=>R kf ρ else(pe Ψ h E).t) (pe Ψ y E).e
def PK(h:Tg)(x:T)(ρ:kA)(K:kA->Prop):Prop:=nJ h x ρ K
section
variable{Ψ:PEv}{E:XE}{ρ:kA}{K:TK}{L:Bool->kA->Prop}{M:List (T×Bool)->kA->Prop}{a b c X its Z U:PX}{Y:T->kA->Prop}
section
variable{i j:Nat}{x:T}{w:fv}{f t:Str}{p:PSp}{md:List Md}{n:Bool}{v m:List Bool}{l:ItK}{g:LS}{o:Tg}{R:Option T->Prop}{s:Option Sl}{σ:kA}{ts:LT}
theorem Rs{i:Int}:jB Ψ (.ng i) E ρ K=K (.d (.int (-i))) kd ρ:=rfl
theorem oh:jB Ψ (.var i) E ρ K=IH i ρ ρ K:=rfl
theorem Gg:aS Ψ (.var i) E ρ L=IH i ρ ρ λt _ ρ=>aa t λb=>L b ρ:=rfl
theorem Kh{i:Int}:jB Ψ (.int i) E ρ K=K (.d (.int i)) kd ρ:=rfl
theorem rh{x:Str}:jB Ψ (.str x) E ρ K=K (.d (.str x)) kd ρ:=rfl
theorem Ss{x:Bool}:jB Ψ (.bl x) E ρ K=K (.d (.bool x)) kd ρ:=rfl
theorem Yh:jB Ψ .non E ρ K=K (.d .none) kd ρ:=rfl
theorem DH{x:Str}{d:D}(h:Ψ.va x=kx d):jB Ψ (.glo x) E ρ K=K (.d d) kd ρ:=by show(match Ψ.va x with|some d=>K (.d d) kd ρ|none=>False)=_;rw[h]
theorem Ch{w:Hz}:jB Ψ (.bin w a b) E ρ K=jB Ψ a E ρ λx n u=>z5 x n Ψ b E u λy m h=>DD w x n y m λz k=>K z k h:=rfl
theorem Hg:aS Ψ (.cmp w a b) E ρ L=jB Ψ a E ρ λx n z=>z5 x n Ψ b E z λy m h=>KB w x (nA y m) λk=>L k h:=rfl
theorem Bh:jB Ψ (.cmp w a b) E ρ K=aS Ψ (.cmp w a b) E ρ λk h=>K (.d (.bool k)) kd h:=rfl
theorem Dh:jB Ψ (.and a b) E ρ K=jB Ψ a E ρ λx _ h=>Rx x λc=>if c=kf then jB Ψ b E h K else K (.d (.bool kd)) kd h:=rfl
theorem i9:aS Ψ (.and a b) E ρ L=aS Ψ a E ρ λc h=>if c=kf then aS Ψ b E h L else L kd h:=rfl
theorem Vm:aS Ψ (.or a b) E ρ L=aS Ψ a E ρ λc h=>if c=kf then L kf h else aS Ψ b E h L:=rfl
theorem Jh:jB Ψ (.not a) E ρ K=jB Ψ a E ρ λx _ h=>aa x λc=>K (.d (.bool (!c))) kd h:=rfl
theorem zA(h:Ψ.sp f=p)(F:p.md=md)(C:(md.all λm=>!m.isMut)=kf):jB Ψ (.call f X) E ρ K=BJ Ψ X E md ρ λxs y=>XA md xs λts=>cO p ts (λr u=>u=[]/\K r kf y) E:=by
 have A:∀(md:List Md) (X:PX),(md.all λm=>!m.isMut)=kf->vA md X=[]:=by
  intro md;induction md with
  |nil=>intro X _;cases X<;>rfl|cons m md B =>
   intro X h;rw[qa,Qg]at h;cases m with
   |chg=>cases h.1|_=>cases X with|acons a X=>exact B X h.2|_=>rfl
 show(∃u,rA (vA (Ψ.sp f).md X) ρ=kx u/\(vA (Ψ.sp f).md X).Nodup/\(pe Ψ X E).a (Ψ.sp f).md (clear (vA (Ψ.sp f).md X) ρ) λxs y=>∃ts,lA (Ψ.sp f).md xs u=kx ts/\(Ψ.sp f).run ts (λr q=>∃z,dB (vA (Ψ.sp f).md X) q y=kx z/\K r kf z) E)=_;rw[h,F,A md X C];have W:∀(r:T) (u:LT) (y:kA),(∃z,dB [] u y=kx z/\K r kf z)=(u=[]/\K r kf y):=by
  intro r u y;cases u with|nil=>exact t3 #[λ#[_,e,k]=>by cases e;exact#[rfl,k],λk=>#[_,rfl,k.2]]|cons _ _=>exact t3 #[λ#[_,e,k]=>(by cases e),λk=>(by cases k.1)]
 have:=λ(y:kA)=>funext λr=>funext λu=>W r u y;simp only[this];exact t3 #[λ#[_,e,_,k]=>by cases e;exact k,λk=>#[_,rfl,Qx,k]]
theorem e9:aS Ψ (.call f X) E ρ L=jB Ψ (.call f X) E ρ λt _ h=>aa t λb=>L b h:=rfl
theorem Ts{f:Bi}:jB Ψ (.bi f X) E ρ K=BJ Ψ X E [] ρ λxs h=>iS f xs λz k=>K z k h:=rfl
theorem B7{m:Mt}{z:Str}(h:isMut m=kd):dR m (nA (.d (.str z)) n).vw=true:=by cases n<;>cases m<;>first|rfl|cases h
theorem CZ:jB Ψ (.mt .split a X) E ρ K=jB Ψ a E ρ λx n y=>dR .split (nA x n).vw=kf/\Hu x n Ψ X E y λxs h=>dn .split x n xs λz k=>K z k h:=rfl
theorem D9:jB Ψ (.mt .join a X) E ρ K=jB Ψ a E ρ λx n y=>dR .join (nA x n).vw=kf/\Hu x n Ψ X E y λxs h=>dn .join x n xs λz k=>K z k h:=rfl
theorem eh:jB Ψ (.mt .pop (.var j) X) E ρ K=xC ρ[j]? λt=>RI .pop t=kf/\BJ Ψ X E [] (ρ.set j (kx (.bor t))) λxs h=>GE xs=kf/\h[j]?=kx (kx (.bor t))/\zL .pop t (HF xs) λr s'=>K r kf (h.set j (kx (.own s'))):=rfl
theorem F9{x:Bool}:jB Ψ (.dnew x) E ρ K=K (.dct x [] []) kf ρ:=rfl
theorem Uh:jB Ψ (.dsp a b) E ρ K=jB Ψ a E ρ λy m z=>uC y m (jB Ψ b E z λx n h=>uC x n (AC kf y.er/\K (.dct kf [y.er] [x]) kf h)):=rfl
theorem cH(h:Ψ.sp f=p)(O:p.md=.chg::md)(N:(md.all λm=>!m.isMut)=kf):jB Ψ (.call f (.acons (.var j) X)) E ρ K=xC ρ[j]? λt=>BJ Ψ X E md (ρ.set j kv) λxs y=>XA md xs λts=>cO p (t::ts) (λr u=>∃t',u=[t']/\K r kf (y.set j (kx (.own t')))) E:=by
 have I:∀(md:List Md) (X:PX),(md.all λm=>!m.isMut)=kf->vA md X=[]:=by
  intro md;induction md with
  |nil=>intro X _;cases X<;>rfl|cons m md J =>
   intro X h;rw[qa,Qg]at h;cases m with
   |chg=>cases h.1|_=>cases X with|acons a X=>exact J X h.2|_=>rfl
 show(∃u,rA (vA (Ψ.sp f).md (.acons (.var j) X)) ρ=kx u/\(vA (Ψ.sp f).md (.acons (.var j) X)).Nodup/\(pe Ψ (.acons (.var j) X) E).a (Ψ.sp f).md (clear (vA (Ψ.sp f).md (.acons (.var j) X)) ρ) λxs y=>∃ts,lA (Ψ.sp f).md xs u=kx ts/\(Ψ.sp f).run ts (λr q=>∃W,dB (vA (Ψ.sp f).md (.acons (.var j) X)) q y=kx W/\K r kf W) E)=_;rw[h,O];have P:vA (.chg::md) (.acons (.var j) X)=[j]:=by show j::vA md X=[j];rw[I md X N]
 rw[P];have A:∀(r:T) (u:LT) (y:kA),(∃W,dB [j] u y=kx W/\K r kf W)=(∃t',u=[t']/\K r kf (y.set j (kx (.own t')))):=by
  intro r u y
  match u with
  |[]=>exact t3 #[λ#[_,e,k]=>(by cases e),λ#[_,e,k]=>(by cases e)]|[t]=>exact t3 #[λ#[_,e,k]=>by cases e;exact#[t,rfl,k],λ#[_,e,k]=>by cases e;exact#[_,rfl,k]]|_::_::_=>exact t3 #[λ#[_,e,k]=>(by cases e),λ#[_,e,k]=>(by cases e)]
 have B:=λ(y:kA)=>funext λr=>funext λu=>A r u y;simp only[B];have C:∀(t:T) (xs:List (T×Bool)) (G:LT->Prop),(∃ts,lA (.chg::md) ((.d .none,kf)::xs) [t]=kx ts/\G ts)=XA md xs λts=>G (t::ts):=by
  intro t xs G;show(∃ts,(lA md xs []).map (t::·)=kx ts/\G ts)=JE (lA md xs []) λts=>G (t::ts);cases lA md xs []with|none=>exact t3 #[λ#[_,e,_]=>(by cases e),λ#[_,e,_]=>(by cases e)]|some ts=>exact t3 #[λ#[_,e,k]=>by cases e;exact#[_,rfl,k],λ#[_,e,k]=>by cases e;exact#[_,rfl,k]]
 have F:∀t,ρ[j]?=kx (kx (.own t))->rA [j] ρ=kx [t]:=λt e=>by unfold rA;rw[e];rfl
 have Q:∀(u:LT),((pe Ψ (.acons (.var j) X) E).a (.chg::md) (clear [j] ρ) λxs y=>∃ts,lA (.chg::md) xs u=kx ts/\p.run ts (λr q=>∃t',q=[t']/\K r kf (y.set j (kx (.own t')))) E)=(BJ Ψ X E md (ρ.set j kv) λxs y=>∃ts,lA (.chg::md) ((.d .none,kf)::xs) u=kx ts/\p.run ts (λr q=>∃t',q=[t']/\K r kf (y.set j (kx (.own t')))) E):=λu=>t3 #[λh=>h.2,λh=>#[rfl,h]];simp only[Q]
 match e:ρ[j]? with
 |some (kx (.own t))=>show _=(BJ Ψ X E md (ρ.set j kv) λxs y=>XA md xs λts=>cO p (t::ts) (λr u=>∃t',u=[t']/\K r kf (y.set j (kx (.own t')))) E);rw[F t e];have:=λxs (y:kA)=>C t xs λts=>p.run ts (λr q=>∃t',q=[t']/\K r kf (y.set j (kx (.own t')))) E;refine t3 #[λ#[_,e,_,k]=>?_,λk=>#[_,rfl,by simp,?_]];cases e;simp only[this]at k;exact k;simp only[this];exact k|some (kx (.bor t))=>exact t3 #[λ#[_,z,_]=>(by unfold rA at z;rw[e]at z;cases z),λk=>k.elim]|some kv=>exact t3 #[λ#[_,z,_]=>(by unfold rA at z;rw[e]at z;cases z),λk=>k.elim]|none=>exact t3 #[λ#[_,z,_]=>(by unfold rA at z;rw[e]at z;cases z),λk=>k.elim]
theorem mV:jB Ψ (.mt .extend (.var j) X) E ρ K=xC ρ[j]? λt=>RI .extend t=kf/\BJ Ψ X E [] (ρ.set j (kx (.bor t))) λxs h=>GE xs=kf/\h[j]?=kx (kx (.bor t))/\zL .extend t (HF xs) λr s'=>K r kf (h.set j (kx (.own s'))):=rfl
theorem nV:jB Ψ (.mt .append (.var j) X) E ρ K=xC ρ[j]? λt=>RI .append t=kf/\BJ Ψ X E [] (ρ.set j (kx (.bor t))) λxs h=>GE xs=kf/\h[j]?=kx (kx (.bor t))/\zL .append t (HF xs) λr s'=>K r kf (h.set j (kx (.own s'))):=rfl
theorem Vh:jB Ψ (.idx a b) E ρ K=jB Ψ a E ρ λx n u=>z5 x n Ψ b E u λy m h=>UA x n y m λz=>K z kd h:=rfl
theorem Zh:jB Ψ (.lst X) E ρ K=BJ Ψ X E [] ρ λxs y=>xs.9<=kb/\IM xs λts=>K (.lst ts) kf y:=by have:∀(xs:List (T×Bool)) y,(xs.9<=kb/\IM xs λts=>K (.lst ts) kf y)=(GE xs=kf/\xs.9<=kb/\K (.lst (HF xs)) kf y):=λxs y=>t3 #[λh=>#[h.2.1,h.1,h.2.2],λh=>#[h.2.1,h.1,h.2.2]];simp only[this];rfl
theorem ph:jB Ψ (.tup X) E ρ K=BJ Ψ X E [] ρ λxs y=>xs.9<=kb/\IM xs λts=>K (zD ts) kf y:=by have:∀(xs:List (T×Bool)) y,(xs.9<=kb/\IM xs λts=>K (zD ts) kf y)=(GE xs=kf/\xs.9<=kb/\K (zD (HF xs)) kf y):=λxs y=>t3 #[λh=>#[h.2.1,h.1,h.2.2],λh=>#[h.2.1,h.1,h.2.2]];simp only[this];rfl
theorem Xh:jB Ψ (.eff (.comp v [t] (.nm 0) l its .nop Z)) E ρ K=BJ Ψ its E [] ρ λxs u=>FN xs=kf/\ZL l xs λy=>KH (.nm 0) 1 (jB Ψ Z (λ_=>False)) y [] (PB v u) λds z=>K (.lst (ds.map T.d)) kf z:=t3 #[λh=>h.2,λh=>#[#[rfl,rfl],h]]
theorem aP{α:Type}{e:kA->TK->Prop}(f:α->T)(Inv:List α->List D->kA->Prop){Q:List D->kA->Prop}(done:∀z ρ,Inv [] z ρ->z.9<=kb/\Q z ρ)
  (k:∀x xs z ρ (N:D->kA->Prop),(∀y u,Inv xs (z++[y]) u->N y u)->Inv (x::xs) z ρ->z.9<kb/\e (kx (.bor (f x))::ρ) λy n r=>uC y n (N y.er (r.drop 1))):∀xs z ρ,Inv xs z ρ->KH (.nm 0) 1 e (xs.map f) z ρ Q
 |[],z,ρ,h=>done z ρ h|x::xs,z,ρ,h=>by
  let#[hl,q]:=k x xs z ρ (λy u=>KH (.nm 0) 1 e (xs.map f) (z++[y]) u Q) (λy u A=>aP f Inv done k xs _ u A) h;have W:e (kx (.bor (f x))::ρ) λy n r=>OF y n=kf/\z.9<kb/\KH (.nm 0) 1 e (xs.map f) (z++[y.er]) (r.drop 1) Q:=by simpa only[uC,hl,true_and]using q
  exact W
theorem G9:jB Ψ (.comp v g o l its U Z) E ρ K=BJ Ψ its E [] ρ λxs y=>ZL l xs λh =>
   vD (ZH Ψ (λ_=>False) v g o U Z y) h [] λys=>K (.lst ys) kf y:=rfl
theorem Yg:ZH Ψ E [] [t] (.nm 0) .nop Z ρ x R=jB Ψ Z E (kx (.bor x)::lockA ρ) λy n _=>uC y n (R (kx y)):=rfl
theorem r9{u:Str}{x y:D}:ZH Ψ E [] [t,u] (.tp [0,1]) .nop Z ρ (.d (.tuple [x,y])) R=jB Ψ Z E (bD x::bD y::lockA ρ) λy n _=>uC y n (R (kx y)):=sB
theorem Mr{b:Bool}:ZH Ψ E (b::m) [t] (.nm 0) .nop Z ρ x R=jB Ψ Z E (kx (.bor x)::PB (b::m) (lockA ρ)) λy n _=>uC y n (R (kx y)):=rfl
theorem Zg:ZH Ψ E [] [t] (.nm 0) (.cmp w a b) Z ρ x R=aS Ψ (.cmp w a b) E (kx (.bor x)::lockA ρ) λk h=>if k=kf then jB Ψ Z E h λy n _=>uC y n (R (kx y)) else R none:=rfl
theorem Fh:BJ Ψ .anil E md ρ M=M [] ρ:=rfl
theorem O9:BJ Ψ (.acons a X) E [] ρ M=jB Ψ a E ρ λx n y=>MS x n Ψ X E [] y λxs h=>M ((x,n)::xs) h:=rfl
theorem pV:BJ Ψ (.acons a X) E (.shal::md) ρ M=jB Ψ a E ρ λx n y=>MS x n Ψ X E md y λxs h=>M ((x,n)::xs) h:=rfl
theorem rV:BJ Ψ (.acons a X) E (.bor::md) ρ M=jB Ψ a E ρ λx n y=>MS x n Ψ X E md y λxs h=>M ((x,n)::xs) h:=rfl
theorem yh:xE Ψ E Y (.var i) ρ=M5 i ρ ρ i Y:=rfl
theorem vh:xE Ψ E Y (.ife c a b) ρ=aS Ψ c E ρ λk h=>if k=kf then xE Ψ E Y a h else xE Ψ E Y b h:=rfl
theorem Er{x:Bool}:xE Ψ E Y (.bl x) ρ=Y (.d (.bool x)) ρ:=t3 #[λh=>h.2,λh=>#[rfl,h]]
theorem V9:xE Ψ E Y (.call f X) ρ=jB Ψ (.call f X) E ρ λx n h=>uC x n (Y x h):=rfl
theorem bh{w:Hz}:xE Ψ E Y (.bin w a b) ρ=jB Ψ (.bin w a b) E ρ λx n h=>uC x n (Y x h):=rfl
theorem uh:xE Ψ E Y (.cmp w a b) ρ=jB Ψ (.cmp w a b) E ρ λx n h=>uC x n (Y x h):=rfl
theorem dh:xE Ψ E Y (.and a b) ρ=jB Ψ (.and a b) E ρ λx n h=>uC x n (Y x h):=rfl
theorem Ir{f:Bi}:xE Ψ E Y (.bi f X) ρ=jB Ψ (.bi f X) E ρ λx n h=>uC x n (Y x h):=rfl
theorem xh:xE Ψ E Y (.idx a b) ρ=jB Ψ (.idx a b) E ρ λx n h=>uC x n (Y x h):=rfl
theorem zh:xE Ψ E Y (.tup X) ρ=jB Ψ (.tup X) E ρ λx n h=>uC x n (Y x h):=rfl
theorem kh:xE Ψ E Y (.lst X) ρ=jB Ψ (.lst X) E ρ λx n h=>uC x n (Y x h):=rfl
theorem K9:xE Ψ E Y (.comp v g o l its U Z) ρ=jB Ψ (.comp v g o l its U Z) E ρ λx n h=>uC x n (Y x h):=rfl
theorem Sy:IH (i+1) (s::σ) ρ K=IH i σ ρ K:=rfl
theorem jz{t:T}:IH 0 (kx (.bor t)::σ) ρ K=K t kd ρ:=rfl
theorem Ay{t:T}:IH 0 (kx (.own t)::σ) ρ K=K t kd ρ:=rfl
theorem Iy:IH i (lockA σ) ρ K=IH i σ ρ K:=by
 unfold IH lockA;rw[QX];cases σ[i]? with
 |none=>rfl|some s=>cases s with|none=>rfl|some s=>cases s<;>rfl
theorem Ey{b:Bool}:IH (i+1) (PB (b::m) (lockA (s::σ))) ρ K=IH i (PB m (lockA σ)) ρ K:=rfl
theorem Os:IH 0 (PB (false::m) (lockA (s::σ))) ρ K=IH 0 (lockA (s::σ)) ρ K:=rfl
theorem Ms:IH i (PB [] (lockA σ)) ρ K=IH i (lockA σ) ρ K:=rfl
theorem Oy:M5 (i+1) (s::σ) ρ j Y=M5 i σ ρ j Y:=rfl
theorem Ry{x:D}:M5 0 (bD x::σ) ρ j Y=Y (.d x) ρ:=t3 #[λh=>h.2,λh=>#[rfl,h]]
theorem Py{t:T}:M5 0 (kx (.own t)::σ) ρ j Y=Y t (ρ.set j kv):=rfl
theorem Ix{x:D}:z5 (.d x) n Ψ b E ρ K=jB Ψ b E ρ K:=by cases n<;>rfl
theorem Tx:z5 x kf Ψ b E ρ K=jB Ψ b E ρ K:=rfl
theorem Ax:z5 (.lst ts) kd Ψ b E ρ K=jB Ψ b E (lockA ρ) λy m _=>K y m ρ:=rfl
theorem Fy{x:D}:MS (.d x) n Ψ b E md ρ M=BJ Ψ b E md ρ M:=by cases n<;>rfl
theorem Cy:MS x kf Ψ b E md ρ M=BJ Ψ b E md ρ M:=rfl
theorem Dy:MS (.lst ts) kd Ψ b E md ρ M=BJ Ψ b E md (lockA ρ) λxs _=>M xs ρ:=rfl
theorem Ky{x:D}:Hu (.d x) n Ψ b E ρ M=BJ Ψ b E [] ρ M:=by cases n<;>rfl
end
end
section
variable{Ψ:PEv}{E:XE}{ρ σ:kA}{Z:PEnds}{s r q:PT}{i:Nat}{e c its:PX}{o:Option Sl}{n:Bool}{v:D}{P:Prop}{ds:List D}{x:T}
section
variable{j:Nat}{a k:PX}{is:LN}{A B:Prop}
theorem jA:lB Ψ E .nil Z ρ=Z.nx ρ:=rfl
theorem Og:lB Ψ E (.seq (.set i e) r) Z (o::σ)=jB Ψ e E (o::σ) λx n h=>NH Ψ E r Z i x n h:=rfl
theorem Ag:lB Ψ E (.seq (.own i e) r) Z (o::σ)=jB Ψ e E (o::σ) λx n h=>Fp Ψ E r Z i x n h:=rfl
theorem Z9:lB Ψ E (.seq (.expr e) r) Z (o::σ)=jB Ψ e E (o::σ) λ_ _ h=>lB Ψ E r Z h:=rfl
theorem Rg:lB Ψ E (.seq (.ret e) r) Z (o::σ)=xE Ψ E Z.rt e (o::σ):=rfl
theorem Eg:lB Ψ E (.seq (.ife c s .nil) r) Z (o::σ)=aS Ψ c E (o::σ) λk h=>if k=kf then lB Ψ E s { Z with nx:=λy=>lB Ψ E r Z y } h else lB Ψ E r Z h:=rfl
theorem jh{u:Tg}{b:ItK}:lB Ψ E (.seq (.for_ u b its q) r) Z (o::σ)=BJ Ψ its E [] (o::σ) λxs h=>ZL b xs λy =>
   if FN xs=kf then yI (lB Ψ E q) u { Z with nx:=λz=>lB Ψ E r Z (kill u.ix z) } y h
   else yI (lB Ψ E q) u { Z with nx:=λz=>XV u.ix (oC h (NF its)) h (λw=>lB Ψ E r Z w) (kill u.ix z) } y (lock (oC h (NF its)) h):=rfl
theorem Ng:lB Ψ E (.seq (.six (.var j) a e) r) Z (o::σ)=xC (o::σ)[j]? λt=>jB Ψ e E ((o::σ).set j (kx (.bor t))) λx n z=>uC x n (jB Ψ a E z λy m h=>uC y m (h[j]?=kx (kx (.bor t))/\Ua t y x λt'=>lB Ψ E r Z (h.set j (kx (.own t'))))):=rfl
theorem Y9:lB Ψ E (.seq (.six (.idx (.var j) k) a e) r) Z (o::σ)=xC (o::σ)[j]? λt=>jB Ψ e E ((o::σ).set j (kx (.bor t))) λx n w=>uC x n (jB Ψ k E w λz l u=>uC z l (Xa z t λs put=>jB Ψ a E u λy m h=>uC y m (h[j]?=kx (kx (.bor t))/\Ua s y x λs'=>lB Ψ E r Z (h.set j (kx (.own (put s'))))))):=rfl
theorem Mg{i:Nat}:lB Ψ E (.seq (.sxo j i) r) Z (o::σ)=xC (o::σ)[j]? λt=>i≠j/\Mi (o::σ)[i]? λy=>∃d,y=.d d/\ft d t λt'=>lB Ψ E r Z ((o::σ).set j (kx (.own t'))):=rfl
theorem Sg:lB Ψ E (.seq (.pap j k a) r) Z (o::σ)=xC (o::σ)[j]? λt=>jB Ψ k E ((o::σ).set j (kx (.bor t))) λz l y=>uC z l (Xa z t λs put=>∃us,s=.lst us/\jB Ψ a E y λx n h=>uC x n (h[j]?=kx (kx (.bor t))/\us.9<kb/\lB Ψ E r Z (h.set j (kx (.own (put (.lst (us++[.d x.er])))))))):=rfl
theorem Pg:lB Ψ E (.seq (.sdf j k) r) Z (o::σ)=xC (o::σ)[j]? λt=>Fd t=kf/\jB Ψ k E ((o::σ).set j (kx (.bor t))) λy m h=>uC y m (h[j]?=kx (kx (.bor t))/\So y t λt'=>lB Ψ E r Z (h.set j (kx (.own t')))):=rfl
theorem J9:lB Ψ E (.seq (.tset is e) r) Z (o::σ)=jB Ψ e E (o::σ) λx n y=>uC x n (PK (.tp is) (.d x.er) y λh=>lB Ψ E r Z h):=rfl
theorem Ig:lB Ψ E (.seq (.frz is s) r) Z (o::σ)=lB Ψ E (.seq s r) Z (frzAt is (o::σ)):=rfl
theorem Lg:lB Ψ E (.seq (.whl c q) r) Z (o::σ)=jo Ψ E c q { Z with nx:=λh=>lB Ψ E r Z h } (o::σ):=rfl
theorem By:NH Ψ E r Z i (.d v) n ρ=lB Ψ E r Z (ρ.set i (bD v)):=t3 #[λh=>h.2,λh=>#[by cases n<;>rfl,h]]
theorem lx:NH Ψ E r Z i (.lst (ds.map T.d)) kf ρ=lB Ψ E r Z (ρ.set i (bD (.list ds))):=by unfold NH T.er;rw[JA];exact t3 #[λh=>h.2,λh=>#[rfl,h]]
theorem uy:Fp Ψ E r Z i x kf ρ=lB Ψ E r Z (ρ.set i (kx (.own x))):=t3 #[λh=>h.2,λh=>#[rfl,h]]
theorem zz:uC (.d v) n P=P:=t3 #[λh=>h.2,λh=>#[by cases n<;>rfl,h]]
theorem yz:uC x kf P=P:=t3 #[λh=>h.2,λh=>#[rfl,h]]
theorem MY:(([]:LT)=[]/\P)=P:=t3 #[λh=>h.2,λh=>#[rfl,h]]
theorem Lq:(if(true:Bool)=kf then A else B)=A:=rfl
theorem Mq:(if(false:Bool)=kf then A else B)=B:=rfl
theorem Yy{v h:Option Sl}:lB Ψ E r Z (ww (h::σ) 0 v)=lB Ψ E r Z (v::σ):=rfl
theorem Jy{v h y:Option Sl}:lB Ψ E r Z (ww (h::y::σ) 1 v)=lB Ψ E r Z (h::v::σ):=rfl
theorem iy{v y h z:Option Sl}:lB Ψ E r Z (ww (y::h::z::σ) 2 v)=lB Ψ E r Z (y::h::v::σ):=rfl
theorem ay{v z y h u:Option Sl}:lB Ψ E r Z (ww (z::y::h::u::σ) 3 v)=lB Ψ E r Z (z::y::h::v::σ):=rfl
theorem sy{v u z y h w:Option Sl}:lB Ψ E r Z (ww (u::z::y::h::w::σ) 4 v)=lB Ψ E r Z (u::z::y::h::v::σ):=rfl
theorem oy{v w u z y h b:Option Sl}:lB Ψ E r Z (ww (w::u::z::y::h::b::σ) 5 v)=lB Ψ E r Z (w::u::z::y::h::v::σ):=rfl
theorem ny{v b w u z y h f:Option Sl}:lB Ψ E r Z (ww (b::w::u::z::y::h::f::σ) 6 v)=lB Ψ E r Z (b::w::u::z::y::h::v::σ):=rfl
theorem ly{v f b w u z y h g:Option Sl}:lB Ψ E r Z (ww (f::b::w::u::z::y::h::g::σ) 7 v)=lB Ψ E r Z (f::b::w::u::z::y::h::v::σ):=rfl
theorem gy{v g f b w u z y h l:Option Sl}:lB Ψ E r Z (ww (g::f::b::w::u::z::y::h::l::σ) 8 v)=lB Ψ E r Z (g::f::b::w::u::z::y::h::v::σ):=rfl
theorem cy{v l g f b w u z y h m:Option Sl}:lB Ψ E r Z (ww (l::g::f::b::w::u::z::y::h::m::σ) 9 v)=lB Ψ E r Z (l::g::f::b::w::u::z::y::h::v::σ):=rfl
theorem Bs{v p m l g f b w u z y h:Option Sl}:lB Ψ E r Z (ww (p::m::l::g::f::b::w::u::z::y::h::σ) 10 v)=lB Ψ E r Z (p::m::l::g::f::b::w::u::z::y::v::σ):=rfl
theorem Us{v X p m l g f b w u z h y:Option Sl}:lB Ψ E r Z (ww (X::p::m::l::g::f::b::w::u::z::h::y::σ) 11 v)=lB Ψ E r Z (X::p::m::l::g::f::b::w::u::z::h::v::σ):=rfl
theorem Xs{v Y X p m l g f b w u y h z:Option Sl}:lB Ψ E r Z (ww (Y::X::p::m::l::g::f::b::w::u::y::h::z::σ) 12 v)=lB Ψ E r Z (Y::X::p::m::l::g::f::b::w::u::y::h::v::σ):=rfl
theorem Vs{v W Y X p m l g f b w z y h u:Option Sl}:lB Ψ E r Z (ww (W::Y::X::p::m::l::g::f::b::w::z::y::h::u::σ) 13 v)=lB Ψ E r Z (W::Y::X::p::m::l::g::f::b::w::z::y::h::v::σ):=rfl
end
end
section
variable{d:D}{n m:Bool}{i j:Int}{z y:Str}{b:Bool}{xs:List (T×Bool)}{ts:LT}{ds es:List D}{md:List Md}{t:T}{C:LT->Prop}{Q:T->Bool->Prop}{L:Bool->Prop}{R:T->Prop}{W:LT->Prop}
section
variable{ρ:kA}{P:kA->Prop}{e k:D}{v:fv}{ks:List D}{kvs:List (D×D)}{l u:Option Int}
theorem Fg{J:LN}{x:kA}{N:kA->Prop}:XV J [] x N ρ=N ρ:=t3 #[λh=>h.2,λh=>#[λ_ z=>(nomatch z),h]]
theorem fA{α:Type}(f:α->D)(l:List α):l.map (λc=>T.d (f c))=(l.map f).map T.d:=by rw[QU];rfl
theorem cF:(nA (.lst (ds.map T.d)) n).vw=.ls (ds.map T.d):=by cases n;rfl;show Vw.ls ((ersT (ds.map T.d)).map T.d)=_;rw[JA]
theorem gh:XA md [] C=C []:=sB
theorem zy:XA [] ((.d d,n)::xs) C=XA [] xs λts=>C (.d d::ts):=by
 have e:lA [] ((.d d,n)::xs) []=(lA [] xs []).map (.d d::·):=by cases n<;>rfl
 unfold XA;rw[e,TC]
theorem yy:XA [] ((.lst (ds.map T.d),kf)::xs) C=XA [] xs λts=>C (.d (.list ds)::ts):=by have e:lA [] ((.lst (ds.map T.d),kf)::xs) []=(lA [] xs []).map (.d (.list (ersT (ds.map T.d)))::·):=rfl;unfold XA;rw[e,TC,JA]
theorem ky:XA (.bor::md) ((t,kd)::xs) C=XA md xs λts=>C (t::ts):=by have e:lA (.bor::md) ((t,kd)::xs) []=(lA md xs []).map (t::·):=rfl;unfold XA;rw[e,TC]
theorem i5:yD (.lst (ds.map T.d))=kx (.lst (ds.map T.d)):=by simp only[yD,T.vw,HA,Q4]
theorem jy{u:T}(h:yD (nA t n)=kx u):XA (.shal::md) ((t,n)::xs) C=XA md xs λts=>C (u::ts):=by
 have e:lA (.shal::md) ((t,n)::xs) []=(lA md xs []).map (u::·):=by show(match yD (nA t n) with|some t=>(lA md xs []).map (t::·)|none=>kv)=_;rw[h]
 unfold XA;rw[e,TC]
theorem js:XA (.shal::md) ((.lst (ds.map T.d),n)::xs) C=XA md xs λts=>C (.lst (ds.map T.d)::ts):=jy (by cases n;exact i5;show yD (.d (.list (ersT (ds.map T.d))))=_;rw[JA];simp only[yD,T.vw,HA,Q4])
theorem mh:IM [] C=C []:=t3 #[λh=>h.2,λh=>#[rfl,h]]
theorem xx:IM ((.lst (ds.map T.d),kf)::xs) C=IM xs λts=>C (.lst (ds.map T.d)::ts):=by show((OF (.lst (ds.map T.d)) kf&&GE xs)=kf/\C (.lst (ds.map T.d)::HF xs))=(GE xs=kf/\C (.lst (ds.map T.d)::HF xs));rw[show OF (.lst (ds.map T.d)) kf=kf from rfl,WK]
theorem Uy:IM ((.d d,n)::xs) C=IM xs λts=>C (.d d::ts):=by show((OF (.d d) n&&GE xs)=kf/\C (.d d::HF xs))=(GE xs=kf/\C (.d d::HF xs));rw[show OF (.d d) n=kf by cases n<;>rfl,WK]
theorem FZ{i j:Nat}{x y:D}:PK (.tp [i,j]) (.d (.tuple [x,y])) ρ P=P ((ρ.set i (bD x)).set j (bD y)):=sB
theorem yt{i:Nat}:PK (.nm i) t ρ P=P (ρ.set i (kx (.bor t))):=rfl
theorem Xr{h:Tg}:nJ h t ρ P=PK h t ρ P:=rfl
theorem Dg:DD .Add (.d (.int i)) n (.d (.int j)) m Q=Q (.d (.int (i+j))) false:=by unfold DD;rw[pA,pA];exact gm i j
theorem Cg:DD .Add (.d (.str z)) n (.d (.str y)) m Q=(z.9+y.9<=kb/\Q (.d (.str (z++y))) kd):=by unfold DD;rw[pA,pA];exact cm z y
theorem Vg:DD .Sub (.d (.int i)) n (.d (.int j)) m Q=Q (.d (.int (i - j))) false:=by unfold DD;rw[pA,pA];exact vm i j
theorem Xg:DD .Mult (.d (.int i)) n (.d (.int j)) m Q=(lv i j/\Q (.d (.int (i * j))) kd):=by unfold DD;rw[pA,pA];exact km i j
theorem Bg:DD .FloorDiv (.d (.int i)) n (.d (.int j)) m Q=((0<j/\j<2 ^ 200)/\Q (.d (.int (i / j))) kd):=by unfold DD;rw[pA,pA];exact zm i j
theorem Ug:DD .Mod (.d (.int i)) n (.d (.int j)) m Q=(0<j/\Q (.d (.int (i % j))) kd):=by unfold DD;rw[pA,pA];exact ym i j
theorem Sr:DD .Add (.lst (ds.map T.d)) n (.lst (es.map T.d)) m Q=(ds.9+es.9<=kb/\Q (.lst ((ds++es).map T.d)) kf):=by unfold DD;rw[cF,cF,um,HA,HA];exact t3 #[λ#[_,_,x,h,k]=>by cases x;cases h;exact k,λk=>#[_,_,rfl,rfl,k]]
theorem Rr:DD .Add (.d (.tuple ds)) n (.d (.tuple es)) m Q=((ds≠[]/\es≠[]/\ds.9+es.9<=kb)/\Q (.d (.tuple (ds++es))) kd):=by unfold DD;rw[pA,pA];show binT .Add (.tp (ds.map T.d)) (.tp (es.map T.d)) Q=_;rw[xm,HA,HA];exact t3 #[λ#[_,_,f,a,w,x,h,k]=>by cases f;cases a;exact#[#[w,x,h],k],λ#[#[w,x,h],k]=>#[_,_,rfl,rfl,w,x,h,k]]
theorem Ar:DD .Add t n (.lst [.d d,.d e]) m Q=DD .Add t n (.lst ([d,e].map T.d)) m Q:=rfl
theorem mk_2:zD [.d d,.d e]=.d (.tuple [d,e]):=rfl
theorem nq{f g:D}:zD [.d d,.d e,.d f,.d g]=.d (.tuple [d,e,f,g]):=rfl
theorem mk_1:zD [.d d]=.d (.tuple [d]):=rfl
theorem rg:KB .Eq (.d (.int i)) (.d (.int j)) L=L (decide (i=j)):=rfl
theorem lg:KB .Eq (.d (.str z)) (.d (.str y)) L=L (decide (z=y)):=rfl
theorem ug:KB .NotEq (.d (.str z)) (.d (.str y)) L=L (!decide (z=y)):=rfl
theorem gr:KB .Lt (.d (.int i)) (.d (.int j)) L=L (decide (i<j)):=rfl
theorem A8:KB v (.d d) (.lst (ds.map T.d)) L=PR v d (.list ds) L:=by show PR v d (.list (ersT (ds.map T.d))) L=_;rw[JA]
theorem nr:KB .Gt (.d (.int i)) (.d (.int j)) L=L (decide (j<i)):=rfl
theorem Px:KB v t (nA (.d d) m) L=KB v t (.d d) L:=by rw[pA]
theorem Kr:KB v t (nA (.lst (ds.map T.d)) kf) L=KB v t (.d (.list ds)) L:=by show KB v t (.d (.list (ersT (ds.map T.d)))) L=_;rw[JA]
theorem Yr{u:T}:KB v t (nA u kd) L=KB v t u L:=rfl
theorem fg:KB .In (.d (.str z)) (.d (.list ds)) L=(((SA (.str z)=kf/\ds.all SA=kf)∨(FF (.str z)/\FF (.list ds)))/\L (ds.any λy=>Qt y (.str z))):=rfl
theorem v9:KB .NotIn (.d (.str z)) (.d (.list ds)) L=(((SA (.str z)=kf/\ds.all SA=kf)∨(FF (.str z)/\FF (.list ds)))/\L (!(ds.any λy=>Qt y (.str z)))):=rfl
theorem k9:KB .NotIn (.d (.str z)) (.lst (ds.map T.d)) L=(((SA (.str z)=kf/\ds.all SA=kf)∨(FF (.str z)/\FF (.list ds)))/\L (!(ds.any λy=>Qt y (.str z)))):=by exact A8
theorem x9:KB .In (.d d) (.dct b ks ts) L=(AC b d/\L (cA ks d).isSome):=by show(AC b d/\((CmpOp.In=.In/\L (cA ks d).isSome)∨(CmpOp.In=.NotIn/\L (!(cA ks d).isSome))))=_;simp
theorem JN:KB .NotIn (.d d) (.dct b ks ts) L=(AC b d/\L (!(cA ks d).isSome)):=by show(AC b d/\((CmpOp.NotIn=.In/\L (cA ks d).isSome)∨(CmpOp.NotIn=.NotIn/\L (!(cA ks d).isSome))))=_;simp
theorem cg:KB .In (.d (.str z)) (.d (.tuple ds)) L=(((SA (.str z)=kf/\ds.all SA=kf)∨(FF (.str z)/\FF (.list ds)))/\L (ds.any λy=>Qt y (.str z))):=rfl
theorem dg:KB .In (.d (.str z)) (.lst (ds.map T.d)) L=(((SA (.str z)=kf/\ds.all SA=kf)∨(FF (.str z)/\FF (.list ds)))/\L (ds.any λy=>Qt y (.str z))):=by exact A8
theorem Xx:aa (.d (.bool b)) L=L b:=rfl
theorem Sx:Rx (.d (.bool b)) L=L b:=rfl
theorem Xf:iS .max [(.d (.int i),n),(.d (.int j),m)] Q=Q (.d (.int (if j > i then j else i))) false:=by unfold iS vC vC vC;rw[pA,pA];exact om i j
theorem kq:iS .len [(.d (.list ds),n)] Q=Q (.d (.int ds.9)) false:=by unfold iS vC;rw[pA];refine(Jg _).trans ?_;rw[QC]
theorem zq:iS .len [(.lst (ds.map T.d),n)] Q=Q (.d (.int ds.9)) false:=by unfold iS vC;rw[cF];refine(Jg _).trans ?_;rw[QC]
theorem xq:iS .any [(.lst (ds.map T.d),n)] Q=∃bs:List Bool,ds=bs.map PyData.bool/\Q (.d (.bool (bs.any id))) false:=by unfold iS vC;rw[cF];refine(Cr _).trans ?_;simp only[HA,Qj]
theorem N8:iU (.ls ts) k R=False:=t3 #[λ#[_,_,_,_,_,e,_]=>(by cases e),Qd]
theorem Xl:iU (.tp ts) k R=False:=t3 #[λ#[_,_,_,_,_,e,_]=>(by cases e),Qd]
theorem Ul{x:D}:iU (.sc x) k R=False:=t3 #[λ#[_,_,_,_,_,e,_]=>(by cases e),Qd]
theorem Rn:UA (.lst (ds.map T.d)) n (.d (.int i)) m R=JE (BD ds i) λd=>R (.d d):=by unfold UA;rw[cF,pA,N8,or_false];refine(n8 _ _).trans ?_;show JE (BD (ds.map T.d) i) R=_;rw[FL,TC]
theorem Nh:UA (.d (.list ds)) n (.d (.int i)) m R=JE (BD ds i) λd=>R (.d d):=by unfold UA;rw[pA,pA,show(T.d (.list ds)).vw=.ls (ds.map T.d) from rfl,N8,or_false];refine(n8 _ _).trans ?_;show JE (BD (ds.map T.d) i) R=_;rw[FL,TC]
theorem Z4:UA (.d (.tuple ds)) n (.d (.int i)) m R=JE (BD ds i) λd=>R (.d d):=by unfold UA;rw[pA,pA,show(T.d (.tuple ds)).vw=.tp (ds.map T.d) from rfl,Xl,or_false];refine(Rk _ _).trans ?_;show JE (BD (ds.map T.d) i) R=_;rw[FL,TC]
theorem Kx:UA (.d (.str z)) n (.d (.int i)) m R=(z.9<=kb/\JE (BD z.cps.toList i) λc=>R (.d (.str #[(qB [c])]))):=by unfold UA;rw[pA,pA,show(T.d (.str z)).vw=.sc (.str z) from rfl,Ul,or_false];exact Sk _ _
theorem Pn{f g:D}:UA (.lst [.d d,.d e,.d f,.d g]) n t m R=UA (.lst ([d,e,f,g].map T.d)) n t m R:=rfl
theorem Sn{q:Bool}{l:Nat}(f:NC kvs=kx q)(a:AC q k)(w:cA (kvs.map (·.1)) k=kx l)(h:(kvs.map (·.2))[l]?=kx e)(x:R (.d e)):UA (.d (.dict kvs)) n (.d k) m R:=by
 unfold UA;rw[pA];refine .inr ?_;show iU (LB kvs) k R;unfold LB;rw[f];refine#[q,_,_,l,.d e,rfl,a,w,?_,x];rw[QX]at h ⊢;cases z:kvs[l]? with|none=>rw[z]at h;cases h|some p=>rw[z]at h;cases h;rfl
theorem Dx:jW (.d (.str z)) n l u Q=(z.9<=kb/\Q (.d (.str (Wh z l u))) kd):=by unfold jW;rw[pA];exact Ji z
theorem Fx:jW (.d (.list ds)) n l u Q=Q (.lst ((OR ds l u).map T.d)) true:=by unfold jW;rw[pA];refine(ai _).trans ?_;rw[HA];exact sB
theorem pq:dn .split (.d (.str z)) n [(.d (.str y),m)] Q=((z.9<=kb/\0<y.9/\(w4 z y).9<=kb)/\Q (.lst (((w4 z y).map jk).map T.d)) kf):=by unfold dn vC vC;rw[pA,pA];exact t3 #[λ#[_,_,f,a,w,x,h,q]=>by cases f;cases a;exact#[#[w,x,h],q],λ#[#[w,x,h],q]=>#[_,_,rfl,rfl,w,x,h,q]]
theorem Bf{P:Prop}:(dR .split (nA (.d (.str z)) n).vw=kf/\P)=P:=t3 #[λh=>h.2,λh=>#[B7 rfl,h]]
theorem gk:dn .join (.d (.str z)) n [(.lst (ds.map T.d),m)] Q=∃ys:LS,ds=ys.map jk/\(ys.map (·.length)).sum+ys.9 * z.9<=16777216/\Q (.d (.str (QBm z ys))) false:=by unfold dn vC;rw[pA,cF];refine(cq z _).trans ?_;simp only[HA,Qj]
theorem oq{P:Prop}:(dR .join (nA (.d (.str z)) n).vw=kf/\P)=P:=t3 #[λh=>h.2,λh=>#[B7 rfl,h]]
theorem zt:ZL .val [(.d (.list ds),n)] W=W (ds.map T.d):=by unfold ZL vC;rw[pA];exact jJ _
theorem au:ZL .val [(.d (.tuple ds),n)] W=W (ds.map T.d):=by unfold ZL vC;rw[pA];exact c8 _
theorem ua:ZL .val [(.lst (ds.map T.d),n)] W=W (ds.map T.d):=by unfold ZL vC;rw[cF];exact jJ _
theorem yo:ZL .rng1 [(.d (.int j),n)] W=((-(2 ^ 62)<=j/\j<2 ^ 62)/\W ((Qo j.toNat).map λ(i:Nat)=>.d (.int (i:Int)))):=by unfold ZL vC;rw[pA];exact b8 j
theorem xo(h:kvs=[]∨NC kvs=kx kf):ZL .itm [(.d (.dict kvs),n)] W=W (kvs.map λp=>.d (.tuple [p.1,p.2])):=by
 unfold ZL vC;rw[pA];show AB .itm [LB kvs] W=_;rcases h with rfl|h;exact u8;unfold LB;rw[h];refine(uU _ _).trans ?_;have e:(kvs.map λp=>T.d p.2)=(kvs.map (·.2)).map T.d:=by rw[QU];rfl
 have x:((kvs.map (·.1)).zip (kvs.map (·.2))).map (λp=>T.d (.tuple [p.1,p.2]))=kvs.map λp=>T.d (.tuple [p.1,p.2]):=by rw[List.zip_map',QU];rfl
 refine t3 #[λ#[ds,w,k]=>?_,λk=>#[kvs.map (·.2),by rw[e,HA],?_]];rw[e,HA]at w;cases w;rw[x]at k;exact k;rw[x];exact k
noncomputable def eZ(Q:T->LT->Prop):PEnds:={ nx:=λ_=>Q (.d .none) [],rt:=λt _=>Q t [] }
theorem kg{Q:T->LT->Prop}{t:T}:(eZ Q).rt t ρ=Q t []:=rfl
theorem bA{Ψ:PEv}{b:PT}{p:PSp}{N x:LS}{ds:LT}{Q:T->LT->Prop}(ρ:kA)(h:pF Ψ b (eZ Q) ρ)(hl:ds.9=x.length:=by rfl)(hc:BB 0 p.md x.9=[]:=by rfl)(hs:EA N p.md ds=ρ:=by rfl):ds.9=x.9/\pF Ψ b (iC p x.9 Q) (EA N p.md ds):=by
 have e:iC p x.9 Q=eZ Q:=by unfold iC;rw[hc];rfl
 rw[e,hs];exact#[hl,h]
end
end
end L2.L3
namespace L2.L3.K52
open PySem PySem.Spec PyProof.Rows L2 L2.L3
section
variable{p q:Pt}{r:Rm}{Q:T->Prop}{l:Inn}{v:Int}{a b n g:Str}{w:Wy}{e:Str×Str}
def top(i:Nat):Stmt:=Qm.main.body.getD i (.Pass #[0,0,0,0])
noncomputable def UG:LS:=["edges","starts","goal","rooms","came_from","firsts","chains"]
def DF:LS:=["edges","starts","goal"]
noncomputable def TM:Need:=#[["rooms_of","points_reached","lay_chain","chain_from","full_names"],["BEGIN"],["sorted"]]
noncomputable def GC:PT :=
  %[.expr (.call "lay_chain" %[.var 3,.var 4,.tup %[.var 2,.str "to"|1]|1]),.set 4 (.call "points_reached" %[.var 3|1])|2]
def ZG:PT :=
  %[.own 3 (.call "rooms_of" %[.var 0,.var 1,.var 2|1]),.set 4 (.call "points_reached" %[.var 3|1]),.whl (.cmp .In (.tup %[.var 2,.str "to"|1]) (.var 4)) GC,.set 5 (.comp [] ["point"] (.nm 0) .val %[.idx (.var 3) (.glo "BEGIN")|1] (.cmp .Gt (.idx (.idx (.var 4) (.var 0)) (.glo "BEGIN")) (.int 0)) (.idx (.var 0) (.int 0))),.set 6 (.comp [] ["first"] (.nm 0) .val %[.var 5|1] .nop (.call "chain_from" %[.var 4,.var 0,.var 3|1])),.ret (.tup %[.bi .sorted %[.var 6|1],.call "full_names" %[.var 4|1]|1])|2]
theorem cL:GA TM ZG UG DF (top 3)=true:=by kernel_rfl
noncomputable def PN:LS:=["edges","starts","goal","rooms","name","first","second"]
def JK:LS:=["edges","starts","goal"]
def aW:Need:=#[["add_name","add_way"],["BEGIN","WIDE"],[]]
noncomputable def rF:PT :=
  %[.ife (.cmp .NotEq (.var 4) (.var 2)) %[.expr (.call "add_name" %[.var 3,.var 4|1]),.expr (.call "add_way" %[.var 3,.glo "BEGIN",.tup %[.var 4,.str "to"|1],.glo "WIDE"|1])|2] .nil|2]
noncomputable def oF:PT :=
  %[.ife (.and (.cmp .NotEq (.var 5) (.var 2)) (.cmp .NotEq (.var 5) (.var 6))) %[.expr (.call "add_name" %[.var 3,.var 5|1]),.expr (.call "add_name" %[.var 3,.var 6|1]),.expr (.call "add_way" %[.var 3,.tup %[.var 5,.str "from"|1],.tup %[.var 6,.str "to"|1],.glo "WIDE"|1])|2] .nil|2]
def VN:PT :=
  %[.own 3 (.dsp (.glo "BEGIN") (.dnew kf)),.for_ (.nm 4) .val %[.var 1|1] rF,.for_ (.tp [5,6]) .val %[.var 0|1] oF,.ret (.var 3)|2]
theorem DU:GA aW VN PN JK (top 4)=true:=by kernel_rfl
def yO:LS:=["rooms","name"]
def GK:LS:=["rooms","name"]
def XW:Need:=#[["add_way"],[],[]]
noncomputable def fI:PT :=
  %[.expr (.call "add_way" %[.var 0,.tup %[.var 1,.str "to"|1],.tup %[.var 1,.str "from"|1],.int 1|1])|2]
theorem PU:GA XW fI yO GK (top 5)=true:=by kernel_rfl
def jQ:LS:=["rooms","here","there","room"]
def BM:LS:=["rooms","here","there","room"]
def C1:Need:=#[[],[],[]]
noncomputable def BP:PT :=
  %[.sdf 0 (.var 1),.sdf 0 (.var 2),.six (.idx (.var 0) (.var 1)) (.var 2) (.var 3),.six (.idx (.var 0) (.var 2)) (.var 1) (.int 0)|2]
theorem ZX:GA C1 BP jQ BM (top 6)=true:=by kernel_rfl
noncomputable def SE:LS:=["rooms","came_from","waiting","here","there","room"]
def LD:LS:=["rooms"]
def IJ:Need:=#[[],["BEGIN"],["len"]]
noncomputable def yB:PT :=
  %[.ife (.and (.cmp .Gt (.var 5) (.int 0)) (.cmp .NotIn (.var 4) (.var 1))) %[.six (.var 1) (.var 4) (.var 3),.expr (.mt .append (.var 2) %[.var 4|1])|2] .nil|2]
def iD:PT :=
  %[.set 3 (.mt .pop (.var 2) %[.int 0|1]),.for_ (.tp [4,5]) .itm %[.idx (.var 0) (.var 3)|1] yB|2]
def OE:PT :=
  %[.own 1 (.dsp (.glo "BEGIN") .non),.own 2 (.lst %[.glo "BEGIN"|1]),.whl (.cmp .Gt (.bi .len %[.var 2|1]) (.int 0)) iD,.ret (.var 1)|2]
theorem dJ:GA IJ OE SE LD (top 7)=true:=by kernel_rfl
def SK:LS:=["rooms","came_from","last","there","here"]
def CI:LS:=["rooms","came_from","last"]
def KT:Need:=#[[],["BEGIN"],[]]
noncomputable def nE:PT :=
  %[.set 4 (.idx (.var 1) (.var 3)),.six (.idx (.var 0) (.var 4)) (.var 3) (.bin .Sub (.idx (.idx (.var 0) (.var 4)) (.var 3)) (.int 1)),.six (.idx (.var 0) (.var 3)) (.var 4) (.bin .Add (.idx (.idx (.var 0) (.var 3)) (.var 4)) (.int 1)),.set 3 (.var 4)|2]
def sG:PT :=
  %[.set 3 (.var 2),.whl (.cmp .NotEq (.var 3) (.glo "BEGIN")) nE|2]
theorem TR:GA KT sG SK CI (top 8)=true:=by kernel_rfl
def ZJ:LS:=["rooms","first","goal","chain","name"]
def YH:LS:=["rooms","first","goal"]
def cR:Need:=#[["name_behind"],[],[]]
noncomputable def ZD:PT :=
  %[.expr (.mt .append (.var 3) %[.var 4|1]),.set 4 (.call "name_behind" %[.var 0,.var 4|1])|2]
def KF:PT :=
  %[.own 3 (.lst .anil),.set 4 (.var 1),.whl (.cmp .NotEq (.var 4) (.var 2)) ZD,.ret (.var 3)|2]
theorem VO:GA cR KF ZJ YH (top 9)=true:=by kernel_rfl
def UH:LS:=["rooms","name","here"]
def zG:LS:=["rooms","name"]
def lO:Need:=#[[],[],[]]
noncomputable def mE:PT :=
  %[.set 2 (.tup %[.var 1,.str "from"|1]),.ret (.idx (.comp [] ["there"] (.nm 0) .val %[.idx (.var 0) (.var 2)|1] (.and (.cmp .NotEq (.idx (.var 0) (.int 0)) (.var 2)) (.cmp .Gt (.idx (.idx (.var 1) (.var 0)) (.var 3)) (.int 0))) (.idx (.var 0) (.int 0))) (.int 0))|2]
theorem aN:GA lO mE UH zG (top 10)=true:=by kernel_rfl
def YJ:LS:=["came_from"]
def JH:LS:=["came_from"]
def bR:Need:=#[[],[],["sorted"]]
noncomputable def ZF:PT :=
  %[.ret (.bi .sorted %[.comp [] ["point"] (.nm 0) .val %[.var 0|1] (.and (.cmp .Eq (.idx (.var 0) (.int 1)) (.str "to")) (.cmp .NotIn (.tup %[.idx (.var 0) (.int 0),.str "from"|1]) (.var 1))) (.idx (.var 0) (.int 0))|1])|2]
theorem KO:GA bR ZF YJ JH (top 11)=true:=by kernel_rfl
noncomputable def AK:LS:=["edges","seers","needs","ground","holders","others"]
def DI:LS:=["edges","seers","needs"]
def VT:Need:=#[["ground_alone","told_through"],[],[]]
noncomputable def iG:PT :=
  %[.set 3 (.call "ground_alone" %[.var 0,.var 1,.var 2|1]),.set 4 (.comp [] ["name","chains"] (.tp [0,1]) .val %[.var 3|1] .nop (.var 0)),.set 5 (.comp [] ["name","number"] (.tp [0,1]) .val %[.var 2|1] (.cmp .NotIn (.var 0) (.var 6)) (.var 0)),.ret (.tup %[.var 3,.comp [] ["name"] (.nm 0) .val %[.var 5|1] .nop (.tup %[.var 0,.idx (.call "told_through" %[.var 1,.var 2,.var 5,.var 0|1]) (.int 1)|1])|1])|2]
theorem ER:GA VT iG AK DI (top 13)=true:=by kernel_rfl
noncomputable def XG:LS:=["edges","seers","needs","ground","found","grown","name","number","chains"]
def BF:LS:=["edges","seers","needs"]
def SM:Need:=#[["told_through"],[],["len"]]
noncomputable def FC:PT :=
  %[.ife (.cmp .NotIn (.var 6) (.var 4)) %[.set 8 (.idx (.call "told_through" %[.var 0,.var 1,.var 4,.var 6|1]) (.int 0)),.ife (.cmp .GtE (.bi .len %[.var 8|1]) (.var 7)) %[.expr (.mt .append (.var 3) %[.tup %[.var 6,.slc (.var 8) .nop (.var 7)|1]|1]),.expr (.mt .append (.var 4) %[.var 6|1]),.set 5 (.bl kf)|2] .nil|2] .nil|2]
def CC:PT :=
  %[.set 5 (.bl kd),.for_ (.tp [6,7]) .val %[.var 2|1] FC|2]
def JG:PT :=
  %[.own 3 (.comp [kd,kd,kd,kd,kd,kd,kf,kf] ["name","number"] (.tp [0,1]) .val %[.var 2|1] (.cmp .In (.var 0) (.var 3)) (.tup %[.var 0,.lst .anil|1])),.own 4 (.comp [kd,kd,kd,kd,kd,kd,kf,kd,kf] ["name","chains"] (.tp [0,1]) .val %[.var 3|1] .nop (.var 0)),.set 5 (.bl kf),.whl (.var 5) CC,.ret (.var 3)|2]
theorem bL:GA SM JG XG BF (top 14)=true:=by kernel_rfl
def VG:LS:=["edges","seers","people","goal"]
def UF:LS:=["edges","seers","people","goal"]
def RM:Need:=#[["apart_chains"],[],[]]
noncomputable def eD:PT :=
  %[.ret (.call "apart_chains" %[.comp [] ["edge"] (.nm 0) .val %[.var 0|1] (.cmp .In (.idx (.var 0) (.int 0)) (.var 3)) (.var 0),.var 1,.var 3|1])|2]
theorem uL:GA RM eD VG UF (top 15)=true:=by kernel_rfl
noncomputable def X9:LS:=["world","events","past","taken","wrong","held","known","steps","number","believed","live"]
def aY:LS:=["world"]
noncomputable def zk:Need:=#[["going_order","is_taken","wrong_among","live_among","held_among"],[],[]]
noncomputable def rK:PT :=
  %[.own 4 (.call "wrong_among" %[.var 0,.var 2|1]),.set 10 (.call "live_among" %[.var 1,.var 3,.var 4|1]),.set 5 (.call "held_among" %[.var 0,.var 2,.var 10,.var 6|1]),.expr (.mt .append (.var 7) %[.tup %[.var 8,.var 9,.var 10,.var 5|1]|1])|2]
def CN:PT :=
  (.seq (.set 9 (.call "is_taken" %[.var 0,.idx (.var 1) (.var 8),.var 4,.var 5|1]))
  (.seq (.expr (.mt .append (.var 2) %[.var 8|1]))
  (.seq (.ife (.and (.var 9) (.cmp .Eq (.idx (.idx (.var 1) (.var 8)) (.int 0)) (.str "tell"))) %[.expr (.mt .append (.var 3) %[.var 8|1])|2] .nil)
  rK)))
def GX:PT :=
  %[.set 1 (.idx (.var 0) (.int 3)),.own 2 (.lst .anil),.own 3 (.lst .anil),.own 4 (.dnew kf),.set 5 (.lst .anil),.own 6 (.dnew kf),.own 7 (.lst .anil),.for_ (.nm 8) .val %[.call "going_order" %[.var 1|1]|1] CN,.ret (.var 7)|2]
theorem Td:GA zk GX X9 aY (top 18)=true:=by kernel_rfl
noncomputable def EN:LS:=["world","event","wrong","held","teller","hearer","matter"]
def CK:LS:=["world","event","wrong","held"]
def ZW:Need:=#[["has_against","rank_of","floor_of"],[],[]]
noncomputable def iF:PT :=
  %[.ife (.cmp .Eq (.idx (.var 1) (.int 0)) (.str "see")) %[.ret (.bl kf)|2] .nil,.set 4 (.idx (.var 1) (.int 2)),.set 5 (.idx (.var 1) (.int 3)),.set 6 (.idx (.var 1) (.int 4)),.ife (.or (.cmp .NotIn (.tup %[.var 4,.var 6|1]) (.var 3)) (.cmp .In (.tup %[.var 4,.var 5|1]) (.var 2))) %[.ret (.bl kd)|2] .nil,.ret (.and (.cmp .GtE (.call "rank_of" %[.var 0,.var 4|1]) (.call "floor_of" %[.var 0,.var 5|1])) (.not (.call "has_against" %[.var 0,.var 3,.var 5,.var 6|1])))|2]
theorem MU:GA ZW iF EN CK (top 19)=true:=by kernel_rfl
def GP:LS:=["world","name"]
def iM:LS:=["world","name"]
def T0:Need:=#[[],[],[]]
noncomputable def cK:PT :=
  %[.ret (.idx (.comp [] ["person"] (.nm 0) .val %[.idx (.var 0) (.int 0)|1] (.cmp .Eq (.idx (.var 0) (.int 0)) (.var 2)) (.idx (.var 0) (.int 1))) (.int 0))|2]
theorem rX:GA T0 cK GP iM (top 20)=true:=by kernel_rfl
def IN:LS:=["world","name"]
def DK:LS:=["world","name"]
def KW:Need:=#[[],[],[]]
noncomputable def cI:PT :=
  %[.ret (.idx (.comp [] ["person"] (.nm 0) .val %[.idx (.var 0) (.int 0)|1] (.cmp .Eq (.idx (.var 0) (.int 0)) (.var 2)) (.idx (.var 0) (.int 2))) (.int 0))|2]
theorem NU:GA KW cI IN DK (top 21)=true:=by kernel_rfl
def CH:LS:=["world","pairs","name","matter","rivals"]
def vG:LS:=["world","pairs","name","matter"]
def nO:Need:=#[[],[],["any"]]
noncomputable def pE:PT :=
  %[.own 4 (.comp [] ["first","second"] (.tp [0,1]) .val %[.idx (.var 0) (.int 2)|1] (.cmp .Eq (.var 0) (.var 5)) (.var 1)),.expr (.mt .extend (.var 4) %[.comp [] ["first","second"] (.tp [0,1]) .val %[.idx (.var 0) (.int 2)|1] (.cmp .Eq (.var 1) (.var 5)) (.var 0)|1]),.ret (.bi .any %[.comp [] ["rival"] (.nm 0) .val %[.var 4|1] .nop (.cmp .In (.tup %[.var 3,.var 0|1]) (.var 2))|1])|2]
theorem iN:GA nO pE CH vG (top 22)=true:=by kernel_rfl
def VH:LS:=["world","past","seen","wrong","number","event"]
def jG:LS:=["world","past"]
def fO:Need:=#[["seen_among","has_against"],[],[]]
noncomputable def GF:PT :=
  %[.set 5 (.idx (.idx (.var 0) (.int 3)) (.var 4)),.ife (.and (.cmp .Eq (.idx (.var 5) (.int 0)) (.str "tell")) (.cmp .NotIn (.tup %[.idx (.var 5) (.int 3),.idx (.var 5) (.int 4)|1]) (.var 2))) %[.ife (.call "has_against" %[.var 0,.var 2,.idx (.var 5) (.int 3),.idx (.var 5) (.int 4)|1]) %[.six (.var 3) (.tup %[.idx (.var 5) (.int 2),.idx (.var 5) (.int 3)|1]) (.bl kf)|2] .nil|2] .nil|2]
def gE:PT :=
  %[.own 2 (.call "seen_among" %[.idx (.var 0) (.int 3),.var 1|1]),.own 3 (.dnew kf),.for_ (.nm 4) .val %[.var 1|1] GF,.ret (.var 3)|2]
theorem sN:GA fO gE VH jG (top 23)=true:=by kernel_rfl
def sJ:LS:=["events","past","seen","number"]
def rH:LS:=["events","past"]
def zR:Need:=#[[],[],[]]
noncomputable def rG:PT :=
  %[.ife (.cmp .Eq (.idx (.idx (.var 0) (.var 3)) (.int 0)) (.str "see")) %[.six (.var 2) (.tup %[.idx (.idx (.var 0) (.var 3)) (.int 2),.idx (.idx (.var 0) (.var 3)) (.int 3)|1]) (.bl kf)|2] .nil|2]
def nF:PT :=
  %[.own 2 (.dnew kf),.for_ (.nm 3) .val %[.var 1|1] rG,.ret (.var 2)|2]
theorem eO:GA zR nF sJ rH (top 24)=true:=by kernel_rfl
def tJ:LS:=["events","taken","wrong"]
def sH:LS:=["events","taken","wrong"]
def kR:Need:=#[[],[],["sorted"]]
noncomputable def sF:PT :=
  %[.ret (.bi .sorted %[.comp [] ["number"] (.nm 0) .val %[.var 1|1] (.cmp .NotIn (.tup %[.idx (.idx (.var 1) (.var 0)) (.int 2),.idx (.idx (.var 1) (.var 0)) (.int 3)|1]) (.var 3)) (.var 0)|1])|2]
theorem iO:GA kR sF tJ sH (top 25)=true:=by kernel_rfl
def JJ:LS:=["world","past","live","known","seen","holders","matter","web","held","person"]
def iH:LS:=["world","past","live","known"]
noncomputable def uR:Need:=#[["seen_among","edges_of","seers_of","holders_in"],[],[]]
noncomputable def IC:PT :=
  %[.six (.var 5) (.var 6) (.idx (.var 3) (.var 7))|2]
def YD:PT :=
  (.seq (.set 7 (.tup %[.call "seers_of" %[.var 0,.var 4,.var 6|1],.call "edges_of" %[.idx (.var 0) (.int 3),.var 2,.var 6|1]|1]))
  (.seq (.ife (.cmp .NotIn (.var 7) (.var 3)) %[.six (.var 3) (.var 7) (.call "holders_in" %[.var 0,.var 7|1])|2] .nil)
  IC))
noncomputable def JD:PT :=
  %[.expr (.mt .extend (.var 8) %[.comp [kd,kd,kd,kd,kd,kd,kf] ["matter"] (.nm 0) .val %[.idx (.var 0) (.int 1)|1] (.cmp .In (.idx (.var 10) (.int 0)) (.idx (.var 6) (.var 0))) (.tup %[.idx (.var 10) (.int 0),.var 0|1])|1])|2]
def YF:PT :=
  %[.own 4 (.call "seen_among" %[.idx (.var 0) (.int 3),.var 1|1]),.own 5 (.dnew kd),.for_ (.nm 6) .val %[.idx (.var 0) (.int 1)|1] YD,.own 8 (.lst .anil),.for_ (.nm 9) .val %[.idx (.var 0) (.int 0)|1] JD,.ret (.var 8)|2]
theorem ZO:GA uR YF JJ iH (top 26)=true:=by kernel_rfl
def ON:LS:=["world","seen","matter"]
def iK:LS:=["world","seen","matter"]
def tW:Need:=#[[],[],["tuple"]]
noncomputable def kI:PT :=
  %[.ret (.bi .tuple %[.comp [] ["person"] (.nm 0) .val %[.idx (.var 0) (.int 0)|1] (.cmp .In (.tup %[.idx (.var 0) (.int 0),.var 3|1]) (.var 2)) (.idx (.var 0) (.int 0))|1])|2]
theorem CU:GA tW kI ON iK (top 27)=true:=by kernel_rfl
def jO:LS:=["events","live","matter","tells"]
def FK:LS:=["events","live","matter"]
def VW:Need:=#[[],[],["tuple"]]
noncomputable def dI:PT :=
  %[.set 3 (.comp [] ["number"] (.nm 0) .val %[.var 1|1] (.cmp .Eq (.idx (.idx (.var 1) (.var 0)) (.int 4)) (.var 3)) (.idx (.var 1) (.var 0))),.ret (.bi .tuple %[.comp [] ["event"] (.nm 0) .val %[.var 3|1] .nop (.tup %[.idx (.var 0) (.int 2),.idx (.var 0) (.int 3)|1])|1])|2]
theorem OU:GA VW dI jO FK (top 28)=true:=by kernel_rfl
def iJ:LS:=["world","web"]
def aH:LS:=["world","web"]
def xR:Need:=#[["ground_alone","needs_of"],[],[]]
noncomputable def JF:PT :=
  %[.ret (.comp [] ["name","chains"] (.tp [0,1]) .val %[.call "ground_alone" %[.idx (.var 1) (.int 1),.idx (.var 1) (.int 0),.call "needs_of" %[.var 0|1]|1]|1] .nop (.var 0))|2]
theorem YO:GA xR JF iJ aH (top 29)=true:=by kernel_rfl
def RN:LS:=["world"]
def YK:LS:=["world"]
def eW:Need:=#[[],[],[]]
noncomputable def vI:PT :=
  %[.ret (.comp [] ["person"] (.nm 0) .val %[.idx (.var 0) (.int 0)|1] .nop (.tup %[.idx (.var 0) (.int 0),.idx (.var 0) (.int 3)|1]))|2]
theorem FU:GA eW vI RN YK (top 30)=true:=by kernel_rfl
def BH:LS:=["world"]
def kG:LS:=["world"]
def mO:Need:=#[["gone"],[],[]]
noncomputable def oE:PT :=
  %[.ret (.tup %[.var 0,.call "gone" %[.var 0|1]|1])|2]
theorem eN:GA mO oE BH kG (top 32)=true:=by kernel_rfl
def HP:LS:=["moment"]
def JM:LS:=["moment"]
def A0:Need:=#[[],[],[]]
noncomputable def fK:PT :=
  %[.ret (.comp [] ["step"] (.nm 0) .val %[.idx (.var 0) (.int 1)|1] .nop (.idx (.var 0) (.int 0)))|2]
theorem sX:GA A0 fK HP JM (top 33)=true:=by kernel_rfl
def LP:LS:=["moment"]
def YM:LS:=["moment"]
def J1:Need:=#[[],[],["len"]]
noncomputable def gK:PT :=
  %[.ret (.ife (.cmp .Gt (.bi .len %[.idx (.var 0) (.int 1)|1]) (.int 0)) (.idx (.idx (.idx (.var 0) (.int 1)) (.ng 1)) (.int 2)) (.lst .anil))|2]
theorem tX:GA J1 gK LP YM (top 34)=true:=by kernel_rfl
def IP:LS:=["moment"]
def UM:LS:=["moment"]
def B1:Need:=#[[],[],["len"]]
noncomputable def pK:PT :=
  %[.ret (.ife (.cmp .Gt (.bi .len %[.idx (.var 0) (.int 1)|1]) (.int 0)) (.idx (.idx (.idx (.var 0) (.int 1)) (.ng 1)) (.int 3)) (.lst .anil))|2]
theorem YX:GA B1 pK IP UM (top 35)=true:=by kernel_rfl
def FP:LS:=["moment"]
def eM:LS:=["moment"]
def R0:Need:=#[["seen_among","past_in"],[],[]]
noncomputable def bK:PT :=
  %[.ret (.call "seen_among" %[.idx (.idx (.var 0) (.int 0)) (.int 3),.call "past_in" %[.var 0|1]|1])|2]
theorem pX:GA R0 bK FP eM (top 36)=true:=by kernel_rfl
def uV:LS:=["moment","matter"]
def kP:LS:=["moment","matter"]
noncomputable def e7:Need:=#[["edges_of","live_in","seers_of","seen_in"],[],[]]
noncomputable def ZN:PT :=
  %[.ret (.tup %[.call "seers_of" %[.idx (.var 0) (.int 0),.call "seen_in" %[.var 0|1],.var 1|1],.call "edges_of" %[.idx (.idx (.var 0) (.int 0)) (.int 3),.call "live_in" %[.var 0|1],.var 1|1]|1])|2]
theorem v3:GA e7 ZN uV kP (top 37)=true:=by kernel_rfl
def XH:LS:=["web","person"]
def yG:LS:=["web","person"]
def gO:Need:=#[[],[],[]]
noncomputable def lE:PT :=
  %[.ret (.tup %[.idx (.var 0) (.int 0),.comp [] ["edge"] (.nm 0) .val %[.idx (.var 0) (.int 1)|1] (.cmp .NotEq (.idx (.var 0) (.int 0)) (.var 2)) (.var 0)|1])|2]
theorem tN:GA gO lE XH yG (top 38)=true:=by kernel_rfl
def bV:LS:=["world","person","moment"]
def vP:LS:=["world","person"]
def J7:Need:=#[["last_moment","left_in","fallen_in"],[],[]]
noncomputable def KN:PT :=
  %[.set 2 (.call "last_moment" %[.var 0|1]),.ret (.tup %[.call "fallen_in" %[.var 2,.var 1|1],.comp [] ["matter"] (.nm 0) .val %[.idx (.var 0) (.int 1)|1] .nop (.call "left_in" %[.var 3,.var 2,.var 0|1])|1])|2]
theorem x3:GA J7 KN bV vP (top 40)=true:=by kernel_rfl
def SN:LS:=["world","person","matter"]
def ZK:LS:=["world","person","matter"]
def iW:Need:=#[["leans_in","last_moment"],[],[]]
noncomputable def xI:PT :=
  %[.ret (.call "leans_in" %[.call "last_moment" %[.var 0|1],.var 1,.var 2|1])|2]
theorem GU:GA iW xI SN ZK (top 41)=true:=by kernel_rfl
def IK:LS:=["moment","person","holders","matter"]
def FI:LS:=["moment","person"]
def XT:Need:=#[["holders_without","held_in"],[],[]]
noncomputable def rE:PT :=
  %[.six (.var 2) (.var 3) (.call "holders_without" %[.var 0,.var 1,.var 3|1])|2]
def YG:PT :=
  %[.own 2 (.dnew kd),.for_ (.nm 3) .val %[.idx (.idx (.var 0) (.int 0)) (.int 1)|1] rE,.ret (.comp [] ["pair"] (.nm 0) .val %[.call "held_in" %[.var 0|1]|1] (.cmp .NotIn (.idx (.var 0) (.int 0)) (.idx (.var 3) (.idx (.var 0) (.int 1)))) (.var 0))|2]
theorem IR:GA XT YG IK FI (top 42)=true:=by kernel_rfl
def MP:LS:=["moment","person","matter","web"]
def ZM:LS:=["moment","person","matter"]
noncomputable def Y1:Need:=#[["web_without","web_of","ground_by","needs_of"],[],[]]
noncomputable def lK:PT :=
  %[.set 3 (.call "web_without" %[.call "web_of" %[.var 0,.var 2|1],.var 1|1]),.ret (.bin .Add (.tup %[.var 2|1]) (.call "ground_by" %[.idx (.var 3) (.int 1),.idx (.var 3) (.int 0),.call "needs_of" %[.idx (.var 0) (.int 0)|1]|1]))|2]
theorem aX:GA Y1 lK MP ZM (top 43)=true:=by kernel_rfl
def TN:LS:=["moment","person","matter","names"]
def UK:LS:=["moment","person","matter"]
noncomputable def JW:Need:=#[["held_in","needs_of","holders_without"],[],[]]
noncomputable def uI:PT :=
  %[.ife (.cmp .NotIn (.tup %[.var 1,.var 2|1]) (.call "held_in" %[.var 0|1])) %[.ret (.lst .anil)|2] .nil,.set 3 (.comp [] ["name","need"] (.tp [0,1]) .val %[.call "needs_of" %[.idx (.var 0) (.int 0)|1]|1] .nop (.var 0)),.ret (.comp [] ["name"] (.nm 0) .val %[.var 3|1] (.cmp .NotIn (.var 2) (.call "holders_without" %[.var 1,.var 0,.var 3|1])) (.var 0))|2]
theorem HU:GA JW uI TN UK (top 44)=true:=by kernel_rfl
def yE:LS:=["moment","person","matter"]
def mD:LS:=["moment","person","matter"]
def OI:Need:=#[["holders_in","web_without","web_of"],[],[]]
noncomputable def YC:PT :=
  %[.ret (.call "holders_in" %[.idx (.var 0) (.int 0),.call "web_without" %[.call "web_of" %[.var 0,.var 2|1],.var 1|1]|1])|2]
theorem zI:GA OI YC yE mD (top 45)=true:=by kernel_rfl
def aJ:LS:=["_law_heads"]
def tH:LS:=[]
def vR:Need:=#[[],[],[]]
noncomputable def aF:PT :=
  %[.set 0 (.str "person matter against see tell by at who what since tellers wordings apart leans hidden strike quote"),.ret (.bin .Add (.mt .split (.var 0) %[.str " "|1]) (.lst %[.str "ground",.str "cut"|1]))|2]
theorem JO:GA vR aF aJ tH (top 47)=true:=by kernel_rfl
noncomputable def hV:LS:=["_law_script","_law_k","_law_cell","_law_factor"]
def bP:LS:=["_law_script","_law_k"]
def K7:Need:=#[[],[],["len"]]
noncomputable def eG:PT :=
  %[.set 3 (.bin .Add (.int 91343852333181432387730302044767688731) (.bin .Mult (.bin .Mult (.int 7919000003) (.var 1)) (.var 1))),.ret (.bin .Mod (.bin .Mult (.bin .Add (.bin .Add (.var 2) (.var 1)) (.int 1)) (.var 3)) (.int 170141183460469231731687303715884105727))|2]
def BN:PT :=
  (.seq (.set 2 (.int 0))
  (.seq (.ife (.cmp .Gt (.bi .len %[.var 0|1]) (.int 0)) %[.set 2 (.idx (.var 0) (.bin .Mod (.var 1) (.bi .len %[.var 0|1])))|2] .nil)
  eG))
theorem Y3:GA K7 BN hV bP (top 48)=true:=by kernel_rfl
def cV:LS:=["_law_script","_law_at"]
def xP:LS:=["_law_script","_law_at"]
def Y7:Need:=#[["_law_draw"],[],[]]
noncomputable def XN:PT :=
  %[.six (.var 1) (.int 0) (.bin .Add (.idx (.var 1) (.int 0)) (.int 1)),.ret (.call "_law_draw" %[.var 0,.idx (.var 1) (.int 0)|1])|2]
theorem u3:GA Y7 XN cV xP (top 49)=true:=by kernel_rfl
noncomputable def fV:LS:=["_law_seed","_law_k","_law_letters","_law_size","_law_spot","_law_word"]
def uP:LS:=["_law_seed","_law_k"]
def Z7:Need:=#[["_law_keywords"],[],["range"]]
def aG:PT :=
  %[.ret (.var 5)|2]
noncomputable def UN:PT :=
  (.seq (.set 2 (.str "abcdefghijklmnopqrstuvwxyz"))
  (.seq (.set 3 (.bin .Add (.int 2) (.bin .Mod (.var 0) (.int 6))))
  (.seq (.set 4 (.bin .Mod (.bin .FloorDiv (.var 0) (.int 6)) (.var 3)))
  (.seq (.set 5 (.mt .join (.str "") %[.comp [] ["_law_j"] (.nm 0) .rng1 %[.var 3|1] .nop (.idx (.var 3) (.bin .Mod (.bin .Add (.bin .FloorDiv (.var 1) (.int 42)) (.bin .Mult (.bin .Mult (.var 0) (.var 0)) (.bin .Mod (.bin .FloorDiv (.var 1) (.int 1100)) (.int 5)))) (.int 26)))|1]))
  (.seq (.set 5 (.bin .Add (.bin .Add (.slc (.var 5) .nop (.var 4)) (.idx (.var 2) (.bin .Mod (.bin .Add (.bin .FloorDiv (.var 0) (.int 3)) (.var 1)) (.int 26)))) (.slc (.var 5) (.bin .Add (.var 4) (.int 1)) .nop)))
  (.seq (.ife (.cmp .In (.var 5) (.call "_law_keywords" .anil)) %[.set 5 (.bin .Add (.var 5) (.str "z"))|2] .nil)
  aG))))))
theorem J3:GA Z7 UN fV uP (top 50)=true:=by kernel_rfl
noncomputable def AN:LS:=["_law_script","_law_at","_law_seed","_law_many","_law_people_here","_law_j","_law_m","_law_floor"]
noncomputable def BK:LS:=["_law_script","_law_at","_law_seed","_law_many"]
def YW:Need:=#[["_law_next","_law_name"],[],["range"]]
noncomputable def tF:PT :=
  %[.set 6 (.call "_law_next" %[.var 0,.var 1|1]),.set 7 (.idx (.lst %[.int 0,.int 0,.int 0,.bin .Mod (.bin .FloorDiv (.var 6) (.int 100)) (.int 70)|1]) (.bin .Mod (.bin .FloorDiv (.var 6) (.int 10000)) (.int 4))),.expr (.mt .append (.var 4) %[.tup %[.call "_law_name" %[.var 2,.var 5|1],.bin .Add (.int 50) (.bin .Mod (.var 6) (.int 50)),.var 7,.idx (.lst %[.int 1,.int 1,.int 1,.int 2,.int 1,.int 2,.int 3|1]) (.bin .Mod (.bin .FloorDiv (.var 6) (.int 100000)) (.int 7))|1]|1])|2]
def bI:PT :=
  %[.own 4 (.lst .anil),.for_ (.nm 5) .rng1 %[.var 3|1] tF,.ret (.var 4)|2]
theorem LU:GA YW bI AN BK (top 51)=true:=by kernel_rfl
noncomputable def PP:LS:=["_law_n","_law_k","_law_people_here","_law_matters","_law_may","_law_many","_law_f","_law_time","_law_word","_law_p","_law_q","_law_by"]
noncomputable def XM:LS:=["_law_n","_law_k","_law_people_here","_law_matters","_law_may"]
noncomputable def U1:Need:=#[["_law_name"],[],["len","max","tuple","range"]]
noncomputable def eF:PT :=
  %[.set 10 (.bin .Mod (.bin .Add (.bin .Add (.var 9) (.int 1)) (.bin .Mod (.bin .FloorDiv (.var 0) (.int 1000000)) (.bin .Sub (.var 5) (.int 1)))) (.var 5)),.pap 4 (.var 6) (.var 10),.set 11 (.bi .tuple %[.comp [] ["_law_j"] (.nm 0) .rng1 %[.bin .Mod (.bin .FloorDiv (.var 0) (.int 360)) (.int 3)|1] .nop (.idx (.idx (.var 3) (.bin .Mod (.bin .Add (.bin .FloorDiv (.var 1) (.int 100000000)) (.var 0)) (.var 6))) (.int 0))|1]),.ret (.tup %[.str "tell",.var 7,.idx (.idx (.var 2) (.var 9)) (.int 0),.idx (.idx (.var 2) (.var 10)) (.int 0),.var 6,.var 8,.var 11|1])|2]
def oK:PT :=
  (.seq (.set 5 (.bi .len %[.var 2|1]))
  (.seq (.set 6 (.idx (.var 3) (.bin .Mod (.var 0) (.bi .len %[.var 3|1]))))
  (.seq (.set 7 (.bi .max %[.int 0,.bin .Sub (.bin .Mult (.int 3) (.var 1)) (.idx (.lst %[.int 0,.int 0,.int 0,.int 8|1]) (.bin .Mod (.bin .FloorDiv (.var 0) (.int 2)) (.int 4)))|1]))
  (.seq (.set 8 (.call "_law_name" %[.bin .Mod (.bin .FloorDiv (.var 0) (.int 100)) (.int 1000000000),.int 7|1]))
  (.seq (.set 9 (.bin .Mod (.bin .FloorDiv (.var 0) (.int 10000)) (.var 5)))
  (.seq (.ife (.or (.cmp .Eq (.idx (.var 4) (.var 6)) (.lst .anil)) (.cmp .Eq (.bin .Mod (.bin .FloorDiv (.var 0) (.int 8)) (.int 5)) (.int 0))) %[.pap 4 (.var 6) (.var 9),.ret (.tup %[.str "see",.var 7,.idx (.idx (.var 2) (.var 9)) (.int 0),.var 6,.var 8|1])|2] .nil)
  (.seq (.ife (.cmp .Gt (.bin .Mod (.bin .FloorDiv (.var 0) (.int 40)) (.int 9)) (.int 0)) %[.set 9 (.idx (.idx (.var 4) (.var 6)) (.bin .Mod (.bin .FloorDiv (.var 0) (.int 10000)) (.bi .len %[.idx (.var 4) (.var 6)|1])))|2] .nil)
  eF)))))))
theorem JX:GA U1 oK PP XM (top 52)=true:=by kernel_rfl
noncomputable def NP:LS:=["_law_script","_law_at","_law_seed","_law_n","_law_people_here","_law_matters","_law_against","_law_j","_law_k","_law_m","_law_may","_law_matter","_law_count","_law_events"]
def KM:LS:=["_law_script"]
noncomputable def K1:Need:=#[["_law_draw","_law_next","_law_people","_law_name","_law_event"],[],["range","len"]]
noncomputable def tG:PT :=
  %[.set 9 (.call "_law_next" %[.var 0,.var 1|1]),.ife (.and (.cmp .Lt (.var 8) (.bi .len %[.var 5|1])) (.cmp .Lt (.bin .Mod (.var 9) (.int 5)) (.int 2))) %[.expr (.mt .append (.var 6) %[.idx (.lst %[.tup %[.idx (.var 5) (.var 7),.idx (.var 5) (.var 8)|1],.tup %[.idx (.var 5) (.var 8),.idx (.var 5) (.var 7)|1]|1]) (.bin .Mod (.bin .FloorDiv (.var 9) (.int 5)) (.int 2))|1])|2] .nil|2]
def RK:PT :=
  %[.sxo 10 11|2]
def mK:PT :=
  %[.own 1 (.lst %[.int 0|1]),.set 2 (.bin .Mod (.call "_law_draw" %[.var 0,.int 0|1]) (.int 1000000000000)),.set 3 (.call "_law_next" %[.var 0,.var 1|1]),.set 4 (.call "_law_people" %[.var 0,.var 1,.var 2,.bin .Add (.int 2) (.bin .Mod (.var 3) (.int 4))|1]),.set 5 (.comp [kd,kd,kd,kd,kd,kd,kd,kf] ["_law_j"] (.nm 0) .rng1 %[.idx (.lst %[.int 1,.int 2,.int 3,.int 3|1]) (.bin .Mod (.bin .FloorDiv (.var 3) (.int 4)) (.int 4))|1] .nop (.call "_law_name" %[.var 3,.bin .Add (.int 10) (.var 0)|1])),.own 6 (.lst .anil),.for_ (.tp [7,8]) .val %[.lst %[.tup %[.int 0,.int 1|1],.tup %[.int 0,.int 2|1],.tup %[.int 1,.int 2|1]|1]|1] tG,.own 10 (.dnew kd),.for_ (.nm 11) .val %[.var 5|1] RK,.set 12 (.bin .Add (.int 4) (.bin .Mod (.bin .FloorDiv (.var 3) (.int 100)) (.int 9))),.set 13 (.eff (.comp [kd,kd,kd,kd,kd,kd,kd,kd,kf] ["_law_k"] (.nm 0) .rng1 %[.var 12|1] .nop (.call "_law_event" %[.call "_law_next" %[.var 1,.var 2|1],.var 0,.var 5,.var 6,.var 11|1]))),.frz [6] (.ret (.tup %[.var 4,.var 5,.var 6,.var 13|1]))|2]
theorem eX:GA K1 mK NP KM (top 53)=true:=by kernel_rfl
noncomputable def OP:LS:=["_law_world_here","_law_matter","_law_seers_here"]
def VM:LS:=["_law_world_here","_law_matter"]
def V1:Need:=#[[],[],[]]
noncomputable def nK:PT :=
  %[.set 2 (.comp [] ["_law_event_here"] (.nm 0) .val %[.idx (.var 0) (.int 3)|1] (.and (.cmp .Eq (.idx (.var 0) (.int 0)) (.str "see")) (.cmp .Eq (.idx (.var 0) (.int 3)) (.var 2))) (.idx (.var 0) (.int 2))),.ret (.comp [] ["_law_person"] (.nm 0) .val %[.idx (.var 0) (.int 0)|1] (.cmp .In (.idx (.var 0) (.int 0)) (.var 3)) (.idx (.var 0) (.int 0)))|2]
theorem iX:GA V1 nK OP VM (top 56)=true:=by kernel_rfl
noncomputable def lh:LS:=["_law_script","_law_world_here","_law_number","_law_taken","_law_live","_law_held","_law_k","_law_person","_law_matter","_law_leans","_law_tellers","_law_silent"]
def j6:LS:=["_law_script"]
noncomputable def vq:Need:=#[["_law_world","gone","_law_draw","leans_of","_law_seers","struck"],[],["range","len"]]
noncomputable def vS:PT :=
  %[.tset [7,8] (.idx (.var 5) (.bin .Mod (.call "_law_draw" %[.var 0,.bin .Add (.int 700) (.var 6)|1]) (.bi .len %[.var 5|1]))),.set 9 (.call "leans_of" %[.var 1,.var 7,.var 8|1]),.ife (.or (.cmp .In (.var 7) (.var 9)) (.and (.cmp .In (.var 7) (.call "_law_seers" %[.var 1,.var 8|1])) (.cmp .NotEq (.var 9) (.lst .anil)))) %[.ret (.bl kd)|2] .nil|2]
def f9:PT :=
  %[.set 1 (.call "_law_world" %[.var 0|1]),.tset [2,3,4,5] (.idx (.call "gone" %[.var 1|1]) (.ng 1)),.for_ (.nm 6) .rng1 %[.int 2|1] vS,.set 10 (.comp [] ["_law_one"] (.nm 0) .val %[.var 4|1] (.cmp .Eq (.idx (.idx (.idx (.var 2) (.int 3)) (.var 0)) (.int 0)) (.str "tell")) (.idx (.idx (.idx (.var 2) (.int 3)) (.var 0)) (.int 2))),.set 11 (.comp [] ["_law_name_here"] (.nm 0) .val %[.idx (.var 1) (.int 0)|1] (.cmp .NotIn (.idx (.var 0) (.int 0)) (.var 11)) (.idx (.var 0) (.int 0))),.ife (.cmp .Eq (.var 11) (.lst .anil)) %[.ret (.bl kf)|2] .nil,.ret (.cmp .Eq (.idx (.call "struck" %[.var 1,.idx (.var 11) (.bin .Mod (.call "_law_draw" %[.var 0,.int 702|1]) (.bi .len %[.var 11|1]))|1]) (.int 0)) (.lst .anil))|2]
theorem Hl:GA vq f9 lh j6 (top 58)=true:=by kernel_rfl
theorem HR(a b:Str):Qt (.str a) (.str b)=decide (a=b):=by rw[qG,Az];simp[Qt]
theorem fC(l:LS)(z:Str):((l.map jk).any λy=>Qt y (.str z))=decide (z∈l):=by rw[QB9,qG,wJ,Az];constructor;rintro⟨x,u,e⟩;have e:Qt (.str x) (.str z)=true:=e;rw[HR,Az]at e;exact e▸u;intro h;exact#[z,h,by show Qt (.str z) (.str z)=kf;rw[HR];exact dT rfl]
theorem UB(l:LS):(l.map jk).all SA=true:=by rw[List.all_map,qH];exact λ_ _=>rfl
noncomputable def ud(g:Str)(cut:LS)(s:Str):Bool:=!decide (s=g)&&!decide (s∈cut)
inductive Led(es:VC)(st:LS)(g:Str)(cut:LS):Str->Prop
 |st {s:Str}:s∈st->ud g cut s=kf->Led es st g cut s
 |ed {a b:Str}:Led es st g cut a->(a,b)∈es->ud g cut b=kf->Led es st g cut b
theorem yR:∀{ks ns:LS},ks.Nodup->(∀s∈ks,s∈ns)->ks.9<=ns.9
 |[],_,_,_=>Qs _|s::r,ns,h,hs=>by let#[k,u]:=Qh.mp h;have z:=hs s QF;have:=yR (ks:=r) (ns:=ns.erase s) u λx y=>(QBB (λ(e:x=s)=>k (e▸y))).mpr (hs x (QG _ y));rw[QAV z]at this;have f:=QAu z;rw[QK];omega
def one(y:Str):Prop:=∃c,c<128/\y=#[(qB [c])]
def pr(p:Str×Str):D:=.tuple [.str p.1,.str p.2]
theorem Gd{α h:Type}(f:α->h)(l:List α)(a b:Option Int):OR (l.map f) a b=(OR l a b).map f:=by unfold OR;rw[QC,List.map_take,List.map_drop]
noncomputable abbrev Pt:=Str×Str
theorem BQ(h:pr p=pr q):p=q:=by let#[a,b]:=p;let#[c,d]:=q;injection h with h;injection h with h1 h;injection h with h2 _;injection h1 with h1;injection h2 with h2;exact QCL h1 h2
theorem B8{x k:D}{r:List D}(h:x≠k):cA (x::r) k=(cA r k).map (·+1):=by unfold cA;rw[th h];cases r<;>rfl
theorem Ef{x k:D}{r:List D}(h:x=k):cA (x::r) k=kx 0:=by unfold cA;rw[tt h]
noncomputable def look{α:Type}:List (Pt×α)->Pt->Option α
 |[],_=>kv|e::l,p=>if e.1=p then kx e.2 else look l p
noncomputable def put{α:Type}:List (Pt×α)->Pt->α->List (Pt×α)
 |[],p,v=>[(p,v)]|e::l,p,v=>if e.1=p then(e.1,v)::l else e::put l p v
def OC{α:Type}(l:List (Pt×α)):List D:=l.map λe=>pr e.1
theorem kK{α:Type}{p:Pt}:∀{l:List (Pt×α)},look l p=kv->cA (OC l) (pr p)=kv/\∀w,put l p w=l++[(p,w)]
 |[],_=>#[rfl,λ_=>rfl]|e::l,h=>by unfold look at h;by_cases c:e.1=p;rw[tt c]at h;cases h;rw[th c]at h;let#[y,x]:=kK h;refine#[?_,λw=>?_];show cA (pr e.1::OC l) (pr p)=kv;rw[B8 (λz=>c (BQ z)),y];rfl;show(if e.1=p then(e.1,w)::l else e::put l p w)=_;rw[th c,x];rfl
theorem BC{α:Type}{p:Pt}{v:α}(f:α->T):∀{l:List (Pt×α)},look l p=kx v->∃n,cA (OC l) (pr p)=kx n/\(l.map λe=>f e.2)[n]?=kx (f v)/\∀w,OC (put l p w)=OC l/\(l.map λe=>f e.2).set n (f w)=(put l p w).map λe=>f e.2
 |[],h=>by cases h|e::l,h=>by unfold look at h;by_cases c:e.1=p;rw[tt c]at h;injection h with h;refine#[0,?_,?_,λw=>?_];exact Ef (aj pr c);show kx (f e.2)=_;rw[h];have:put (e::l) p w=(e.1,w)::l:=tt c;rw[this];exact#[rfl,rfl];rw[th c]at h;let#[n,i,k,u]:=BC f h;refine#[n+1,?_,k,λw=>?_];show cA (pr e.1::OC l) (pr p)=kx (n+1);rw[B8 (λz=>c (BQ z)),i];rfl;have:put (e::l) p w=e::put l p w:=th c;rw[this];let#[y,x]:=u w;refine#[?_,?_];show pr e.1::OC (put l p w)=pr e.1::OC l;rw[y];show f e.2::(l.map λe=>f e.2).set n (f w)=f e.2::(put l p w).map λe=>f e.2;rw[x]
theorem pD{α:Type}{p q:Pt}{w:α}:∀{l:List (Pt×α)},look (put l p w) q=if p=q then kx w else look l q
 |[]=>rfl|e::l=>by
  by_cases c:e.1=p;have h:put (e::l) p w=(e.1,w)::l:=tt c;rw[h];show(if e.1=q then kx w else look l q)=if p=q then kx w else(if e.1=q then kx e.2 else look l q)
  rw[c];split<;>rfl;have h:put (e::l) p w=e::put l p w:=th c;rw[h];show(if e.1=q then kx e.2 else look (put l p w) q)=if p=q then kx w else(if e.1=q then kx e.2 else look l q)
  rw[pD];by_cases d:e.1=q;rw[tt d,tt d,th (λz=>c (d.trans z.symm))];rw[th d,th d]
theorem sY{α:Type}{p:Pt}{w:α}:∀{l:List (Pt×α)},(put l p w).9<=l.9+1
 |[]=>Qc _|e::l=>by by_cases c:e.1=p;rw[show put (e::l) p w=(e.1,w)::l from tt c,QK,QK];omega;have:=sY (p:=p) (w:=w) (l:=l);rw[show put (e::l) p w=e::put l p w from th c,QK,QK];omega
theorem TB(p:Pt):AC kf (pr p):=#[[.s p.1,.s p.2],rfl,by simp[c7,nkds]]
noncomputable abbrev Inn:=List (Pt×Int)
noncomputable abbrev Rm:=List (Pt×Inn)
noncomputable def aD(l:Inn):T:=.dct kf (OC l) (l.map λe=>T.d (.int e.2))
def cB(r:Rm):T:=.dct kf (OC r) (r.map λe=>aD e.2)
def sdf(r:Rm)(p:Pt):Rm:=match look r p with
 |some _=>r|none=>r++[(p,[])]
theorem mY(hl:r.9<kb)(q:Q (cB (sdf r p))):So (.d (pr p)) (cB r) Q:=by
 refine#[OC r,_,rfl,TB p,by unfold OC;rw[QC];exact hl,?_];unfold sdf at q;cases h:look r p with
 |some v=>rw[h]at q;let#[n,x,_]:=BC aD h;exact .inl #[n,x,q]|none =>
  rw[h]at q;refine .inr #[(kK h).1,?_];have e:cB (r++[(p,[])])=.dct kf (OC r++[pr p]) ((r.map λe=>aD e.2)++[.dct kf [] []]):=by unfold cB OC;rw[QR,QR];rfl
  show Q (T.dct kf (OC r++[pr p]) ((r.map λe=>aD e.2)++[.dct kf [] []]));rw[<- e];exact q
theorem bQ(hl:l.9<kb)(q:Q (aD (put l p v))):Ua (aD l) (.d (pr p)) (.d (.int v)) Q:=by
 refine#[TB p,by unfold OC;rw[QC];exact hl,?_];have e:OJ kf (OC l) (l.map λe=>T.d (.int e.2)) (pr p) (.d (.int v))=aD (put l p v):=by
  unfold OJ;cases h:look l p with|none=>let#[x,y]:=kK h;rw[x,y];unfold aD OC;rw[QR,QR];rfl|some u=>let#[n,x,y,f]:=BC (λi:Int=>T.d (.int i)) h;rw[x];let#[k,z]:=f v;show T.dct kf (OC l) ((l.map λe=>T.d (.int e.2)).set n (T.d (.int v)))=_;unfold aD;rw[k,z]
 show Q (OJ kf (OC l) (l.map λe=>T.d (.int e.2)) (pr p) (.d (.int v)));rw[e];exact q
theorem aI{Q:T->(T->T)->Prop}(h:look r p=kx l)(q:∀f:T->T,(∀x,f (aD x)=cB (put r p x))->Q (aD l) f):Xa (.d (pr p)) (cB r) Q:=by let#[n,i,k,u]:=BC aD h;refine#[kf,OC r,_,n,aD l,rfl,TB p,i,k,q _ λx=>?_];let#[z,y]:=u x;show T.dct kf (OC r) ((r.map λe=>aD e.2).set n (aD x))=_;unfold cB;rw[z,y]
def VA:Pt:=("","begin")
def tO(n:Str):Pt:=(n,"to")
def fR(n:Str):Pt:=(n,"from")
theorem Pu:("begin":Str)≠"to":=by decide +kernel
theorem Ru:("begin":Str)≠"from":=by decide +kernel
theorem Ou:("to":Str)≠"from":=by decide +kernel
theorem kC:VA≠tO a:=λh=>Pu (aj Prod.snd h)
theorem NE:VA≠fR a:=λh=>Ru (aj Prod.snd h)
theorem MA:tO a≠fR b:=λh=>Ou (aj Prod.snd h)
theorem MB(h:tO a=tO b):a=b:=aj qk h
theorem jI(h:fR a=fR b):a=b:=aj qk h
def m4(p q:Pt):Prop:=(p=VA/\∃n,q=tO n)∨(∃n,p=tO n/\q=fR n)∨(∃a b,a≠b/\p=fR a/\q=tO b)
theorem gF(h:m4 p q):¬ m4 q p:=by
 rintro k;rcases h with⟨rfl,n,rfl⟩| ⟨n,rfl,rfl⟩| ⟨a,b,u,rfl,rfl⟩<;>rcases k with⟨x,m,y⟩| ⟨m,x,y⟩| ⟨c,d,z,x,y⟩
 exact kC x.symm;exact NE y;exact MA x;exact NE x.symm;exact MA x.symm;exact z ((jI x).symm.trans (MB y));exact kC x.symm;exact u ((jI y).trans (MB x).symm);exact MA x
theorem fG(h:m4 p q):p≠q:=λe=>gF h (by rw[e]at h ⊢;exact h)
noncomputable abbrev Wy:=Pt×Pt×Int
def lk(r:Rm)(p:Pt):Inn:=(look r p).getD []
def CB(r:Rm)(w:Wy):Rm:=put (put (sdf (sdf r w.1) w.2.1) w.1 (put (lk (sdf (sdf r w.1) w.2.1) w.1) w.2.1 w.2.2)) w.2.1 (put (lk (put (sdf (sdf r w.1) w.2.1) w.1 (put (lk (sdf (sdf r w.1) w.2.1) w.1) w.2.1 w.2.2)) w.2.1) w.1 0)
theorem MT{α:Type}{p q:Pt}{v:α}:∀{l:List (Pt×α)},look (l++[(p,v)]) q=(look l q).or (if p=q then kx v else kv)
 |[]=>rfl|e::l=>by show(if e.1=q then kx e.2 else look (l++[(p,v)]) q)=(if e.1=q then kx e.2 else look l q).or (if p=q then kx v else kv);by_cases c:e.1=q;rw[tt c,tt c];rfl;rw[th c,th c];exact MT
theorem GT:look (sdf r p) q=(look r q).or (if p=q then kx [] else kv):=by
 unfold sdf;cases h:look r p with
 |some v =>
  show look r q=_;cases y:look r q with
  |some x=>rfl|none =>
   show kv=if p=q then kx [] else kv
   rw[th];intro e;rw[e,y]at h;cases h
 |none=>show look (r++[(p,[])]) q=_;exact MT
theorem iQ:(sdf r p).9<=r.9+1:=by unfold sdf;split;omega;rw[QI,Qi];omega
theorem UI{α:Type}{p:Pt}{w:α}{e:Pt×α}:∀{l:List (Pt×α)},e∈put l p w->e=(p,w)∨e∈l
 |[],h=>.inl (QJ.mp h)|x::l,h=>by by_cases c:x.1=p;rw[show put (x::l) p w=(x.1,w)::l from tt c]at h;rcases QL.mp h with h|h;exact .inl (by rw[h,c]);exact .inr (QG _ h);rw[show put (x::l) p w=x::put l p w from th c]at h;rcases QL.mp h with h|h;exact .inr (by rw[h];exact QF);exact(UI h).imp_right (QG _)
theorem KQ{α:Type}{p:Pt}{w:α}{q:Pt}:∀{l:List (Pt×α)},(∃v,(q,v)∈put l p w)↔q=p∨∃v,(q,v)∈l
 |[]=>by
  constructor;rintro⟨v,h⟩;exact .inl (aj qk (QJ.mp h));rintro(rfl|⟨v,h⟩)
  ·exact#[w,QJ.mpr rfl]
  exact(nomatch h)
 |x::l=>by
  by_cases c:x.1=p;rw[show put (x::l) p w=(x.1,w)::l from tt c];constructor;rintro⟨v,h⟩;rcases QL.mp h with h|h;exact .inl ((aj qk h).trans c);exact .inr #[v,QG _ h];rintro(rfl|⟨v,h⟩)
  ·exact#[w,by rw[c];exact QF]
  rcases QL.mp h with h|h
  ·exact#[w,by rw[<- h];exact QF]
  exact#[v,QG _ h];rw[show put (x::l) p w=x::put l p w from th c];have y:=KQ (p:=p) (w:=w) (q:=q) (l:=l);constructor;rintro⟨v,h⟩;rcases QL.mp h with h|h;exact .inr #[v,by rw[h];exact QF];exact(y.mp #[v,h]).imp_right λ#[v,h]=>#[v,QG _ h]
  rintro(h|⟨v,h⟩)
  ·let#[v,h]:=y.mpr (.inl h)
   exact#[v,QG _ h]
  rcases QL.mp h with h|h
  ·exact#[v,by rw[h];exact QF]
  let#[v,h]:=y.mpr (.inr #[v,h]);exact#[v,QG _ h]
def t4(r:Rm)(p q:Pt):Prop:=∃v,(q,v)∈lk r p
def Key(r:Rm)(p:Pt):Prop:=∃l,look r p=kx l
def Pos(r:Rm):Prop:=∀p,∀e∈lk r p,(0<e.2↔m4 p e.1)
def T9(r:Rm):Prop:=∀p q,t4 r p q->Key r q
def Sz(r:Rm)(n:Nat):Prop:=r.9<=n/\∀p,(lk r p).9<=n
theorem cE:lk (put r p l) q=if p=q then l else lk r q:=by unfold lk;rw[pD];split<;>rfl
theorem bE:lk (sdf r p) q=lk r q:=by
 unfold lk;rw[GT];cases look r q with|some x=>rfl|none=>show(if p=q then kx [] else kv).getD []=[];split<;>rfl
theorem II:Key (put r p l) q↔p=q∨Key r q:=by unfold Key;rw[pD];by_cases h:p=q;rw[tt h];exact#[λ_=>.inl h,λ_=>#[_,rfl]];rw[th h];exact#[.inr,λz=>z.resolve_left h]
theorem AD:Key (sdf r p) q↔p=q∨Key r q:=by
 unfold Key;rw[GT];cases look r q with|some x=>exact#[λ_=>.inr #[_,rfl],λ_=>#[_,rfl]]|none=>show(∃l,(if p=q then kx [] else kv)=kx l)↔_;by_cases h:p=q;rw[tt h];exact#[λ_=>.inl h,λ_=>#[_,rfl]];rw[th h];exact#[λ#[_,e]=>(nomatch e),λz=>(z.resolve_left h)]
theorem AI(h:w.1≠w.2.1)(p:Pt):lk (CB r w) p=if w.2.1=p then put (lk r p) w.1 0 else if w.1=p then put (lk r p) w.2.1 w.2.2 else lk r p:=by unfold CB;rw[cE,cE,cE,bE,bE,bE,bE,th h,bE,bE];by_cases y:w.2.1=p;rw[tt y,tt y,y];rw[th y,th y];by_cases x:w.1=p;rw[tt x,tt x,x];rw[th x,th x]
theorem hG:Key (CB r w) p↔p=w.1∨p=w.2.1∨Key r p:=by
 unfold CB;rw[II,II,AD,AD];constructor;rintro(h|h|h|h|h)
 ·exact .inr (.inl h.symm)
 exact .inl h.symm;exact .inr (.inl h.symm);exact .inl h.symm;exact .inr (.inr h);rintro(h|h|h)
 ·exact .inr (.inl h.symm)
 exact .inl h.symm;exact .inr (.inr (.inr (.inr h)))
theorem bJ(h:w.1≠w.2.1):t4 (CB r w) p q↔t4 r p q∨(p=w.1/\q=w.2.1)∨(p=w.2.1/\q=w.1):=by
 unfold t4;rw[AI h];by_cases x:w.2.1=p;rw[tt x,KQ];constructor;rintro(e|e)
 ·exact .inr (.inr #[x.symm,e])
 exact .inl e;rintro(e|⟨u,y⟩| ⟨u,y⟩)
 ·exact .inr e
 exact ti (u.symm.trans x.symm) h;exact .inl y;rw[th x];by_cases k:w.1=p;rw[tt k,KQ];constructor;rintro(e|e)
 ·exact .inr (.inl #[k.symm,e])
 exact .inl e;rintro(e|⟨u,y⟩| ⟨u,y⟩)
 ·exact .inr e
 exact .inl y;exact ti u.symm x;rw[th k];exact#[.inl,λz=>z.elim id λz=>z.elim (λe=>ti e.1.symm k) λe=>ti e.1.symm x]
def DG(w:Wy):Prop:=m4 w.1 w.2.1/\0<w.2.2
theorem k6(g:DG w)(y:Pos r):Pos (CB r w):=by intro p e h;rw[AI (fG g.1)]at h;by_cases k:w.2.1=p;rw[tt k]at h;rcases UI h with z|z;rw[z,<- k];exact#[λx=>ti x (wb 0),λx=>ti x (gF g.1)];exact y p e z;rw[th k]at h;by_cases u:w.1=p;rw[tt u]at h;rcases UI h with z|z;rw[z,<- u];exact#[λ_=>g.1,λ_=>g.2];exact y p e z;rw[th u]at h;exact y p e h
theorem M8(g:DG w)(x:T9 r):T9 (CB r w):=by
 intro p q h;rw[hG];rcases(bJ (fG g.1)).mp h with h|⟨_,h⟩| ⟨_,h⟩
 exact .inr (.inr (x p q h));exact .inr (.inl h);exact .inl h
theorem rM{α:Type}{w:α}{l:List (Pt×α)}{n:Nat}(h:l.9<=n):(put l p w).9<=n+1:=QZ sY ()
theorem VQ{α:Type}{p:Pt}{w:α}:∀{l:List (Pt×α)},(look l p).isSome=kf->(put l p w).9=l.9
 |[],h=>by cases h|e::l,h=>by by_cases c:e.1=p;rw[show put (e::l) p w=(e.1,w)::l from tt c];rfl;rw[show put (e::l) p w=e::put l p w from th c,QK,QK];rw[show look (e::l) p=look l p from th c]at h;rw[VQ h]
theorem yU(h:Key r p):(look r p).isSome=true:=by let#[l,e]:=h;rw[e];rfl
theorem N7:(CB r w).9<=r.9+2:=by have x:Key (sdf (sdf r w.1) w.2.1) w.1:=AD.mpr (.inr (AD.mpr (.inl rfl)));have h:Key (sdf (sdf r w.1) w.2.1) w.2.1:=AD.mpr (.inl rfl);unfold CB;rw[VQ (yU (II.mpr (.inr h))),VQ (yU x)];have:=iQ (r:=r) (p:=w.1);have:=iQ (r:=sdf r w.1) (p:=w.2.1);omega
theorem tI{n:Nat}(g:w.1≠w.2.1)(h:Sz r n):Sz (CB r w) (n+2):=by
 refine#[QZ N7 (by have:=h.1;omega),λp=>?_];rw[AI g];have x:=h.2 p;split;exact QZ (rM x) ();split
 ·exact QZ (rM x) ()
 omega
theorem nZ:∀{ws:List Wy}{r:Rm},(∀w∈ws,DG w)->∀{p q:Pt},t4 (ws.foldl CB r) p q↔t4 r p q∨(∃v,(p,q,v)∈ws)∨∃v,(q,p,v)∈ws
 |[],r,_,p,q=>#[.inl,λz=>z.elim id λz=>z.elim (λ#[_,z]=>(nomatch z)) λ#[_,z]=>(nomatch z)]
 |w::ws,r,h,p,q=>by
  rw[W5,nZ (λw x=>h w (QG _ x)),bJ (fG (h w QF).1)];constructor;rintro((z|⟨rfl,rfl⟩| ⟨rfl,rfl⟩)|⟨v,z⟩| ⟨v,z⟩)
  ·exact .inl z
  exact .inr (.inl #[_,QF]);exact .inr (.inr #[_,QF]);exact .inr (.inl #[v,QG _ z]);exact .inr (.inr #[v,QG _ z]);rintro(z|⟨v,z⟩| ⟨v,z⟩)
  ·exact .inl (.inl z)
  rcases QL.mp z with z|z
  ·rw[<- z]
   exact .inl (.inr (.inl #[rfl,rfl]))
  exact .inr (.inl #[v,z]);rcases QL.mp z with z|z
  ·rw[<- z]
   exact .inl (.inr (.inr #[rfl,rfl]))
  exact .inr (.inr #[v,z])
theorem vV:∀{ws:List Wy}{r:Rm}{n:Nat},(∀w∈ws,DG w)->Pos r->T9 r->Key r VA->Sz r n->Pos (ws.foldl CB r)/\T9 (ws.foldl CB r)/\Key (ws.foldl CB r) VA/\Sz (ws.foldl CB r) (n+2 * ws.length)
 |[],r,n,_,h1,h2,h3,h4=>#[h1,h2,h3,h4]|w::ws,r,n,h,h1,h2,h3,h4=>by have g:=h w QF;have:=vV (ws:=ws) (r:=CB r w) (n:=n+2) (λw x=>h w (QG _ x)) (k6 g h1) (M8 g h2) (hG.mpr (.inr (.inr h3))) (tI (fG g.1) h4);rw[W5,QK,show n+2 * (ws.length+1)=n+2+2 * ws.length by omega];exact this
noncomputable def tS(g:Str)(n:Str):List Wy:=if n=g then[] else[(tO n,fR n,1),(VA,tO n,2)]
noncomputable def sV(g:Str)(e:Str×Str):List Wy:=if e.1=g∨e.1=e.2 then[] else[(tO e.1,fR e.1,1),(tO e.2,fR e.2,1),(fR e.1,tO e.2,2)]
def pH:Rm:=[(VA,[])]
def yA(es:VC)(st:LS)(g:Str):Rm:=(es.flatMap (sV g)).foldl CB ((st.flatMap (tS g)).foldl CB pH)
theorem Nt:(0:Int)<1:=by decide
theorem Yx:(0:Int)<2:=by decide
theorem TX:(tS g n).9<=2:=by unfold tS;split;exact Qs _;exact Qc _
theorem AX:(sV g e).9<=3:=by unfold sV;split;exact Qs _;exact Qc _
theorem NL:∀w∈tS g n,DG w:=by
 intro w h;unfold tS at h;split at h;exact(nomatch h);rcases QL.mp h with rfl|h
 ·exact#[.inr (.inl #[n,rfl,rfl]),Nt]
 rw[QJ.mp h];exact#[.inl #[rfl,n,rfl],Yx]
theorem OL:∀w∈sV g e,DG w:=by
 intro w x;unfold sV at x;split at x;exact(nomatch x);rename_i h;rcases QL.mp x with rfl|x;exact#[.inr (.inl #[e.1,rfl,rfl]),Nt];rcases QL.mp x with rfl|x
 ·exact#[.inr (.inl #[e.2,rfl,rfl]),Nt]
 rw[QJ.mp x];exact#[.inr (.inr #[e.1,e.2,λz=>h (.inr z),rfl,rfl]),Yx]
theorem fN{α:Type}{f:α->List Wy}{k:Nat}(h:∀x,(f x).9<=k):∀(l:List α),(l.flatMap f).9<=k * l.9
 |[]=>Qc _|x::l=>by have:=fN h l;have:=h x;rw[Wc,QI,QK,Nat.mul_succ];omega
theorem xH{α:Type}{f:α->List Wy}(h:∀x,∀w∈f x,DG w)(l:List α):∀w∈l.flatMap f,DG w:=λw z=>by let#[x,_,y]:=wK.mp z;exact h x w y
structure RmOk(r:Rm)(n:Nat):Prop where
 pos:Pos r
 dom:T9 r
 bg:Key r VA
 sz:Sz r n
theorem YE:RmOk pH 1:=by
 have e:∀p,lk pH p=[]:=λp=>by show(if VA=p then kx [] else kv).getD []=[];split<;>rfl
 refine#[λp y x=>?_,λp q #[v,h]=>?_,#[[],tt rfl],Qc _,λp=>?_];rw[e]at x;exact(nomatch x);rw[e]at h;exact(nomatch h);rw[e];exact Qs _
theorem RmOk.add{r:Rm}{n:Nat}(h:RmOk r n){ws:List Wy}(g:∀w∈ws,DG w):RmOk (ws.foldl CB r) (n+2 * ws.length):=by let#[u,z,y,x]:=vV g h.pos h.dom h.bg h.sz;exact#[u,z,y,x]
theorem mT{es:VC}{st:LS}(z:es.9<=126)(y:st.9<=11):RmOk (yA es st g) 1000:=by have a:=(YE.add (xH (f:=tS g) (λ_=>NL) st)).add (xH (f:=sV g) (λ_=>OL) es);have x:=fN (f:=tS g) (k:=2) (λ_=>TX) st;have h:=fN (f:=sV g) (k:=3) (λ_=>AX) es;exact#[a.pos,a.dom,a.bg,QZ a.sz.1 (),λp=>QZ (a.sz.2 p) ()]
def Kg(r:Rm)(p q:Pt):Prop:=∃v,(q,v)∈lk r p/\0<v
inductive Rch(r:Rm):Pt->Prop
 |bg:Rch r VA
 |go {p q:Pt}:Rch r p->Kg r p q->Rch r q
theorem Fq:(p,q,v)∈tS g n↔n≠g/\((p,q,v)=(tO n,fR n,1)∨(p,q,v)=(VA,tO n,2)):=by unfold tS;split;rename_i h;exact#[λz=>(nomatch z),λz=>ti h z.1];rename_i h;rw[QL,QJ];exact#[λz=>#[h,z],λz=>z.2]
theorem Gq:(p,q,v)∈sV g e↔(e.1≠g/\e.1≠e.2)/\((p,q,v)=(tO e.1,fR e.1,1)∨(p,q,v)=(tO e.2,fR e.2,1)∨(p,q,v)=(fR e.1,tO e.2,2)):=by unfold sV;split;rename_i h;exact#[λz=>(nomatch z),λz=>h.elim (λh=>ti h z.1.1) λh=>ti h z.1.2];rename_i h;rw[QL,QL,QJ];exact#[λz=>#[#[λe=>h (.inl e),λe=>h (.inr e)],z],λz=>z.2]
theorem DE{cut:LS}{s:Str}:ud g cut s=kf↔s≠g/\s∉cut:=by unfold ud;rw[Qg,Q2,Q2,decide_eq_false_iff_not,decide_eq_false_iff_not]
end
section
variable{es:VC}{st:LS}{g:Str}{x:LS}
theorem yN{s:Str}(h:Led es st g x s):s≠g/\s∉x:=by
 cases h with|st _ h=>exact DE.mp h|ed _ _ h=>exact DE.mp h
end
section
variable{r:Rm}{ks:List Pt}{vs:List D}
theorem R4:∀{ws:List Wy}{r:Rm}{n:Nat},(∀w∈ws,DG w)->Sz r n->Sz (ws.foldl CB r) (n+2 * ws.length)
 |[],r,n,_,h4=>h4|w::ws,r,n,h,h4=>by have:=R4 (ws:=ws) (r:=CB r w) (n:=n+2) (λw x=>h w (QG _ x)) (tI (fG (h w QF).1) h4);rw[W5,QK,show n+2 * (ws.length+1)=n+2+2 * ws.length by omega];exact this
inductive CF(r:Rm):List Pt->List D->Prop
 |bg:CF r [VA] [.none]
 |add {ks:List Pt}{vs:List D}{p q:Pt}:CF r ks vs->p∈ks->Kg r p q->q∉ks->CF r (ks++[q]) (vs++[pr p])
theorem CF.len(h:CF r ks vs):vs.9=ks.length:=by
 induction h with|bg=>rfl|add _ _ _ _ x=>rw[QI,QI,x];rfl
theorem CF.hb(h:CF r ks vs):VA∈ks:=by
 induction h with|bg=>exact QF|add _ _ _ _ x=>exact Ql _ x
theorem CF.rch(h:CF r ks vs):∀k∈ks,Rch r k:=by
 induction h with|bg=>intro k hk;rw[QJ.mp hk];exact .bg|add _ y w _ x=>intro k hk;rcases Qe.mp hk with z|z;exact x k z;rw[QJ.mp z];exact .go (x _ y) w
theorem CF.nd(h:CF r ks vs):ks.Nodup:=by
 induction h with
 |bg=>exact Qh.mpr #[λz=>(nomatch z),Qx]
 |add _ _ _ n x=>refine qP.mpr #[x,Qh.mpr #[λz=>(nomatch z),Qx],λa y b hb z=>?_];rw[QJ.mp hb]at z;exact n (z▸y)
theorem XI(x:T9 r)(hb:Key r VA){p:Pt}(h:Rch r p):Key r p:=by
 cases h with|bg=>exact hb|go _ w=>let#[v,m,_]:=w;exact x _ _ #[v,m]
theorem rR{p:Pt}{l:Inn}:∀{r:Rm},look r p=kx l->p∈r.map (·.1)
 |[],h=>by cases h|e::r,h=>by by_cases c:e.1=p;rw[<- c];exact QF;rw[show look (e::r) p=look r p from th c]at h;exact QG _ (rR (r:=r) h)
theorem IG:∀{ks ns:List Pt},ks.Nodup->(∀s∈ks,s∈ns)->ks.9<=ns.9
 |[],_,_,_=>Qs _|s::r,ns,h,hs=>by let#[v,u]:=Qh.mp h;have z:=hs s QF;have:=IG (ks:=r) (ns:=ns.erase s) u λx y=>(QBB (λ(e:x=s)=>v (e▸y))).mpr (hs x (QG _ y));rw[QAV z]at this;have w:=QAu z;rw[QK];omega
theorem CF.le(y:T9 r)(hb:Key r VA)(h:CF r ks vs):ks.9<=r.length:=by
 have:=IG (ns:=r.map (·.1)) h.nd λs x=>by let#[l,e]:=XI y hb (h.rch s x);exact rR e
 rw[QC]at this;exact this
structure Srch(r:Rm)(ks:List Pt)(vs:List D)(ws:List Pt):Prop where
 cf:CF r ks vs
 sub:∀w∈ws,w∈ks
 clo:∀k∈ks,k∉ws->∀q,Kg r k q->q∈ks
structure Srch1(r:Rm)(here:Pt)(ks:List Pt)(vs:List D)(ws:List Pt)(l:Inn):Prop where
 cf:CF r ks vs
 sub:∀w∈ws,w∈ks
 clo:∀k∈ks,k∉ws->k≠here->∀q,Kg r k q->q∈ks
 her:here∈ks
 don:∀e∈lk r here,0<e.2->e.1∈ks∨e∈l
 all:∀e∈l,e∈lk r here
end
section
variable{r:Rm}{ks ws:List Pt}{vs:List D}
theorem Lo:Srch r [VA] [.none] [VA]:=#[.bg,λ_ h=>h,λk h n=>ti h n]
theorem Srch.pop{w:Pt}(h:Srch r ks vs (w::ws)):Srch1 r w ks vs ws (lk r w):=by refine#[h.cf,λx v=>h.sub x (QG _ v),λk hk n u=>h.clo k hk λz=>?_,h.sub w QF,λe y _=>.inr y,λe y=>y];rcases QL.mp z with z|z;exact u z;exact n z
theorem Srch1.skip{y:Pt}{e:Pt×Int}{l:Inn}(h:Srch1 r y ks vs ws (e::l))(c:0<e.2->e.1∈ks):Srch1 r y ks vs ws l:=by
 refine#[h.cf,h.sub,h.clo,h.her,λx u p=>?_,λx u=>h.all x (QG _ u)];rcases h.don x u p with z|z;exact .inl z;rcases QL.mp z with z|z
 ·rw[z]at p ⊢;exact .inl (c p)
 exact .inr z
theorem Srch1.add{u:Pt}{e:Pt×Int}{l:Inn}(h:Srch1 r u ks vs ws (e::l))(c:0<e.2)(n:e.1∉ks):Srch1 r u (ks++[e.1]) (vs++[pr u]) (ws++[e.1]) l:=by
 have f:=h.all e QF;refine#[h.cf.add h.her #[e.2,f,c] n,λx v=>?_,λk hk a b q w=>?_,Ql _ h.her,λx v p=>?_,λx v=>h.all x (QG _ v)];rcases Qe.mp v with z|z
 ·exact Ql _ (h.sub x z)
 exact QW _ z;rcases Qe.mp hk with z|z
 ·exact Ql _ (h.clo k z (λy=>a (Ql _ y)) b q w)
 exact ti (QW _ z) a;rcases h.don x v p with z|z
 ·exact .inl (Ql _ z)
 rcases QL.mp z with z|z
 ·rw[z];exact .inl (QW _ QF)
 exact .inr z
theorem Srch1.fin{x:Pt}(h:Srch1 r x ks vs ws []):Srch r ks vs ws:=by refine#[h.cf,h.sub,λk hk n q w=>?_];by_cases e:k=x;subst e;let#[v,m,p]:=w;rcases h.don (q,v) m p with z|z;exact z;exact(nomatch z);exact h.clo k hk n e q w
theorem Srch.done(h:Srch r ks vs [])(p:Pt):p∈ks↔Rch r p:=by
 refine#[h.cf.rch p,λz=>?_];induction z with|bg=>exact h.cf.hb|go _ w x=>exact h.clo _ x (λz=>(nomatch z)) _ w
end
def eC(Q:T->LT->Prop):PEnds:={ nx:=λh=>DQ (rA [0] h) (Q (.d .none)),rt:=λt h=>DQ (rA [0] h) (Q t) }
theorem uK{Ψ:PEv}{b:PT}{p:PSp}{N x:LS}{ds:LT}{Q:T->LT->Prop}(ρ:kA)(h:pF Ψ b (eC Q) ρ)(hl:ds.9=x.length:=by rfl)(hc:BB 0 p.md x.9=[0]:=by rfl)(hs:EA N p.md ds=ρ:=by rfl):ds.9=x.9/\pF Ψ b (iC p x.9 Q) (EA N p.md ds):=by
 have e:iC p x.9 Q=eC Q:=by unfold iC;rw[hc];rfl
 rw[e,hs];exact#[hl,h]
def N3(r:Rm)(h t:Pt)(v:Int):kA:=[oW (cB r),bD (pr h),bD (pr t),bD (.int v)]
section
variable{Ψ:PEv}{Z:PEnds}{q:PT}{r:Rm}{h t:Pt}{v:Int}
theorem Bw(hl:r.9<kb)(k:pF Ψ q Z (N3 (sdf r h) h t v)):pF Ψ (.seq (.sdf 0 (.var 1)) q) Z (N3 r h t v):=by delta N3 at k ⊢;simp![↓jA];refine#[rfl,mY hl ?_];exact k
theorem Uw(hl:r.9<kb)(k:pF Ψ q Z (N3 (sdf r t) h t v)):pF Ψ (.seq (.sdf 0 (.var 2)) q) Z (N3 r h t v):=by delta N3 at k ⊢;simp![↓jA];refine#[rfl,mY hl ?_];exact k
theorem Xw{l:Inn}(e:look r h=kx l)(hl:l.9<kb)(k:pF Ψ q Z (N3 (put r h (put l t v)) h t v)):pF Ψ (.seq (.six (.idx (.var 0) (.var 1)) (.var 2) (.var 3)) q) Z (N3 r h t v):=by delta N3 at k ⊢;simp![↓jA];refine aI e λf x=>bQ hl ?_;rw[x];exact k
theorem Kw{l:Inn}(e:look r t=kx l)(hl:l.9<kb)(k:pF Ψ q Z (N3 (put r t (put l h 0)) h t v)):pF Ψ (.seq (.six (.idx (.var 0) (.var 2)) (.var 1) (.int 0)) q) Z (N3 r h t v):=by delta N3 at k ⊢;simp![↓jA];refine aI e λf x=>bQ hl ?_;rw[x];exact k
end
theorem UE{r:Rm}{p:Pt}(h:Key r p):look r p=kx (lk r p):=by let#[l,e]:=h;unfold lk;rw[e];rfl
def OG:PSp where
 md:=[.chg]
 run:=λh Q _=>∃(r:Rm) (w:Wy),h=[cB r,.d (pr w.1),.d (pr w.2.1),.d (.int w.2.2)]/\(w.1≠w.2.1/\Sz r 5000)/\Q (.d .none) [cB (CB r w)]
theorem fc{Ψ:PEv}:CD Ψ BP OG jQ BM:=by rintro _ Q _ ⟨r,w,rfl,⟨z,h⟩,q⟩;refine uK (N3 r w.1 w.2.1 w.2.2) ?_;have a:=h.1;have k:=iQ (r:=r) (p:=w.1);have y:Key (sdf (sdf r w.1) w.2.1) w.1:=AD.mpr (.inr (AD.mpr (.inl rfl)));have x:Key (sdf (sdf r w.1) w.2.1) w.2.1:=AD.mpr (.inl rfl);have v:=h.2 w.1;have u:=h.2 w.2.1;refine Bw () (Uw () (Xw (UE y) (by rw[bE,bE];omega) (Kw (UE (II.mpr (.inr x))) (by rw[cE,th z,bE,bE];omega) ?_)));exact q
def KI:PSp where
 md:=[.chg]
 run:=λh Q _=>∃(r:Rm) (n:Str),h=[cB r,.d (.str n)]/\Sz r 5000/\Q (.d .none) [cB (CB r (tO n,fR n,1))]
theorem gc{Ψ:PEv}(x:Ψ.sp "add_way"=OG):CD Ψ fI KI yO GK:=by rintro _ Q _ ⟨r,n,rfl,h,q⟩;refine uK [oW (cB r),bD (.str n)] ?_;delta fI;simp![↓cH (md:=[]) x rfl rfl];refine#[(),(),?_];exact#[_,(tO n,fR n,1),rfl,#[MA,h],#[_,rfl,q]]
def E3(es:VC)(st:LS)(g:Str)(r:Rm)(o4 o5 o6:Option Sl):kA:=[bD (.list (es.map pr)),bD (.tuple (st.map jk)),bD (.str g),oW (cB r),o4,o5,o6]
section
variable{Ψ:PEv}{Z:PEnds}{es:VC}{st:LS}{g:Str}{r:Rm}
theorem Au(h:Ψ.va "BEGIN"=kx (pr VA)){q:PT}{o3 o4 o5 o6:Option Sl}(k:pF Ψ q Z (E3 es st g pH o4 o5 o6)) :
  pF Ψ (.seq (.own 3 (.dsp (.glo "BEGIN") (.dnew kf))) q) Z [bD (.list (es.map pr)),bD (.tuple (st.map jk)),bD (.str g),o3,o4,o5,o6]:=by
 simp![↓DH h];exact#[TB VA,k]
theorem Tu(a:Ψ.sp "add_name"=KI)(v:Ψ.sp "add_way"=OG)(u:Ψ.va "BEGIN"=kx (pr VA))(z:Ψ.va "WIDE"=kx (.int 2)){n:Str}{o5 o6:Option Sl}(hs:Sz r 4900)(k:Z.nx (E3 es st g ((tS g n).foldl CB r) (bD (.str n)) o5 o6)) :
  pF Ψ rF Z (E3 es st g r (bD (.str n)) o5 o6):=by
 delta E3 at k ⊢;delta rF;simp![↓DH u,↓DH z,↓cH (md:=[]) a rfl rfl,↓cH (md:=[]) v rfl rfl];by_cases e:n=g;rw[dT e];unfold tS at k;rw[tt e]at k;exact k;rw[dF e];unfold tS at k;rw[th e]at k;have y:Sz r 5000:=#[QZ hs.1 (),λp=>QZ (hs.2 p) ()]
 have h:=tI (w:=(tO n,fR n,1)) MA hs;have x:Sz (CB r (tO n,fR n,1)) 5000:=#[QZ h.1 (),λp=>QZ (h.2 p) ()]
 refine#[_,_,rfl,y,#[_,rfl,?_]];refine#[(),?_];exact#[_,(VA,tO n,2),rfl,#[kC,x],#[_,rfl,k]]
theorem Su(i:Ψ.sp "add_name"=KI)(f:Ψ.sp "add_way"=OG)(v:Ψ.va "WIDE"=kx (.int 2)){a b:Str}{o4:Option Sl}(hs:Sz r 4900)(k:Z.nx (E3 es st g ((sV g (a,b)).foldl CB r) o4 (bD (.str a)) (bD (.str b)))) :
  pF Ψ oF Z (E3 es st g r o4 (bD (.str a)) (bD (.str b))):=by
 delta E3 at k ⊢;delta oF;simp![↓DH v,↓cH (md:=[]) i rfl rfl,↓cH (md:=[]) f rfl rfl];unfold sV at k;by_cases e:a=g;rw[dT e];rw[tt (.inl e)]at k;exact k;rw[dF e];by_cases h:a=b;rw[dT h];rw[tt (.inr h)]at k;exact k;rw[dF h];rw[th (λz=>z.elim e h)]at k;have u:Sz r 5000:=#[QZ hs.1 (),λp=>QZ (hs.2 p) ()]
 have x:=tI (w:=(tO a,fR a,1)) MA hs;have y:=tI (w:=(tO b,fR b,1)) MA x;refine#[_,_,rfl,u,#[_,rfl,?_]];refine#[_,_,rfl,#[QZ x.1 (),λp=>QZ (x.2 p) ()],#[_,rfl,?_]];refine#[(),(),?_];exact#[_,(fR a,tO b,2),rfl,#[MA.symm,#[QZ y.1 (),λp=>QZ (y.2 p) ()]],#[_,rfl,k]]
end
section
variable{Ψ:PEv}{r:Rm}{p q:Pt}{l:Inn}{n m:Bool}{R:T->Prop}{W:LT->Prop}{E:XE}{ρ:kA}{b:PX}{M:List (T×Bool)->kA->Prop}{md:List Md}{ks:List Pt}{vs:List D}
def JI:PSp where
 run:=λx Q _=>∃(h:VC) (st:LS) (g:Str),x=[.d (.list (h.map pr)),.d (.tuple (st.map jk)),.d (.str g)]/\(h.9<=126/\st.9<=11)/\Q (cB (yA h st g)) []
theorem C0(o:Ψ.sp "add_name"=KI)(j:Ψ.sp "add_way"=OG)(i:Ψ.va "BEGIN"=kx (pr VA))(f:Ψ.va "WIDE"=kx (.int 2)):CD Ψ VN JI PN JK:=by rintro _ Q _ ⟨h,st,g,rfl,⟨Y,X⟩,q⟩;refine bA [bD (.list (h.map pr)),bD (.tuple (st.map jk)),bD (.str g),kv,kv,kv,kv] ?_;refine Au i ?_;delta E3;simp![↓jA];rw[<- fA];refine ZB (λ(s:Str)=>T.d (.str s)) (λl ρ=>∃r x,RmOk r (1+4 * (11 - l.9))/\l.9<=11/\(l.flatMap (tS g)).foldl CB r=(st.flatMap (tS g)).foldl CB pH/\ρ=E3 h st g r x kv kv) ?_ ?_ _ _ #[pH,_,?_,X,rfl,rfl];rintro ρ ⟨r,x,ok,_,e,rfl⟩;have e:r=(st.flatMap (tS g)).foldl CB pH:=e;delta E3;simp![↓jA];rw[<- fA];refine ZB (λ(p:Str×Str)=>T.d (pr p)) (λl ρ=>∃r v u,Sz r (45+6 * (126 - l.9))/\l.9<=126/\(l.flatMap (sV g)).foldl CB r=yA h st g/\ρ=E3 h st g r (EI x) v u) ?_ ?_ _ _ #[r,_,_,?_,Y,by rw[e];rfl,rfl];rintro ρ ⟨r,v,u,_,_,e,rfl⟩;have e:r=yA h st g:=e;subst e;delta E3;simp![↓jA];exact q;rintro⟨a,b⟩ l ρ N k ⟨r,v,u,s,w,e,rfl⟩;rw[QK]at s w;rw[Wc,QAW]at e;refine JE.mk rfl ?_;refine Su (a:=a) (b:=b) o j f #[QZ s.1 (),λp=>QZ (s.2 p) ()] (k _ #[_,_,_,?_,(),e,rfl]);have z:Sz ((sV g (a,b)).foldl CB r) (45+6 * (126 - (l.9+1))+2 * (sV g (a,b)).9):=R4 OL s;have y:=AX (g:=g) (e:=(a,b));exact#[QZ z.1 (),λp=>QZ (z.2 p) ()];exact#[QZ ok.sz.1 (by rw[qK];omega),λp=>QZ (ok.sz.2 p) (by rw[qK];omega)];rintro s l ρ N k ⟨r,x,ok,w,e,rfl⟩;rw[QK]at ok w;rw[Wc,QAW]at e;refine Tu (n:=s) o j i f #[QZ ok.sz.1 (),λp=>QZ (ok.sz.2 p) ()] (k _ #[_,_,?_,(),e,rfl]);have z:=ok.add (ws:=tS g s) NL;have y:=TX (g:=g) (n:=s);exact#[z.pos,z.dom,z.bg,QZ z.sz.1 (),λp=>QZ (z.sz.2 p) ()];exact#[YE.pos,YE.dom,YE.bg,QZ YE.sz.1 (),λp=>QZ (YE.sz.2 p) ()]
def RW(l:Inn):D:=.dict (l.map λe=>(pr e.1,.int e.2))
def Xk(r:Rm):List (D×D):=r.map λe=>(pr e.1,RW e.2)
theorem E1(h:look r p=kx l):NC (Xk r)=kx true:=by
 cases r with|nil=>cases h|cons e r=>rfl
theorem y8(l:Inn):(l.map λe=>(pr e.1,j0 e.2))=[]∨NC (l.map λe=>(pr e.1,j0 e.2))=kx true:=by
 cases l with|nil=>exact .inl rfl|cons e r=>exact .inr rfl
theorem Mh(h:Key r p)(k:R (.d (RW (lk r p)))):UA (.d (.dict (Xk r))) n (.d (pr p)) m R:=by
 have e:=UE h;let#[i,u,y,_]:=BC (λl=>T.d (RW l)) e;have w:(Xk r).map (·.1)=OC r:=by unfold Xk OC;rw[QU];rfl
 refine Sn (E1 e) (TB p) (by rw[w];exact u) ?_ k;have v:(Xk r).map (·.2)=r.map λe=>RW e.2:=by unfold Xk;rw[QU];rfl
 rw[v];rw[QX]at y ⊢;cases z:r[i]? with|none=>rw[z]at y;cases y|some x=>rw[z]at y;injection y with y;injection y with y;show kx (RW x.2)=_;rw[y]
theorem uo:ZL .itm [(.d (RW l),n)] W=W (l.map λe=>.d (.tuple [pr e.1,.int e.2])):=by unfold RW;rw[xo (y8 l),QU];rfl
theorem lI{K:TK}:z5 (cB r) kd Ψ b E ρ K=jB Ψ b E (lockA ρ) λy m _=>K y m ρ:=rfl
theorem KZ{K:TK}:z5 (aD l) kd Ψ b E ρ K=jB Ψ b E (lockA ρ) λy m _=>K y m ρ:=rfl
theorem pS:MS (cB r) kd Ψ b E md ρ M=BJ Ψ b E md (lockA ρ) λxs _=>M xs ρ:=rfl
theorem B9:MS (aD l) kd Ψ b E md ρ M=BJ Ψ b E md (lockA ρ) λxs _=>M xs ρ:=rfl
def Fm(t:T)(r:Rm):Prop:=t=cB r∨t=.d (.dict (Xk r))
theorem An{b:Bool}{ks:List D}{ts:LT}{n m:Bool}{k:D}{l:Nat}{t:T}(z:AC b k)(y:cA ks k=kx l)(x:ts[l]?=kx t)(h:R t):UA (.dct b ks ts) kd (.d k) m R:=.inr #[b,ks,ts,l,t,rfl,z,y,x,h]
theorem EE(h:Key r p)(k:R (aD (lk r p))):UA (cB r) kd (.d (pr p)) m R:=by let#[i,y,x,_]:=BC aD (UE h);exact An (n:=kd) (TB p) y x k
theorem zQ{v:Int}(h:look l p=kx v)(k:R (.d (.int v))):UA (aD l) kd (.d (pr p)) m R:=by let#[i,y,x,_]:=BC (λv:Int=>T.d (.int v)) h;exact An (n:=kd) (TB p) y x k
theorem jY(l:Inn):XF (l.map λe=>T.d (.int e.2))=kx (l.map λe=>.int e.2):=by rw[show(l.map λe=>T.d (.int e.2))=(l.map λe=>j0 e.2).map T.d by rw[QU];rfl,HA]
theorem Sh:ZL .itm [(aD l,kd)] W=W (l.map λe=>.d (.tuple [pr e.1,.int e.2])):=by
 refine(uU _ _).trans ?_;have e:((OC l).zip (l.map λe=>j0 e.2)).map (λp=>T.d (.tuple [p.1,p.2]))=l.map λe=>T.d (.tuple [pr e.1,.int e.2]):=by unfold OC;rw[List.zip_map',QU];rfl
 refine t3 #[λ#[x,h,k]=>?_,λk=>#[_,jY l,by rw[e];exact k]];rw[jY]at h;cases h;rw[e]at k;exact k
theorem ba{a:PX}:NF (.idx a b)=NF a:=rfl
theorem Ym:FN [(aD l,kd)]=false:=rfl
noncomputable def Ed(ks:List Pt)(vs:List D):T:=.dct kf (ks.map pr) (vs.map T.d)
theorem XQ:pr q∈ks.map pr↔q∈ks:=by constructor;intro h;let#[x,y,e]:=QN.mp h;rw[<- BQ e];exact y;exact QBR
theorem uH(ks:List Pt)(q:Pt):(cA (ks.map pr) (pr q)).isSome=decide (q∈ks):=by rw[qG,bX,XQ,Az]
theorem ki{x:D}{Q:T->Prop}(n:q∉ks)(hl:ks.9<kb)(k:Q (Ed (ks++[q]) (vs++[x]))):Ua (Ed ks vs) (.d (pr q)) (.d x) Q:=by refine#[TB q,by rw[QC];exact hl,?_];show Q (OJ kf (ks.map pr) (vs.map T.d) (pr q) (.d x));unfold OJ;rw[FA.mpr (λz=>n (XQ.mp z))];unfold Ed at k;rw[QR,QR]at k;exact k
theorem El{L:Bool->Prop}:KB .NotIn (.d (pr q)) (Ed ks vs) L=L (!decide (q∈ks)):=by unfold Ed;rw[JN,uH];exact t3 #[λh=>h.2,λh=>#[TB q,h]]
def cP(h:T)(ks:List Pt)(vs:List D)(ws:List Pt)(o3 o4 o5:Option Sl):kA:=[kx (.bor h),kx (.own (Ed ks vs)),kx (.own (.lst ((ws.map pr).map T.d))),o3,o4,o5]
end
section
variable{Ψ:PEv}{Z:PEnds}{x:T}{r:Rm}{ks ws:List Pt}{vs:List D}
section
variable{w:Pt}{o3 o4 o5:Option Sl}
theorem nv{p q:Pt}{v:Int}(hl:ks.9<kb)(a:ws.length<kb)(u:(0<v->q∈ks)->Z.nx (cP x ks vs ws (bD (pr p)) (bD (pr q)) (bD (.int v))))
  (k:0<v->q∉ks->Z.nx (cP x (ks++[q]) (vs++[pr p]) (ws++[q]) (bD (pr p)) (bD (pr q)) (bD (.int v)))) :
  pF Ψ yB Z (cP x ks vs ws (bD (pr p)) (bD (pr q)) (bD (.int v))):=by
 delta cP at u k ⊢;delta yB;simp![↓El];by_cases h:0<v;rw[dT h];by_cases y:q∈ks;rw[dT y];exact u λ_=>y;rw[dF y];simp only[wz,↓reduceIte];refine ki y hl ?_;refine#[by rw[QC,QC];exact a,?_];have:=k h y;rw[QR,QR]at this;exact this;rw[dF h];exact u λz=>ti z h
theorem Ai{q:PT}(k:pF Ψ q Z (cP x ks vs ws (bD (pr w)) o4 o5)) :
  pF Ψ (.seq (.set 3 (.mt .pop (.var 2) %[.int 0|1])) q) Z (cP x ks vs (w::ws) o3 o4 o5):=by
 delta cP at k ⊢;simp![↓jA];refine#[0,.d (pr w),?_,rfl,rfl,k];unfold kU;rw[tt (by decide),tt (by rw[QC,QC,QK];omega)];rfl
theorem Ei(y:Fm x r)(hk:Key r w)
  (k:yI (pF Ψ yB) (.tp [4,5]) { Z with nx:=λh=>Z.nx (kill [4,5] h) } ((lk r w).map λe=>T.d (.tuple [pr e.1,.int e.2])) (cP x ks vs ws (bD (pr w)) o4 o5)) :
  pF Ψ %[.for_ (.tp [4,5]) .itm %[.idx (.var 0) (.var 3)|1] yB|2] Z (cP x ks vs ws (bD (pr w)) o4 o5):=by
 rcases y with rfl|rfl;delta cP at k ⊢;simp![↓lI];refine EE hk ?_;simp![↓B9,↓Sh,Ym,ba];exact k;delta cP at k ⊢;simp![↓jA];refine Mh hk ?_;simp![↓uo];exact k
theorem gv(m:Fm x r)(a:T9 r)(hb:Key r VA)(W:r.9<=1000)(h:Srch r ks vs (w::ws))(K:2 * (r.9 - ks.9)+ws.length+1<=3000)
  (o:∀z u y o3 o4 o5,Srch r z u y->2 * (r.9 - z.9)+y.9<=2 * (r.9 - ks.9)+ws.length->Z.nx (cP x z u y o3 o4 o5)) :
  pF Ψ iD Z (cP x ks vs (w::ws) o3 o4 o5):=by
 have A:kb=16777216:=Q7;refine Ai ?_;have X:=h.pop;have hk:Key r w:=XI a hb (h.cf.rch w (h.sub w QF));refine Ei m hk ?_;refine ZB (λ(e:Pt×Int)=>T.d (.tuple [pr e.1,.int e.2])) (λl k=>∃z u y o4 o5,Srch1 r w z u y l/\2 * (r.9 - z.9)+y.9<=2 * (r.9 - ks.9)+ws.length/\k=cP x z u y (bD (pr w)) o4 o5) ?_ ?_ _ _ #[ks,vs,ws,_,_,X,Qc _,rfl];rintro k ⟨z,u,y,g,f,s,l,rfl⟩;exact o z u y _ (EI g) (EI f) s.fin l;rintro⟨q,v⟩ l k N i ⟨z,u,y,g,f,s,e,rfl⟩;refine JE.mk rfl ?_;have Y:=s.cf.le a hb;refine nv (p:=w) (q:=q) (v:=v) () () (λc=>i _ #[z,u,y,_,_,s.skip c,e,rfl]) λc n=>?_;have b:=s.add c n;have j:=b.cf.le a hb;rw[QI,Qi]at j;exact i _ #[_,_,_,_,_,b,by rw[QI,QI,Qi];omega,rfl]
theorem sv(h:Ψ.va "BEGIN"=kx (pr VA)){q:PT}(k:pF Ψ q Z (cP x [VA] [.none] [VA] kv kv kv)) :
  pF Ψ (.seq (.own 1 (.dsp (.glo "BEGIN") .non)) (.seq (.own 2 (.lst %[.glo "BEGIN"|1])) q)) Z [kx (.bor x),kv,kv,kv,kv,kv]:=by
 have y:kb=16777216:=Q7;simp![↓DH h];exact#[TB VA,(),k]
end
end
theorem pI{Ψ:PEv}{E:XE}{c:PX}{q:PT}{Z:PEnds}{ρ:kA}(W:Nat->kA->Prop)(m:Nat)(z:W m ρ)(hs:∀m ρ,W m ρ->aS Ψ c E ρ λb x=>if b=kf then lB Ψ E q { Z with nx:=λh=>∃y,y < m/\W y h,ct:=λh=>∃y,y < m/\W y h,bk:=Z.nx } x else Z.nx x):jo Ψ E c q Z ρ:=#[W,#[m,z],hs]
def AF:PSp where
 md:=[.bor]
 run:=λz Q _=>∃(y:T) (r:Rm),z=[y]/\(Fm y r/\T9 r/\Key r VA/\r.9<=1000)/\∀h x,CF r h x->(∀p,p∈h↔Rch r p)->Q (Ed h x) []
theorem F6{Ψ:PEv}(j:Ψ.va "BEGIN"=kx (pr VA)):CD Ψ OE AF SE LD:=by
 rintro _ Q _ ⟨k,r,rfl,⟨l,i,hb,g⟩,q⟩;refine bA [kx (.bor k),kv,kv,kv,kv,kv] ?_;refine sv j ?_;delta cP;simp![↓jA];refine pI (λm v=>m<=3000/\∃h x ws o3 o4 o5,Srch r h x ws/\m=2 * (r.9 - h.9)+ws.length/\v=cP k h x ws o3 o4 o5) (2 * (r.9 - 1)+1) #[(),[VA],[.none],[VA],kv,kv,kv,Lo,rfl,rfl] ?_;rintro m v ⟨o,h,x,ws,o3,o4,o5,s,e,rfl⟩;cases ws with|nil=>delta cP;simp![QC];rw[dF ()];simp![↓jA];exact q h x s.cf s.done|cons w ws=>rw[QK]at e;have a:=λ(Z:PEnds) f=>gv (Ψ:=Ψ) (Z:=Z) (o3:=o3) (o4:=o4) (o5:=o5) l i hb g s () f;unfold cP at a;delta cP;simp![QC];rw[dT ()];refine a _ λu z y o3 o4 o5 b n=>#[_,(),(),u,z,y,o3,o4,o5,b,rfl,rfl]
theorem l9{α:Type}{x:α}{r:List α}:BD (x::r) 0=kx x:=VF (j:=0) rfl
theorem Hr{α:Type}{x y:α}{r:List α}:BD (x::y::r) 1=kx y:=VF (j:=1) rfl
def sm:List Pt->(Pt->Int)->Int
 |[],_=>0|x::l,f=>f x+sm l f
section
variable{f g:Pt->Int}
theorem IA:∀{l:List Pt},(∀x∈l,f x=g x)->sm l f=sm l g
 |[],_=>rfl|x::l,h=>by show f x+sm l f=g x+sm l g;rw[h x QF,IA λy z=>h y (QG _ z)]
theorem MH:∀(l:List Pt),sm l (λx=>f x+g x)=sm l f+sm l g
 |[]=>rfl|x::l=>by show f x+g x+sm l _=f x+sm l f+(g x+sm l g);rw[MH l];omega
theorem MJ:∀(l:List Pt),sm l (λx=>- f x)=- sm l f
 |[]=>rfl|x::l=>by show - f x+sm l _=- (f x+sm l f);rw[MJ l];omega
theorem RG:∀(l:List Pt),sm l (λ_=>0)=0
 |[]=>rfl|x::l=>by show 0+sm l _=0;rw[RG l];rfl
theorem OO:∀{l:List Pt},(∀x∈l,0<=f x)->0<=sm l f
 |[],_=>QBS _|x::l,h=>by have v:=h x QF;have u:=OO (l:=l) λy z=>h y (QG _ z);show 0<=f x+sm l f;omega
theorem LH:∀{l:List Pt},(∀x∈l,0<=f x)->∀{y:Pt},y∈l->f y<=sm l f
 |x::l,h,y,z=>by have w:=h x QF;have u:∀y∈l,0<=f y:=λy z=>h y (QG _ z);show f y<=f x+sm l f;rcases QL.mp z with e|e;have v:=OO u;rw[e];omega;have v:=LH u e;omega
theorem x5:∀{l:List Pt},(∀x∈l,0<=f x)->∀{y z:Pt},y∈l->z∈l->y≠z->f y+f z<=sm l f
 |x::l,h,y,z,v,hz,ne=>by
  have a:=h x QF;have w:∀y∈l,0<=f y:=λy v=>h y (QG _ v);show f y+f z<=f x+sm l f;rcases QL.mp v with e|e;rcases QL.mp hz with u|u
  ·exact ti (e.trans u.symm) ne
  have k:=LH w u;rw[e];omega;rcases QL.mp hz with u|u
  ·have k:=LH w e
   rw[u];omega
  have k:=x5 w e u ne;omega
theorem u5:∀{l:List Pt},0<sm l f->∃x∈l,0<f x
 |[],h=>ti h (wb 0)|x::l,h=>by by_cases c:0<f x;exact#[x,QF,c];have h:0<f x+sm l f:=h;let#[y,z,p]:=u5 (l:=l) ();exact#[y,QG _ z,p]
theorem dY{k:Pt->Pt->Int}{m:List Pt}:∀(l:List Pt),sm l (λx=>sm m λy=>k x y)=sm m λy=>sm l λx=>k x y
 |[]=>(RG m).symm|x::l=>by show sm m (λy=>k x y)+sm l _=sm m λy=>k x y+sm l λx=>k x y;rw[dY l,MH]
theorem tQ{u:Pt}{k:Int}:∀{l:List Pt},u∉l->sm l (λx=>if x=u then k else 0)=0
 |[],_=>rfl|x::l,h=>by show(if x=u then k else 0)+sm l _=0;rw[th (λ(e:x=u)=>h (e▸QF)),tQ λz=>h (QG _ z)];rfl
theorem NJ{u:Pt}{k:Int}:∀{l:List Pt},l.Nodup->u∈l->sm l (λx=>if x=u then k else 0)=k
 |x::l,nd,h=>by let#[v,y]:=Qh.mp nd;show(if x=u then k else 0)+sm l _=k;by_cases e:x=u;rw[tt e,tQ (by rw[<- e];exact v)];omega;rw[th e,NJ y ((QL.mp h).resolve_left λz=>e z.symm)];omega
theorem OS(p:Pt->Bool):∀(l:List Pt),sm l f=sm (l.filter p) f+sm (l.filter λx=>!p x) f
 |[]=>rfl|x::l=>by
  show f x+sm l f=_;rw[WE,WE,OS p l];cases p x with|true=>show _=(f x+sm (l.filter p) f)+sm (l.filter λx=>!p x) f;omega|false=>show _=sm (l.filter p) f+(f x+sm (l.filter λx=>!p x) f);omega
theorem Ga{a:Pt->Pt->Int}(l:List Pt)(h:∀x∈l,∀y∈l,a x y=- a y x):sm l (λx=>sm l λy=>a x y)=0:=by
 have w:sm l (λx=>sm l λy=>a x y)=sm l λy=>sm l λx=>a x y:=dY l;have v:(sm l λy=>sm l λx=>a x y)=- sm l (λy=>sm l λx=>a y x):=by rw[<- MJ];refine IA λy z=>?_;rw[<- MJ];exact IA λx u=>h x u y z
 omega
end
section
variable{p q u v:Pt}{r:Rm}{w:Wy}{es:VC}{st:LS}{g:Str}
def rm(r:Rm)(p q:Pt):Int:=(look (lk r p) q).getD 0
def nI(r:Rm)(p q:Pt):Prop:=∃v,look (lk r p) q=kx v
def ge(r:Rm):Prop:=∀p,((lk r p).map (·.1)).Nodup
theorem yH{α:Type}{q:Pt}{v:α}:∀{l:List (Pt×α)},look l q=kx v->(q,v)∈l
 |[],h=>by cases h|e::l,h=>by by_cases c:e.1=q;rw[show look (e::l) q=kx e.2 from tt c]at h;injection h with h;rw[<- c,<- h];exact QF;rw[show look (e::l) q=look l q from th c]at h;exact QG _ (yH h)
theorem JR{α:Type}{q:Pt}{v:α}:∀{l:List (Pt×α)},(l.map (·.1)).Nodup->(q,v)∈l->look l q=kx v
 |e::l,nd,h=>by let#[k,y]:=Qh.mp nd;rcases QL.mp h with c|c;rw[<- c];exact tt rfl;have x:e.1≠q:=λz=>k (QN.mpr #[(q,v),c,z.symm]);rw[show look (e::l) q=look l q from th x];exact JR y c
theorem put_keys{α:Type}{p:Pt}{w:α}:∀{l:List (Pt×α)},(put l p w).map (·.1)=if p∈l.map (·.1) then l.map (·.1) else l.map (·.1)++[p]
 |[]=>rfl|e::l=>by by_cases c:e.1=p;rw[show put (e::l) p w=(e.1,w)::l from tt c,tt (by rw[<- c];exact QF)];rfl;rw[show put (e::l) p w=e::put l p w from th c];rw[QT,QT,put_keys];by_cases h:p∈l.map (·.1);rw[tt h,tt (QG _ h)];rw[th h,th (λz=>(QL.mp z).elim (λz=>c z.symm) h)];rfl
theorem AG{α:Type}{w:α}{l:List (Pt×α)}(h:(l.map (·.1)).Nodup):((put l p w).map (·.1)).Nodup:=by rw[put_keys];split;exact h;rename_i n;refine qP.mpr #[h,Qh.mpr #[λz=>(nomatch z),Qx],λa x b hb z=>?_];rw[QJ.mp hb]at z;exact n (z▸x)
theorem YV(nd:ge r):Kg r p q↔0<rm r p q:=by
 unfold Kg rm;constructor;rintro⟨v,m,h⟩;rw[JR (nd p) m];exact h;intro h;cases e:look (lk r p) q with|none=>rw[e]at h;exact ti h (wb 0)|some v=>rw[e]at h;exact#[v,yH e,h]
def d0(r:Rm)(u v:Pt):Rm:=put (put r u (put (lk r u) v (rm r u v - 1))) v (put (lk (put r u (put (lk r u) v (rm r u v - 1))) v) u (rm (put r u (put (lk r u) v (rm r u v - 1))) v u+1))
theorem DW(h:u≠v)(p:Pt):lk (d0 r u v) p=if v=p then put (lk r v) u (rm r v u+1) else if u=p then put (lk r u) v (rm r u v - 1) else lk r p:=by
 have e:rm (put r u (put (lk r u) v (rm r u v - 1))) v u=rm r v u:=by unfold rm;rw[cE,th h]
 unfold d0;rw[e,cE,cE,cE,th h]
theorem yW(h:u≠v)(p q:Pt):rm (d0 r u v) p q=rm r p q+(if p=v/\q=u then 1 else 0) - (if p=u/\q=v then 1 else 0):=by show(look (lk (d0 r u v) p) q).getD 0=_;rw[DW h];by_cases y:v=p;rw[tt y,pD,th (c:=p=u/\q=v) (λz=>h (z.1.symm.trans y.symm))];by_cases x:u=q;rw[tt x,tt #[y.symm,x.symm],<- y,<- x];show rm r v u+1=rm r v u+1 - 0;omega;rw[th x,th (λz=>x z.2.symm),y];show rm r p q=rm r p q+0 - 0;omega;rw[th y,th (c:=p=v/\q=u) (λz=>y z.1.symm)];by_cases x:u=p;rw[tt x,pD];by_cases k:v=q;rw[tt k,tt #[x.symm,k.symm],<- x,<- k];show rm r u v - 1=rm r u v+0 - 1;omega;rw[th k,th (λz=>k z.2.symm),x];show rm r p q=rm r p q+0 - 0;omega;rw[th x,th (λz=>x z.1.symm)];show rm r p q=rm r p q+0 - 0;omega
theorem pB:nI r p q↔t4 r p q:=by
 unfold nI t4;constructor;rintro⟨v,h⟩;exact#[v,yH h];rintro⟨v,h⟩;generalize lk r p=l at h;induction l with
 |nil=>exact(nomatch h)
 |cons e l x =>
  by_cases c:e.1=q;exact#[e.2,tt c];rcases QL.mp h with z|z
  ·exact ti (by rw[<- z]) c
  let#[w,y]:=x z;exact#[w,(show look (e::l) q=look l q from th c).trans y]
theorem de(h:u≠v)(k:nI r u v)(z:nI r v u):nI (d0 r u v) p q↔nI r p q:=by unfold nI;rw[DW h];by_cases y:v=p;rw[tt y,pD];by_cases x:u=q;rw[tt x,<- y,<- x];exact#[λ_=>z,λ_=>#[_,rfl]];rw[th x,y];rw[th y];by_cases x:u=p;rw[tt x,pD];by_cases e3:v=q;rw[tt e3,<- x,<- e3];exact#[λ_=>k,λ_=>#[_,rfl]];rw[th e3,x];rw[th x]
theorem Vc(h:u≠v)(nd:ge r):ge (d0 r u v):=by
 intro p;rw[DW h];split;exact AG (nd v);split
 ·exact AG (nd u)
 exact nd p
theorem JQ(h:¬ nI r p q):rm r p q=0:=by
 unfold rm;cases e:look (lk r p) q with|none=>rfl|some v=>exact ti #[v,e] h
def As(p q:Pt)(v:Int):Prop:=(∃n,p=tO n/\q=fR n/\v=1)∨(∃n,p=VA/\q=tO n/\v=2)∨(∃a b,a≠b/\p=fR a/\q=tO b/\v=2)∨(¬ m4 p q/\v=0)
def Nm(P:Pt->Pt->Int->Prop)(r:Rm):Prop:=∀p,∀e∈lk r p,P p e.1 e.2
theorem A2{P:Pt->Pt->Int->Prop}(a:w.1≠w.2.1)(f:P w.1 w.2.1 w.2.2)(b:P w.2.1 w.1 0)(h:Nm P r):Nm P (CB r w):=by intro p e x;rw[AI a]at x;by_cases k:w.2.1=p;rw[tt k]at x;rcases UI x with z|z;rw[z,<- k];exact b;exact h p e z;rw[th k]at x;by_cases y:w.1=p;rw[tt y]at x;rcases UI x with z|z;rw[z,<- y];exact f;exact h p e z;rw[th y]at x;exact h p e x
theorem IS(h:(r.map (·.1)).Nodup):((sdf r p).map (·.1)).Nodup:=by
 unfold sdf;cases e:look r p with|some v=>exact h|none=>show(List.map (λe:Pt×Inn=>e.1) (r++[(p,[])])).Nodup;rw[QR];refine qP.mpr #[h,Qh.mpr #[λz=>(nomatch z),Qx],λa y b hb z=>?_];have hb:b=p:=QJ.mp hb;rw[z,hb]at y;let#[x,k,f]:=QN.mp y;have:=JR h (show(p,x.2)∈r by rw[<- f];exact k);rw[e]at this;cases this
theorem l7(x:w.1≠w.2.1)(h:ge r):ge (CB r w):=by
 intro p;rw[AI x];split;exact AG (h p);split
 ·exact AG (h p)
 exact h p
theorem vB:Key r p↔p∈r.map (·.1):=by
 constructor;rintro⟨l,e⟩;exact rR e;intro h;induction r with
 |nil=>exact(nomatch h)
 |cons e r x =>
  by_cases c:e.1=p;exact#[e.2,tt c];rcases QL.mp h with z|z
  ·exact ti z.symm c
  let#[l,hl]:=x z;exact#[l,(show look (e::r) p=look r p from th c).trans hl]
structure Tbl0(r:Rm):Prop where
 ndk:(r.map (·.1)).Nodup
 ndi:ge r
 cap:Nm As r
 kind:∀p,Key r p->p=VA∨∃n,p=tO n∨p=fR n
 sym:∀p q,t4 r p q->t4 r q p/\Key r p
theorem jU(h:m4 p q):(p=VA∨∃n,p=tO n∨p=fR n)/\(q=VA∨∃n,q=tO n∨q=fR n):=by
 rcases h with⟨h,n,e⟩| ⟨n,h,e⟩| ⟨a,b,_,h,e⟩
 exact#[.inl h,.inr #[n,.inl e]];exact#[.inr #[n,.inl h],.inr #[n,.inr e]];exact#[.inr #[a,.inr h],.inr #[b,.inl e]]
theorem Ka(k:m4 w.1 w.2.1)(f:As w.1 w.2.1 w.2.2)(t:Tbl0 r):Tbl0 (CB r w):=by
 have y:=fG k;refine#[?_,l7 y t.ndi,A2 y f (.inr (.inr (.inr #[gF k,rfl]))) t.cap,λp h=>?_,λp q h=>?_];unfold CB;exact AG (AG (IS (IS t.ndk)));rcases hG.mp h with z|z|z
 ·rw[z];exact(jU k).1
 rw[z];exact(jU k).2;exact t.kind p z;rw[bJ y,hG];rcases(bJ y).mp h with z|⟨x,a⟩| ⟨x,a⟩
 let#[e,b]:=t.sym p q z;exact#[.inl e,.inr (.inr b)];exact#[.inr (.inr #[a,x]),.inl x];exact#[.inr (.inl #[a,x]),.inr (.inl x)]
theorem xY:∀{ws:List Wy}{r:Rm},(∀w∈ws,m4 w.1 w.2.1/\As w.1 w.2.1 w.2.2)->Tbl0 r->Tbl0 (ws.foldl CB r)
 |[],_,_,t=>t|w::ws,r,h,t=>xY (ws:=ws) (λw x=>h w (QG _ x)) (Ka (h w QF).1 (h w QF).2 t)
theorem YL{p:Pt}:∀{ws:List Wy}{r:Rm},Key (ws.foldl CB r) p↔Key r p∨∃w∈ws,p=w.1∨p=w.2.1
 |[],r=>#[.inl,λz=>z.elim id λ#[_,m,_]=>(nomatch m)]
 |w::ws,r=>by
  rw[W5,YL (ws:=ws),hG];constructor;rintro((z|z|z)|⟨x,m,z⟩)
  ·exact .inr #[w,QF,.inl z]
  exact .inr #[w,QF,.inr z];exact .inl z;exact .inr #[x,QG _ m,z];rintro(z|⟨x,m,z⟩)
  ·exact .inl (.inr (.inr z))
  rcases QL.mp m with rfl|m
  ·rcases z with z|z
   ·exact .inl (.inl z)
   exact .inl (.inr (.inl z))
  exact .inr #[x,m,z]
def A3(es:VC)(st:LS)(g:Str):List Wy:=st.flatMap (tS g)++es.flatMap (sV g)
theorem eE:yA es st g=(A3 es st g).foldl CB pH:=by unfold yA A3;rw[QAW]
theorem dE{v:Int}:(p,q,v)∈A3 es st g↔(∃n∈st,n≠g/\((p,q,v)=(tO n,fR n,1)∨(p,q,v)=(VA,tO n,2)))∨(∃e∈es,(e.1≠g/\e.1≠e.2)/\((p,q,v)=(tO e.1,fR e.1,1)∨(p,q,v)=(tO e.2,fR e.2,1)∨(p,q,v)=(fR e.1,tO e.2,2))):=by
 unfold A3;rw[Qe,wK,wK];constructor;rintro(⟨n,m,h⟩| ⟨e,m,h⟩)
 ·exact .inl #[n,m,Fq.mp h]
 exact .inr #[e,m,Gq.mp h];rintro(⟨n,m,h⟩| ⟨e,m,h⟩)
 ·exact .inl #[n,m,Fq.mpr h]
 exact .inr #[e,m,Gq.mpr h]
theorem dC:∀w∈A3 es st g,m4 w.1 w.2.1/\As w.1 w.2.1 w.2.2:=by
 rintro⟨p,q,v⟩ h;rcases dE.mp h with⟨n,_,_,e|e⟩| ⟨e,_,⟨_,x⟩,z|z|z⟩
 cases e;exact#[.inr (.inl #[n,rfl,rfl]),.inl #[n,rfl,rfl,rfl]];cases e;exact#[.inl #[rfl,n,rfl],.inr (.inl #[n,rfl,rfl,rfl])];cases z;exact#[.inr (.inl #[_,rfl,rfl]),.inl #[_,rfl,rfl,rfl]];cases z;exact#[.inr (.inl #[_,rfl,rfl]),.inl #[_,rfl,rfl,rfl]];cases z;exact#[.inr (.inr #[_,_,x,rfl,rfl]),.inr (.inr (.inl #[_,_,x,rfl,rfl,rfl]))]
theorem SI(p:Pt):lk pH p=[]:=by show(if VA=p then kx [] else kv).getD []=[];split<;>rfl
theorem Yo:Tbl0 pH:=by refine#[Qh.mpr #[λz=>(nomatch z),Qx],λp=>?_,λp e x=>?_,λp h=>?_,λp q h=>?_];rw[SI];exact Qx;rw[SI]at x;exact(nomatch x);exact .inl (QJ.mp (vB.mp h));let#[v,h]:=h;rw[SI]at h;exact(nomatch h)
end
section
variable{es:VC}{st:LS}{g:Str}
section
variable{p q:Pt}{n:Str}
theorem cD:Tbl0 (yA es st g):=by rw[eE];exact xY dC Yo
theorem Z8:∀w∈A3 es st g,DG w:=λw h=>by unfold A3 at h;rcases Qe.mp h with z|z;exact xH (f:=tS g) (λ_=>NL) st w z;exact xH (f:=sV g) (λ_=>OL) es w z
theorem nC:t4 (yA es st g) p q↔(∃v,(p,q,v)∈A3 es st g)∨∃v,(q,p,v)∈A3 es st g:=by
 rw[eE,nZ Z8];constructor;rintro(⟨v,h⟩| h)
 ·rw[SI]at h;exact(nomatch h)
 exact h;exact .inr
theorem gP(h:Key (yA es st g) (tO n)):t4 (yA es st g) (tO n) (fR n):=by
 rw[eE]at h;rcases YL.mp h with z|⟨⟨p,q,v⟩,m,z⟩
 exact ti (QJ.mp (vB.mp z)).symm kC;refine nC.mpr (.inl #[1,dE.mpr ?_]);have z:tO n=p∨tO n=q:=z;rcases dE.mp m with⟨k,mk,x,e|e⟩| ⟨e,u,x,y|y|y⟩
 cases e;rcases z with z|z;rw[MB z];exact .inl #[k,mk,x,.inl rfl];exact ti z MA;cases e;rcases z with z|z;exact ti z.symm kC;rw[MB z];exact .inl #[k,mk,x,.inl rfl];cases y;rcases z with z|z;rw[MB z];exact .inr #[e,u,x,.inl rfl];exact ti z MA;cases y;rcases z with z|z;rw[MB z];exact .inr #[e,u,x,.inr (.inl rfl)];exact ti z MA;cases y;rcases z with z|z;exact ti z MA;rw[MB z];exact .inr #[e,u,x,.inr (.inl rfl)]
theorem C3:As p q (rm (yA es st g) p q)∨(¬ nI (yA es st g) p q/\rm (yA es st g) p q=0):=by by_cases h:nI (yA es st g) p q;let#[v,e]:=h;have:=cD (es:=es) (st:=st) (g:=g) |>.cap p (q,v) (yH e);unfold rm;rw[e];exact .inl this;exact .inr #[h,JQ h]
theorem mw:0<=rm (yA es st g) p q:=by rcases C3 (es:=es) (st:=st) (g:=g) (p:=p) (q:=q) with(⟨_,_,_,e⟩| ⟨_,_,_,e⟩| ⟨_,_,_,_,_,e⟩| ⟨_,e⟩)|⟨_,e⟩<;>rw[e]<;>decide
theorem lJ(h:¬ m4 p q):rm (yA es st g) p q=0:=by
 rcases C3 (es:=es) (st:=st) (g:=g) (p:=p) (q:=q) with(⟨n,y,x,_⟩| ⟨n,y,x,_⟩| ⟨a,b,z,y,x,_⟩| ⟨_,e⟩)|⟨_,e⟩
 exact ti (.inr (.inl #[n,y,x])) h;exact ti (.inl #[y,n,x]) h;exact ti (.inr (.inr #[a,b,z,y,x])) h;exact e;exact e
theorem Nl(h:q≠fR n):rm (yA es st g) (tO n) q=0:=lJ λl=>by
 rcases l with⟨e,_⟩| ⟨m,y,x⟩| ⟨a,b,_,e,_⟩
 exact kC e.symm;exact h (by rw[x,MB y]);exact MA e
theorem cr:rm (yA es st g) (tO n) (fR n)<=1:=by
 rcases C3 (es:=es) (st:=st) (g:=g) (p:=tO n) (q:=fR n) with(⟨_,_,_,e⟩| ⟨m,h,_,_⟩| ⟨a,b,x,h,y,_⟩| ⟨_,e⟩)|⟨_,e⟩
 rw[e];decide;exact ti h.symm kC;exact ti h MA;rw[e];decide;rw[e];decide
theorem Ol(h:Key (yA es st g) (tO n)):rm (yA es st g) (tO n) (fR n)=1:=by
 have a:=pB.mpr (gP h);rcases C3 (es:=es) (st:=st) (g:=g) (p:=tO n) (q:=fR n) with(⟨_,_,_,e⟩| ⟨m,x,_,_⟩| ⟨a,b,y,x,u,_⟩| ⟨l,e⟩)|⟨z,e⟩
 exact e;exact ti x.symm kC;exact ti x MA;exact ti (.inr (.inl #[n,rfl,rfl])) l;exact ti a z
theorem tw(h:p≠tO n):rm (yA es st g) p (fR n)=0:=lJ λl=>by
 rcases l with⟨_,m,e⟩| ⟨m,y,x⟩| ⟨a,b,_,_,e⟩
 exact MA e.symm;exact h (by rw[y,jI x]);exact MA e.symm
theorem aw:rm (yA es st g) p VA=0:=lJ λl=>by
 rcases l with⟨_,m,e⟩| ⟨m,x,h⟩| ⟨a,b,_,_,e⟩
 exact kC e;exact NE h;exact kC e
theorem br(h:p≠fR n):rm (yA es st g) p (tO n)=0∨rm (yA es st g) p (tO n)=2:=by
 rcases C3 (es:=es) (st:=st) (g:=g) (p:=p) (q:=tO n) with(⟨_,_,e,_⟩| ⟨m,_,_,e⟩| ⟨a,b,_,_,_,e⟩| ⟨l,e⟩)|⟨_,e⟩
 exact ti e MA;exact .inr e;exact .inr e;exact .inl e;exact .inl e
theorem Ml{v:Int}(h:(p,tO n,v)∈A3 es st g):rm (yA es st g) p (tO n)=2:=by
 have a:nI (yA es st g) p (tO n):=pB.mpr (nC.mpr (.inl #[v,h]));have l:m4 p (tO n):=(dC _ h).1;rcases C3 (es:=es) (st:=st) (g:=g) (p:=p) (q:=tO n) with(⟨_,_,e,_⟩| ⟨m,_,_,e⟩| ⟨a,b,_,_,_,e⟩| ⟨x,e⟩)|⟨z,e⟩
 exact ti e MA;exact e;exact e;exact ti l x;exact ti a z
end
end
section
variable{es:VC}{st:LS}{g:Str}
def vs0(es:VC)(st:LS)(g:Str):List Pt:=(yA es st g).map (·.1)
def fl(es:VC)(st:LS)(g:Str)(r:Rm)(p q:Pt):Int:=rm (yA es st g) p q - rm r p q
def out(es:VC)(st:LS)(g:Str)(r:Rm)(p:Pt):Int:=sm (vs0 es st g) (fl es st g r p)
structure Base(es:VC)(st:LS)(g:Str)(r:Rm):Prop where
 ndi:ge r
 adj:∀p q,nI r p q↔nI (yA es st g) p q
 keys:r.map (·.1)=vs0 es st g
 nn:∀p q,0<=rm r p q
 anti:∀p q,fl es st g r p q=- fl es st g r q p
structure Flow(es:VC)(st:LS)(g:Str)(r:Rm):Prop extends Base es st g r where
 cons:∀x,x≠VA->x≠tO g->out es st g r x=0
theorem PF:(vs0 es st g).Nodup:=cD.ndk
theorem Af:Flow es st g (yA es st g):=by
 have e:∀p q,fl es st g (yA es st g) p q=0:=λp q=>by unfold fl;omega
 refine#[#[cD.ndi,λp q=>wy,rfl,λp q=>mw,λp q=>by rw[e,e];rfl],λx _ _=>?_];unfold out;rw[IA (g:=λ_=>0) λq _=>e x q];exact RG _
theorem HB{p q:Pt}(h:nI (yA es st g) p q):nI (yA es st g) q p:=pB.mpr (cD.sym p q (pB.mp h)).1
theorem oB{p q:Pt}(h:nI (yA es st g) p q):p∈vs0 es st g:=vB.mp (cD.sym p q (pB.mp h)).2
theorem oS{p q:Pt}(h:nI (yA es st g) p q):p≠q:=by
 rcases nC.mp (pB.mp h) with⟨v,m⟩| ⟨v,m⟩
 exact fG (dC _ m).1;exact(fG (dC _ m).1).symm
section
variable{r:Rm}
theorem Base.dom(b:Base es st g r):T9 r:=λp q h=>by have a:=(b.adj p q).mp (pB.mpr h);rw[vB,b.keys];exact oB (HB a)
theorem Base.bg(b:Base es st g r):Key r VA:=by rw[vB,b.keys];refine vB.mp ?_;show Key (yA es st g) VA;rw[eE];exact YL.mpr (.inl #[[],tt rfl])
theorem Base.len(b:Base es st g r):r.9=(yA es st g).length:=by have:=aj qD b.keys;unfold vs0 at this;rw[QC,QC]at this;exact this
theorem Base.adjw(b:Base es st g r){p q:Pt}(h:0<rm r p q):nI (yA es st g) p q:=(b.adj p q).mp (by
 unfold rm at h;cases e:look (lk r p) q with|none=>rw[e]at h;exact ti h (wb 0)|some v=>exact#[v,e])
theorem lR{u:Pt}{l:Inn}(h:u∈r.map (·.1)):(put r u l).map (·.1)=r.map (·.1):=by rw[put_keys,tt h]
theorem Base.pushed(b:Base es st g r){u v:Pt}(h:0<rm r u v):Base es st g (d0 r u v):=by
 have a:=b.adjw h;have y:=oS a;have e:=yW (r:=r) y;refine#[Vc y b.ndi,λp q=>?_,?_,λp q=>?_,λp q=>?_];rw[de y ((b.adj u v).mpr a) ((b.adj v u).mpr (HB a))];exact b.adj p q;have k:u∈r.map (·.1):=by rw[b.keys];exact oB a
 have f:v∈r.map (·.1):=by rw[b.keys];exact oB (HB a)
 unfold d0;rw[lR (by rw[lR k];exact f),lR k];exact b.keys;rw[e];have:=b.nn p q;by_cases c:p=u/\q=v;rw[tt c,c.1,c.2];split<;>omega;rw[th c];split<;>omega;unfold fl;rw[e,e];have:=b.anti p q;unfold fl at this;by_cases x:p=v/\q=u;rw[tt x,tt (c:=q=u/\p=v) #[x.2,x.1],th (c:=p=u/\q=v) (λz=>y (z.1.symm.trans x.1)),th (c:=q=v/\p=u) (λz=>y (z.2.symm.trans x.1))];omega;rw[th x,th (c:=q=u/\p=v) (λz=>x #[z.2,z.1])];by_cases w:p=u/\q=v;rw[tt w,tt (c:=q=v/\p=u) #[w.2,w.1]];omega;rw[th w,th (c:=q=v/\p=u) (λz=>w #[z.2,z.1])];omega
theorem VY(b:Base es st g r){u v:Pt}(h:0<rm r u v)(x:Pt):out es st g (d0 r u v) x=out es st g r x+(if x=u then 1 else 0) - (if x=v then 1 else 0):=by
 have a:=b.adjw h;have f:=oS a;unfold out;have e:∀q,fl es st g (d0 r u v) x q=fl es st g r x q+((if q=v then(if x=u then 1 else 0) else 0)+-(if q=u then(if x=v then 1 else 0) else 0)):=λq=>by unfold fl;rw[yW f];by_cases k:x=u;have w:x≠v:=λz=>f (k.symm.trans z);rw[th (c:=x=v/\q=u) (λz=>w z.1),tt k,th w];by_cases y:q=v;rw[tt (c:=x=u/\q=v) #[k,y],tt y];split<;>omega;rw[th (c:=x=u/\q=v) (λz=>y z.2),th y];split<;>omega;rw[th (c:=x=u/\q=v) (λz=>k z.1),th k];by_cases w:x=v;rw[tt w];by_cases y:q=u;rw[tt (c:=x=v/\q=u) #[w,y],tt y];split<;>omega;rw[th (c:=x=v/\q=u) (λz=>y z.2),th y];split<;>omega;rw[th (c:=x=v/\q=u) (λz=>w z.1),th w];split<;>split<;>omega
 rw[IA λq _=>e q,MH,MH,MJ,NJ PF (oB (HB a)),NJ PF (oB a)];omega
end
section
variable{r y:Rm}{ks:List Pt}
theorem CF.find{vs:List D}(h:CF r ks vs){q:Pt}(m:q∈ks)(b:q≠VA):∃z u p k v,CF r z u/\p∈z/\Kg r p q/\q∉z/\ks=z++q::k/\vs=u++pr p::v:=by
 induction h with|bg=>exact ti (QJ.mp m) b|@add ks vs p x c i w n f=>by_cases e:q∈ks;let#[z,u,a,k,v,Z,Y,X,s,o,l]:=f e;exact#[z,u,a,k++[x],v++[pr p],Z,Y,X,s,by rw[o,Q0];rfl,by rw[l,Q0];rfl];have j:q=x:=QJ.mp ((Qe.mp m).resolve_left e);subst j;exact#[ks,vs,p,[],[],c,i,w,n,rfl,rfl]
structure LC(es:VC)(st:LS)(g:Str)(y r:Rm)(here:Pt)(ks:List Pt):Prop extends Base es st g r where
 cons:∀x,x≠VA->x≠tO g->out es st g r x=if x=here then 1 else 0
 val:out es st g r VA=out es st g y VA+if here=VA then 1 else 0
 fresh:∀p,∀q∈ks,rm y p q<=rm r p q
theorem P7(f:Flow es st g y)(ks:List Pt):LC es st g y y (tO g) ks:=by refine#[f.toBase,λx u h=>?_,?_,λp q _=>QBS _];rw[th h];exact f.cons x u h;rw[th (λz=>kC z.symm)];omega
theorem Pc{h p:Pt}{u:List Pt}(nd:ge y)(l:LC es st g y r h ks)(f:h∈ks)(hb:h≠VA)(w:Kg y p h)(e:h∉u)(hs:∀q∈u,q∈ks):0<rm r p h/\LC es st g y (d0 r p h) p u:=by have v:0<rm r p h:=Int.lt_of_lt_of_le ((YV nd).mp w) (l.fresh p h f);have b:=oS (l.adjw v);refine#[v,l.toBase.pushed v,λx a i=>?_,?_,λx q k=>?_];rw[VY l.toBase v,l.cons x a i];split<;>split<;>omega;rw[VY l.toBase v,l.val,th hb,th (c:=VA=h) (λz=>hb z.symm)];by_cases c:p=VA;rw[tt c,tt c.symm];omega;rw[th c,th (λz=>c z.symm)];omega;have a:=l.fresh x q (hs q k);rw[yW b,th (c:=x=p/\q=h) (λz=>e (z.2▸k))];split<;>omega
theorem Zk(l:LC es st g y r VA ks):Flow es st g r/\out es st g r VA=out es st g y VA+1:=by refine#[#[l.toBase,λx h z=>?_],?_];rw[l.cons x h z,th h];rw[l.val,tt rfl]
end
end
section
variable{es:VC}{st:LS}{g:Str}{r:Rm}
section
variable{p q y:Pt}{n a:Str}{ks:List Pt}
theorem UL(b:Base es st g r)(h:rm (yA es st g) q p=0):fl es st g r p q=rm r q p:=by have:=b.anti p q;unfold fl at this ⊢;omega
def HV(r:Rm)(n:Str):Int:=rm r (fR n) (tO n)
theorem GV(b:Base es st g r)(n:Str):fl es st g r (tO n) (fR n)=HV r n:=UL b (lJ λl=>gF (.inr (.inl #[n,rfl,rfl])) l)
theorem zM(b:Base es st g r)(n:Str):HV r n<=1:=by rw[<- GV b];have x:=cr (es:=es) (st:=st) (g:=g) (n:=n);have h:=b.nn (tO n) (fR n);unfold fl;omega
theorem G5(b:Base es st g r)(h:p∉vs0 es st g∨q∉vs0 es st g):rm r p q=0:=by refine JQ λa=>?_;have a:=(b.adj p q).mp a;rcases h with h|h;exact h (oB a);exact h (oB (HB a))
theorem Pe(l:List Pt)(nd:l.Nodup)(u:Pt)(k:Int)(h:u∉l->k=0):sm l (λx=>if x=u then k else 0)=k:=by by_cases m:u∈l;exact NJ nd m;rw[tQ m,h m]
def inn(r:Rm)(n:Str)(y:Pt):Int:=if y=fR n then 0 else rm r (tO n) y
theorem eR(f:Flow es st g r)(h:n≠g):sm (vs0 es st g) (inn r n)=HV r n:=by
 have c:=f.cons (tO n) (λz=>kC z.symm) (λz=>h (MB z));unfold out at c;have e:∀y,fl es st g r (tO n) y=(if y=fR n then HV r n else 0)+- inn r n y:=λy=>by unfold inn;by_cases e:y=fR n;rw[tt e,tt e,e,GV f.toBase];omega;rw[th e,th e];unfold fl;rw[Nl e];omega
 rw[IA λy _=>e y,MH,MJ,Pe _ PF (fR n) (HV r n) (λz=>G5 f.toBase (.inl z))]at c;omega
theorem aR(b:Base es st g r)(n:Str)(y:Pt):0<=inn r n y:=by unfold inn;split;decide;exact b.nn _ _
def Bb(r:Rm)(n:Str)(y:Pt):Int:=if y=tO n then 0 else rm r y (fR n)
theorem KY(f:Flow es st g r)(n:Str):sm (vs0 es st g) (Bb r n)=HV r n:=by
 have c:=f.cons (fR n) (λz=>NE z.symm) (λz=>MA z.symm);unfold out at c;have e:∀y,fl es st g r (fR n) y=- (if y=tO n then HV r n else 0)+Bb r n y:=λy=>by unfold Bb;by_cases e:y=tO n;rw[tt e,tt e,e];have:=f.anti (fR n) (tO n);rw[GV f.toBase]at this;omega;rw[th e,th e,UL f.toBase (tw e)];omega
 rw[IA λy _=>e y,MH,MJ,Pe _ PF (tO n) (HV r n) (λz=>G5 f.toBase (.inr z))]at c;omega
theorem lj(b:Base es st g r)(n:Str)(y:Pt):0<=Bb r n y:=by unfold Bb;split;decide;exact b.nn _ _
def aV(r:Rm)(n:Str):Prop:=0<rm r (tO n) VA
def S9(r:Rm)(a b:Str):Prop:=a≠b/\0<rm r (tO b) (fR a)
theorem yK(b:Base es st g r)(h:aV r n):n∈st/\n≠g:=by
 rcases nC.mp (pB.mp (b.adjw h)) with⟨v,m⟩| ⟨v,m⟩
 exact ti (dC _ m).1 λl=>by
  rcases l with⟨e,_⟩| ⟨_,_,e⟩| ⟨_,_,_,e,_⟩
  exact kC e.symm;exact NE e;exact MA e
 rcases dE.mp m with⟨k,mk,x,e|e⟩| ⟨e,_,_,y|y|y⟩
 ·exact ti (aj qk e) kC
 have:=aj (λw:Wy=>w.2.1) e;rw[MB this];exact#[mk,x];exact ti (aj qk y) kC;exact ti (aj qk y) kC;exact ti (aj qk y) NE
theorem Aj(b:Base es st g r){c:Str}(h:S9 r a c):(a,c)∈es/\a≠g:=by
 rcases nC.mp (pB.mp (b.adjw h.2)) with⟨v,m⟩| ⟨v,m⟩
 exact ti (dC _ m).1 λl=>by
  rcases l with⟨e,_⟩| ⟨k,z,x⟩| ⟨_,_,_,e,_⟩
  exact kC e.symm;exact h.1 ((jI x).trans (MB z).symm);exact MA e
 rcases dE.mp m with⟨k,mk,u,e|e⟩| ⟨e,f,u,y|y|y⟩
 ·exact ti (aj qk e).symm MA
 exact ti (aj qk e).symm NE;exact ti (aj qk y).symm MA;exact ti (aj qk y).symm MA;have z:a=e.1:=jI (aj qk y);have x:c=e.2:=MB (aj (λw:Wy=>w.2.1) y);rw[z,x];exact#[f,u.1]
theorem IW:inn r n VA=rm r (tO n) VA:=by unfold inn;exact th NE
theorem PQ(h:a≠n):inn r n (fR a)=rm r (tO n) (fR a):=by unfold inn;exact th λz=>h (jI z)
theorem Jc(h:a≠n):Bb r a (tO n)=rm r (tO n) (fR a):=by unfold Bb;exact th λz=>h (MB z).symm
theorem LI(b:Base es st g r)(h:0<rm r p q):p∈vs0 es st g/\q∈vs0 es st g:=#[oB (b.adjw h),oB (HB (b.adjw h))]
theorem bZ(f:Flow es st g r)(n:Str)(h:n≠g):rm r (tO n) VA<=1:=by by_cases c:0<rm r (tO n) VA;have z:=LH (λx _=>aR f.toBase n x) (LI f.toBase c).2;rw[eR f h,IW]at z;exact QA3 z (zM f.toBase n);omega
theorem Jd(f:Flow es st g r)(h:aV r n):HV r n=1:=by have ng:=(yK f.toBase h).2;have z:=LH (λx _=>aR f.toBase n x) (LI f.toBase h).2;rw[eR f ng,IW]at z;have:=zM f.toBase n;unfold aV at h;omega
theorem ec(f:Flow es st g r)(h:S9 r a n)(ng:n≠g):HV r n=1:=by have z:=LH (λx _=>aR f.toBase n x) (LI f.toBase h.2).2;rw[eR f ng,PQ h.1]at z;have:=zM f.toBase n;have:=h.2;omega
theorem L4(f:Flow es st g r)(ng:n≠g){x:Pt}(u:0<inn r n x)(h:0<inn r n y):x=y:=by
 have w:x∈vs0 es st g:=by unfold inn at u;split at u;exact ti u (wb 0);exact(LI f.toBase u).2
 have v:y∈vs0 es st g:=by unfold inn at h;split at h;exact ti h (wb 0);exact(LI f.toBase h).2
 by_cases e:x=y;exact e;have k:=x5 (λz _=>aR f.toBase n z) w v e;rw[eR f ng]at k;have:=zM f.toBase n;omega
theorem DY(f:Flow es st g r){b:Str}(ng:n≠g)(x:S9 r a n)(h:S9 r b n):a=b :=
 jI (L4 f ng (by rw[PQ x.1];exact x.2) (by rw[PQ h.1];exact h.2))
theorem GR(f:Flow es st g r)(x:aV r n)(h:S9 r a n):False :=
 NE (L4 f (yK f.toBase x).2 (by rw[IW];exact x) (by rw[PQ h.1];exact h.2))
theorem R6(f:Flow es st g r)(h:HV r n=1):∃y,y≠tO n/\0<rm r y (fR n):=by let#[y,_,x]:=u5 (f:=Bb r n) (l:=vs0 es st g) (by rw[KY f,h];decide);unfold Bb at x;split at x;exact ti x (wb 0);rename_i ne;exact#[y,ne,x]
theorem Vf(b:Base es st g r)(h:nI r y (fR n)):∃m,y=tO m:=by
 rcases nC.mp (pB.mp ((b.adj _ _).mp h)) with⟨v,m⟩| ⟨v,m⟩
 rcases(dC _ m).1 with⟨_,k,e⟩| ⟨k,e,_⟩| ⟨_,k,_,_,e⟩
 ·exact ti e.symm MA
 exact#[k,e];exact ti e.symm MA;rcases(dC _ m).1 with⟨e,_⟩| ⟨k,e,_⟩| ⟨_,k,_,_,e⟩
 ·exact ti e.symm NE
 exact ti e.symm MA;exact#[k,e]
theorem t7(b:Base es st g r)(h:nI r y VA):∃m,y=tO m:=by
 rcases nC.mp (pB.mp ((b.adj _ _).mp h)) with⟨v,m⟩| ⟨v,m⟩
 rcases(dC _ m).1 with⟨_,k,e⟩| ⟨k,_,e⟩| ⟨_,k,_,_,e⟩
 ·exact ti e kC
 exact ti e NE;exact ti e kC;rcases(dC _ m).1 with⟨_,k,e⟩| ⟨k,e,_⟩| ⟨_,k,_,e,_⟩
 ·exact#[k,e]
 exact ti e kC;exact ti e NE
theorem Tj(f:Flow es st g r)(h:HV r n=1):∃m,S9 r n m:=by let#[y,z,x]:=R6 f h;let#[m,rfl]:=Vf f.toBase ((f.adj _ _).mpr (f.toBase.adjw x));exact#[m,λe=>z (by rw[e]),x]
theorem DO(f:Flow es st g r){v:Int}(m:(p,tO n,v)∈A3 es st g):0<rm r p (tO n):=by
 have c:=Ml m;have l:=(dC _ m).1;have h:fl es st g r p (tO n)=rm r (tO n) p:=UL f.toBase (lJ (gF l));unfold fl at h;rw[c]at h;have key:rm r (tO n) p<=1:=by
  rcases dE.mp m with⟨k,mk,z,e|e⟩| ⟨e,o,z,y|y|y⟩
  exact ti (aj (λw:Wy=>w.2.1) e) MA;have b:p=VA:=aj qk e;have u:n=k:=MB (aj (λw:Wy=>w.2.1) e);rw[b];exact bZ f n (by rw[u];exact z);exact ti (aj (λw:Wy=>w.2.1) y) MA;exact ti (aj (λw:Wy=>w.2.1) y) MA;have b:p=fR e.1:=aj qk y;have u:n=e.2:=MB (aj (λw:Wy=>w.2.1) y);rw[b];by_cases c:0<rm r (tO n) (fR e.1);have j:e.1≠n:=by rw[u];exact z.2
  have i:=LH (λx _=>lj f.toBase e.1 x) (LI f.toBase c).1;rw[KY f,Jc j]at i;exact QA3 i (zM f.toBase _);omega
 omega
theorem jT{l m:List Pt}(v:l.Nodup)(u:m.Nodup)(h:∀x,x∈l↔x∈m):l.9=m.length:=by have a:=IG v λx z=>(h x).mp z;have b:=IG u λx z=>(h x).mpr z;omega
noncomputable def mH(ks:List Pt)(x:Pt):Bool:=decide (x.2="to")&&!decide (fR x.1∈ks)
theorem ED{x:Pt}:mH ks x=kf↔∃n,x=tO n/\fR n∉ks:=by unfold mH;rw[Qg,Q2,Az,decide_eq_false_iff_not];constructor;rintro⟨u,z⟩;exact#[x.1,QCL rfl u,z];rintro⟨n,rfl,h⟩;exact#[rfl,h]
theorem aQ(p:Pt->Bool):∀(l:List Pt),sm l (λx=>if p x=kf then 1 else 0)=(l.filter p).9
 |[]=>rfl|x::l=>by show(if p x=kf then 1 else 0)+sm l _=_;rw[aQ p l,WE];by_cases c:p x=kf;rw[tt c,tt c,QK];omega;rw[th c,th c];omega
theorem YU(f:Flow es st g r)(nd:ks.Nodup)(hk:∀p,p∈ks↔Rch r p)(M:tO g∉ks):out es st g r VA=(ks.filter (mH ks)).length:=by
 have sub:∀p∈ks,p∈vs0 es st g:=λp L=>by have:=vB.mp (XI f.toBase.dom f.toBase.bg ((hk p).mp L));rw[f.keys]at this;exact this
 have o:∀x∈ks,∀y,y∉ks->rm r x y=0:=λx w y u=>by have:=f.nn x y;by_cases c:0<rm r x y;exact ti ((hk y).mpr (.go ((hk x).mp w) ((YV f.ndi).mpr c))) u;omega
 have I:sm ((vs0 es st g).filter λx=>decide (x∈ks)) (λx=>out es st g r x)=out es st g r VA:=by
  have hb:VA∈ks:=(hk VA).mpr .bg;have e:∀x∈(vs0 es st g).filter (λx=>decide (x∈ks)),out es st g r x=if x=VA then out es st g r VA else 0:=λx w=>by by_cases c:x=VA;rw[tt c,c];rw[th c];exact f.cons x c λz=>M (z▸u0 (QS.mp w).2)
  rw[IA e];exact NJ (PF.sublist qA) (QS.mpr #[sub _ hb,dT hb])
 have G:∀x∈(vs0 es st g).filter (λx=>decide (x∈ks)),sm ((vs0 es st g).filter λy=>!decide (y∈ks)) (fl es st g r x)=if mH ks x=kf then 1 else 0:=λx w=>by
  have W:x∈ks:=u0 (QS.mp w).2;have Z:=(QS.mp w).1;have k:∀y∈(vs0 es st g).filter (λy=>!decide (y∈ks)),y∉ks/\fl es st g r x y=rm (yA es st g) x y:=λy u=>by have:=(QS.mp u).2;rw[Q2,decide_eq_false_iff_not]at this;refine#[this,?_];unfold fl;rw[o x W y this];omega
  have B:∀y∈(vs0 es st g).filter (λy=>!decide (y∈ks)),∀n,y=tO n->fl es st g r x y=0:=λy u n e=>by
   let#[C,O]:=k y u;rw[O,e];by_cases A:x=fR n;rw[A];exact lJ λl=>gF (.inr (.inl #[n,rfl,rfl])) l;rcases br (es:=es) (st:=st) (g:=g) A with z|z
   ·exact z
   have a:nI (yA es st g) x (tO n):=by refine ql λJ=>?_;rw[JQ J]at z;exact ti z (by decide)
   rcases nC.mp (pB.mp a) with⟨v,m⟩| ⟨v,m⟩
   have:=DO f m;rw[o x W (tO n) (e▸C)]at this;exact ti this (wb 0);rw[lJ (gF (dC _ m).1)]
  rcases cD.kind x (vB.mpr Z) with e|⟨n,e|e⟩
  have i:¬ mH ks x=true:=λz=>by let#[n,j,_]:=ED.mp z;exact kC (e.symm.trans j)
  rw[th i];rw[IA (g:=λ_=>0),RG];intro y u;by_cases t:∃n,y=tO n;let#[n,t]:=t;exact B y u n t;rw[(k y u).2,e];exact lJ λl=>by
   rcases l with⟨_,z⟩| ⟨n,z,_⟩| ⟨_,b,_,_,z⟩
   exact t z;exact kC z;exact t #[b,z]
  by_cases X:fR n∈ks
  ·have i:¬ mH ks x=true:=λz=>by
    let#[m,j,h]:=ED.mp z;rw[<- MB (e.symm.trans j)]at h;exact h X
   rw[th i,IA (g:=λ_=>0),RG];intro y u;rw[(k y u).2,e];exact Nl λz=>(k y u).1 (z▸X)
  rw[tt (ED.mpr #[n,e,X])];have K:Key (yA es st g) (tO n):=by rw[<- e];exact vB.mpr Z
  have N:fR n∈vs0 es st g:=oB (HB (pB.mpr (gP K)));rw[IA (g:=λy=>if y=fR n then 1 else 0)];exact NJ (PF.sublist qA) (QS.mpr #[N,by rw[dF X];rfl]);intro y u;rw[(k y u).2,e];by_cases c:y=fR n;rw[tt c,c,Ol K];rw[th c,Nl c];have i:¬ mH ks x=true:=λz=>by let#[m,j,_]:=ED.mp z;exact MA (j.symm.trans e)
  rw[th i,IA (g:=λ_=>0),RG];intro y u;by_cases t:∃n,y=tO n;let#[n,t]:=t;exact B y u n t;rw[(k y u).2,e];exact lJ λl=>by
   rcases l with⟨z,_⟩| ⟨n,z,_⟩| ⟨_,b,_,_,z⟩
   exact NE z.symm;exact MA z.symm;exact t #[b,z]
 have F:∀x,out es st g r x=sm ((vs0 es st g).filter λy=>decide (y∈ks)) (fl es st g r x)+sm ((vs0 es st g).filter λy=>!decide (y∈ks)) (fl es st g r x):=λx=>OS _ _;have E:sm ((vs0 es st g).filter λx=>decide (x∈ks)) (λx=>out es st g r x)=sm ((vs0 es st g).filter λx=>decide (x∈ks)) (λx=>if mH ks x=kf then 1 else 0):=by rw[IA λx _=>F x,MH,Ga _ λx _ y _=>f.anti x y,IA G];omega
 rw[<- I,E,aQ];have:(((vs0 es st g).filter λx=>decide (x∈ks)).filter (mH ks)).9=(ks.filter (mH ks)).length:=by refine jT ((PF.sublist qA).sublist qA) (nd.sublist qA) λx=>?_;rw[QS,QS,QS,Az];exact#[λ#[#[_,s],Y]=>#[s,Y],λ#[s,Y]=>#[#[sub x s,s],Y]]
 rw[this]
theorem Yd(f:Flow es st g r):out es st g r VA=(((lk r VA).map (·.1)).filter λy=>decide (0<rm r y VA)).length:=by
 have e:∀y∈vs0 es st g,fl es st g r VA y=if decide (0<rm r y VA)=kf then 1 else 0:=λy x=>by rw[UL f.toBase aw];have z:=f.nn y VA;by_cases c:0<rm r y VA;rw[dT c,tt rfl];let#[n,e]:=t7 f.toBase ((f.adj _ _).mpr (f.toBase.adjw c));rw[e]at c ⊢;have:=bZ f n (yK f.toBase c).2;omega;rw[dF c,th (by decide)];omega
 unfold out;rw[IA e,aQ];have:((vs0 es st g).filter λy=>decide (0<rm r y VA)).9=(((lk r VA).map (·.1)).filter λy=>decide (0<rm r y VA)).length:=by refine jT (PF.sublist qA) ((f.ndi VA).sublist qA) λy=>?_;rw[QS,QS,Az];refine#[λ#[_,h]=>#[?_,h],λ#[_,h]=>#[(LI f.toBase h).1,h]];let#[v,hv]:=(f.adj VA y).mpr (HB (f.toBase.adjw h));exact QN.mpr #[(y,v),yH hv,rfl]
 rw[this]
theorem Hd(f:Flow es st g r)(hk:∀p,p∈ks↔Rch r p)(o:tO g∉ks){cut:LS}(hc:∀n,tO n∈ks->fR n∉ks->n∈cut):¬ ∃a,(a,g)∈es/\Led es st g cut a:=by
 have u:∀p∈ks,∀n v,(p,tO n,v)∈A3 es st g->tO n∈ks:=λp j n v m=>(hk _).mpr (.go ((hk _).mp j) ((YV f.ndi).mpr (DO f m)));have key:∀n,Led es st g cut n->fR n∈ks:=λn h=>by
  induction h with|@st s h k=>let#[w,x]:=DE.mp k;have t:=u VA ((hk _).mpr .bg) s 2 (dE.mpr (.inl #[s,h,w,.inr rfl]));exact ql λz=>x (hc s t z)|@ed a b l m k i=>let#[w,x]:=DE.mp k;by_cases e:a=b;rw[<- e];exact i;have t:=u (fR a) i b 2 (dE.mpr (.inr #[(a,b),m,#[(yN l).1,e],.inr (.inr rfl)]));exact ql λz=>x (hc b t z)
 rintro⟨a,m,l⟩;exact o (u (fR a) (key a l) g 2 (dE.mpr (.inr #[(a,g),m,#[(yN l).1,(yN l).1],.inr (.inr rfl)])))
end
end
inductive Run(r:Rm)(g f:Str):LS->Str->Prop
 |nil:Run r g f [] f
 |go {c:LS}{n m:Str}:Run r g f c n->n≠g->S9 r n m->Run r g f (c++[n]) m
inductive Chn(es:VC)(st:LS)(g:Str):LS->Str->Prop
 |st {f:Str}:f∈st->f≠g->Chn es st g [] f
 |go {c:LS}{n m:Str}:Chn es st g c n->n≠g->(n,m)∈es->Chn es st g (c++[n]) m
section
variable{es:VC}{st:LS}{g:Str}{r:Rm}
section
variable{s n:Str}{c:LS}
theorem Run.chn(f:Flow es st g r)(hs:aV r s)(h:Run r g s c n):Chn es st g c n:=by
 induction h with|nil=>exact .st (yK f.toBase hs).1 (yK f.toBase hs).2|go _ ng x y=>exact .go y ng (Aj f.toBase x).1
theorem Run.thr1(f:Flow es st g r)(hs:aV r s)(h:Run r g s c n)(ng:n≠g):HV r n=1:=by
 cases h with|nil=>exact Jd f hs|go _ _ x=>exact ec f x ng
theorem Run.pred(h:Run r g s c n):∀x,x∈c∨x=n->x=s∨∃y∈c,S9 r y x:=by
 induction h with
 |nil=>intro x u;exact u.elim (λz=>(nomatch z)) .inl
 |@go c n m _ _ v w =>
  intro x u;rcases u with u|rfl;have:x∈c∨x=n:=(Qe.mp u).imp_right QJ.mp;rcases w x this with z|⟨y,k,z⟩
  exact .inl z;exact .inr #[y,Ql _ k,z];exact .inr #[n,QW _ QF,v]
theorem Run.ng(h:Run r g s c n):∀x∈c,x≠g:=by
 induction h with
 |nil=>exact λx y=>(nomatch y)
 |go _ k _ u=>intro x y;rcases Qe.mp y with z|z;exact u x z;rw[QJ.mp z];exact k
theorem Run.nd(f:Flow es st g r)(hs:aV r s)(h:Run r g s c n):c.Nodup/\n∉c:=by
 induction h with
 |nil=>exact#[Qx,λz=>(nomatch z)]
 |@go c n m h k x u =>
  have nd:(c++[n]).Nodup:=qP.mpr #[u.1,Qh.mpr #[λz=>(nomatch z),Qx],λa w b hb z=>by rw[QJ.mp hb]at z;exact u.2 (z▸w)];refine#[nd,λz=>?_];rcases Qe.mp z with z|z;rcases h.pred m (.inl z) with e|⟨y,v,e⟩
  ·rw[e]at x;exact GR f hs x
  rw[DY f (h.ng m z) e x]at v;exact u.2 v;exact x.1 (QJ.mp z).symm
theorem Run.apart(f:Flow es st g r){s':Str}(hs:aV r s)(b:aV r s'){l:LS}{p:Str}(h:Run r g s c n)(h':Run r g s' l p):∀x∈c,x∈l->s=s':=by
 induction h with
 |nil=>exact λx a=>(nomatch a)
 |@go c n m h k q i =>
  intro x a v;rcases Qe.mp a with z|z;exact i x z v;have z:=QJ.mp z;subst z;rcases h.pred x (.inr rfl) with e|⟨y,j,e⟩<;>rcases h'.pred x (.inl v) with u|⟨o,w,u⟩
  exact e.symm.trans u;rw[e]at u;exact(GR f hs u).elim;rw[u]at e;exact(GR f b e).elim;rw[DY f k e u]at j;exact i o j w
end
end
section
variable{es:VC}{st:LS}{g:Str}
theorem Od{cut:LS}{c:LS}{n:Str}(h:Chn es st g c n)(hc:∀x∈c,x∉cut)(ng:n≠g)(y:n∉cut):Led es st g cut n:=by
 induction h with|st h _=>exact .st h (DE.mpr #[ng,y])|@go c n m _ k e z=>exact .ed (z (λx u=>hc x (Ql _ u)) k (hc n (QW _ QF))) e (DE.mpr #[ng,y])
theorem j9{cut:LS}{c:LS}(h:Chn es st g c g)(hl:¬ ∃a,(a,g)∈es/\Led es st g cut a):∃x∈c,x∈cut:=by
 refine ql λz=>?_;have hc:∀x∈c,x∉cut:=λx y m=>z #[x,y,m];cases h with|st _ e=>exact e rfl|@go c n _ h k e=>exact hl #[n,e,Od h (λx y=>hc x (Ql _ y)) k (hc n (QW _ QF))]
def UJ:List (LS)->Prop
 |[]=>True|c::cs=>(∀d∈cs,∀x∈c,x∉d)/\UJ cs
theorem xf{cut:LS}:∀{cs:List (LS)},UJ cs->(∀c∈cs,∃x∈c,x∈cut)->∃u:LS,u.9=cs.9/\u.Nodup/\(∀p∈u,p∈cut)/\∀p∈u,∃c∈cs,p∈c
 |[],_,_=>#[[],rfl,Qx,λ_ z=>(nomatch z),λ_ z=>(nomatch z)]
 |c::cs,a,h=>by
  let#[u,e,b,e3,k]:=xf (cs:=cs) a.2 λd v=>h d (QG _ v);let#[x,w,hc]:=h c QF;refine#[x::u,by rw[QK,QK,e],Qh.mpr #[λz=>?_,b],λp y=>?_,λp y=>?_];let#[d,v,y]:=k x z;exact a.1 d v x w y;rcases QL.mp y with z|z
  ·rw[z];exact hc
  exact e3 p z;rcases QL.mp y with z|z
  ·exact#[c,QF,by rw[z];exact w]
  let#[d,v,y]:=k p z;exact#[d,QG _ v,y]
theorem y3{cut:LS}{cs:List (LS)}(a:UJ cs)(h:∀c∈cs,Chn es st g c g)(hl:¬ ∃a,(a,g)∈es/\Led es st g cut a):cs.9<=cut.length:=by let#[z,y,x,e3,_]:=xf a λc hc=>j9 (h c hc) hl;rw[<- y];exact yR x e3
end
section
variable{ks:List Pt}{vs:List D}{p:Pt}
noncomputable def KC(ks:List Pt)(vs:List D):List (D×D):=(ks.map pr).zip vs
theorem Ll(ks:List Pt)(vs:List D):(Ed ks vs).er=.dict (KC ks vs):=by show PyData.dict ((ks.map pr).zip (ersT (vs.map T.d)))=_;rw[JA];rfl
theorem CL(h:vs.9=ks.9):(KC ks vs).map (·.1)=ks.map pr:=WB (by rw[QC];omega)
theorem Ad(h:vs.9=ks.9):(KC ks vs).map (·.2)=vs:=WC (by rw[QC];omega)
theorem fJ(h:vs.9=ks.9)(m:p∈ks):NC (KC ks vs)=kx true:=by
 cases ks with
 |nil=>exact(nomatch m)
 |cons x ks=>cases vs with|nil=>cases h|cons y vs=>rfl
theorem aU{q:Pt}{u:List Pt}:∀{y:List Pt},q∉y->cA ((y++q::u).map pr) (pr q)=kx y.9
 |[],_=>Ef rfl|x::y,h=>by show cA (pr x::(y++q::u).map pr) (pr q)=_;rw[B8 (λz=>h (by rw[BQ z];exact QF)),aU λz=>h (QG _ z)];rfl
theorem En{h z:List Pt}{y x:List D}{q:Pt}{n m:Bool}{R:T->Prop}(u:y.9=h.9)(w:x.9=z.9)(v:q∉h)(k:R (.d (pr p))):UA (.d (.dict (KC (h++q::z) (y++pr p::x)))) n (.d (pr q)) m R:=by
 have hl:(y++pr p::x).9=(h++q::z).length:=by rw[QI,QI,QK,QK,u,w]
 refine Sn (fJ hl (p:=q) (QW _ QF)) (TB q) (by rw[CL hl];exact aU v) ?_ k;rw[Ad hl,<- u,Qv (Qc _),Nat.sub_self];rfl
theorem dX(a b:Pt):Qt (pr a) (pr b)=decide (a=b):=by
 rw[qG,Az];have e:Qt (pr a) (pr b)=(Qt (.str a.1) (.str b.1)&&(Qt (.str a.2) (.str b.2)&&kf)):=by simp[pr,Qt,PyData.eqvAll]
 rw[e,HR,HR,QBY,Qg,Az,Az];exact#[λh=>QCL h.1 h.2,λh=>by rw[h];exact#[rfl,rfl]]
def MF(es:VC)(st:LS):Prop:=(∀s∈st,wF s=kf)/\∀e∈es,wF e.1=kf/\wF e.2=kf
theorem PD{a b:Str}(x:wF a=kf)(h:wF b=kf):FF (pr (a,b)):=by refine#[?_,?_];simp only[pr,QAJ,qi,x,h,Bool.and_self];simp only[pr,QA0,wQ];decide
theorem NS:wF "to"=true:=by decide +kernel
theorem cY:wF "from"=true:=by decide +kernel
theorem NO:wF ""=kf/\wF "begin"=true:=by decide +kernel
theorem z8{es:VC}{st:LS}{g:Str}(h:MF es st)(k:p∈vs0 es st g):FF (pr p):=by
 have k:Key (yA es st g) p:=vB.mpr k;rw[eE]at k;rcases YL.mp k with z|⟨⟨u,v,c⟩,m,z⟩
 rw[QJ.mp (vB.mp z)];exact PD NO.1 NO.2;have z:p=u∨p=v:=z;rcases dE.mp m with⟨n,w,_,e|e⟩| ⟨e,x,_,y|y|y⟩
 cases e;rcases z with z|z<;>subst z;exact PD (h.1 n w) NS;exact PD (h.1 n w) cY;cases e;rcases z with z|z<;>subst z;exact PD NO.1 NO.2;exact PD (h.1 n w) NS;cases y;rcases z with z|z<;>subst z;exact PD (h.2 e x).1 NS;exact PD (h.2 e x).1 cY;cases y;rcases z with z|z<;>subst z;exact PD (h.2 e x).2 NS;exact PD (h.2 e x).2 cY;cases y;rcases z with z|z<;>subst z;exact PD (h.2 e x).1 cY;exact PD (h.2 e x).2 NS
def eS(r:Rm)(x:List (D×D))(last:D)(h:Pt)(o4:Option Sl):kA:=[oW (cB r),bD (.dict x),bD last,bD (pr h),o4]
end
section
variable{Ψ:PEv}{Z:PEnds}{q:PT}{r:Rm}{h:List (D×D)}{last:D}{u v:Pt}
theorem Fv(hk:Key r u)(w:nI r u v)(hl:(lk r u).9<kb)(k:pF Ψ q Z (eS (put r u (put (lk r u) v (rm r u v - 1))) h last v (bD (pr u)))) :
  pF Ψ (.seq (.six (.idx (.var 0) (.var 4)) (.var 3) (.bin .Sub (.idx (.idx (.var 0) (.var 4)) (.var 3)) (.int 1))) q) Z (eS r h last v (bD (pr u))):=by
 let#[x,y]:=w;have e:rm r u v=x:=by unfold rm;rw[y];rfl
 rw[e]at k;delta eS at k ⊢;simp![↓lI];refine EE hk ?_;simp![↓KZ];refine zQ y ?_;simp![↓jA];refine aI (UE hk) λf z=>bQ hl ?_;rw[z];exact k
theorem Dv(hk:Key r v)(w:nI r v u)(hl:(lk r v).9<kb)(k:pF Ψ q Z (eS (put r v (put (lk r v) u (rm r v u+1))) h last v (bD (pr u)))) :
  pF Ψ (.seq (.six (.idx (.var 0) (.var 3)) (.var 4) (.bin .Add (.idx (.idx (.var 0) (.var 3)) (.var 4)) (.int 1))) q) Z (eS r h last v (bD (pr u))):=by
 let#[x,y]:=w;have e:rm r v u=x:=by unfold rm;rw[y];rfl
 rw[e]at k;delta eS at k ⊢;simp![↓lI];refine EE hk ?_;simp![↓KZ];refine zQ y ?_;simp![↓jA];refine aI (UE hk) λf z=>bQ hl ?_;rw[z];exact k
end
theorem Base.inn{es:VC}{st:LS}{g:Str}{r:Rm}(b:Base es st g r)(p:Pt):(lk r p).9<=(yA es st g).length:=by
 have:=IG (ns:=vs0 es st g) (b.ndi p) λq h=>by let#[e,x,z]:=QN.mp h;have a:nI r p q:=pB.mpr #[e.2,by rw[<- z];exact x];exact oB (HB ((b.adj p q).mp a))
 unfold vs0 at this;rw[QC,QC]at this;exact this
section
variable{Ψ:PEv}{Z:PEnds}{es:VC}{st:LS}{g:Str}
theorem Mc{m r:Rm}{ks:List Pt}{vs:List D}{x:Pt}{last:D}{o4:Option Sl}{z v:List Pt}{b u:List D}(hsz:(yA es st g).9<=1000)(R:ge m)(I:CF m z b)(S:ks=z++v)(ev:vs=b++u)(h9:u.9=v.9)(F:x∈z)(hb:x≠VA)(i:LC es st g m r x z)
  (k:∀h y n l p A,CF m h y->ks=h++n->vs=y++l->l.9=n.9->h.9<z.9->p∈h->LC es st g m A p h->Z.nx (eS A (KC ks vs) last p (bD (pr p)))) :
  pF Ψ nE Z (eS r (KC ks vs) last x o4):=by
 let#[h,y,p,j,e,J,Q,w,B,X,G]:=I.find F hb;have M:=I.len;have L:=J.len;have H:e.9=j.length:=by rw[X,G,QI,QI,QK,QK]at M;omega
 have s:ks=h++x::(j++v):=by rw[S,X,Q0];rfl
 have o:vs=y++pr p::(e++u):=by rw[ev,G,Q0];rfl
 let#[W,K]:=Pc R i F hb w B λq P=>by rw[X];exact Ql _ P
 have a:=i.adjw W;have C:=oS a;have O:Key r p:=by rw[vB,i.keys];exact oB a
 have N:Key r x:=by rw[vB,i.keys];exact oB (HB a)
 have E:=i.toBase.inn;have Y:pF Ψ %[.set 3 (.var 4)|2] Z (eS (d0 r p x) (KC ks vs) last x (bD (pr p))):=by have:=k h y (x::(j++v)) (pr p::(e++u)) p (d0 r p x) J s o (by rw[QK,QK,QI,QI];omega) (by rw[X,QI,QK];omega) Q K;unfold eS at this;delta eS;simp![↓jA];exact this
 have f:pF Ψ %[.six (.idx (.var 0) (.var 4)) (.var 3) (.bin .Sub (.idx (.idx (.var 0) (.var 4)) (.var 3)) (.int 1)),.six (.idx (.var 0) (.var 3)) (.var 4) (.bin .Add (.idx (.idx (.var 0) (.var 3)) (.var 4)) (.int 1)),.set 3 (.var 4)|2] Z (eS r (KC ks vs) last x (bD (pr p))):=by have i1:=E p;have i2:=E x;refine Fv O ((i.adj _ _).mpr a) () (Dv ?_ ?_ ?_ Y);exact II.mpr (.inr N);show nI _ x p;have:=(i.adj x p).mpr (HB a);unfold nI at this ⊢;rw[cE,th C];exact this;rw[cE,th C];omega
 unfold eS at f;delta eS;delta nE;simp![↓jA];rw[s,o]at f ⊢;refine En L (by rw[QI,QI];omega) B ?_;simp![↓jA];exact f
end
section
variable{Ψ:PEv}{W:LT->Prop}{n m:Bool}{E:XE}{ρ:kA}{R:T->Prop}{a g f:Str}{es:VC}{st c:LS}{r:Rm}{Z:PEnds}{ks:List Pt}{vs:List D}{L:Bool->Prop}{Q:T->Bool->Prop}{i:Nat}{cs:List (LS)}
def oQ:PSp where
 md:=[.chg]
 run:=λy Q _=>∃(es:VC) (st:LS) (g:Str) (h:Rm) (ks:List Pt) (vs:List D),y=[cB h,.d (.dict (KC ks vs)),.d (pr (tO g))]/\((yA es st g).9<=1000/\MF es st/\Flow es st g h/\CF h ks vs/\tO g∈ks)/\∀x,Flow es st g x->out es st g x VA=out es st g h VA+1->Q (.d .none) [cB x]
theorem Hj(B:Ψ.va "BEGIN"=kx (pr VA)):CD Ψ sG oQ SK CI:=by
 rintro _ Q _ ⟨es,st,g,k,ks,vs,rfl,⟨N,M,fl,H,I⟩,q⟩;refine uK [oW (cB k),bD (.dict (KC ks vs)),bD (pr (tO g)),kv,kv] ?_;delta sG;simp![↓jA];refine pI (λm ρ=>∃r h x v u y o4,m=h.9/\CF k h x/\ks=h++v/\vs=x++u/\u.9=v.9/\y∈h/\LC es st g k r y h/\ρ=eS r (KC ks vs) (pr (tO g)) y o4) ks.9 #[k,ks,vs,[],[],tO g,_,rfl,H,by rw[qF],by rw[qF],rfl,I,P7 fl ks,rfl] ?_;rintro m ρ ⟨r,h,x,v,u,y,o4,em,C,S,ev,J,K,Y,rfl⟩;have o:FF (pr y):=z8 M (by have:=XI fl.toBase.dom fl.toBase.bg (C.rch y K);rw[vB,fl.keys]at this;exact this);have s:FF (pr VA):=PD NO.1 NO.2;have z:∀L:Bool->Prop,L (!decide (y=VA))->KB .NotEq (.d (pr y)) (.d (pr VA)) L:=λL l=>by show FF (pr y)/\FF (pr VA)/\L (!PyData.eqv (pr y) (pr VA));rw[dX];exact#[o,s,l]
 by_cases e:y=VA;subst e;delta eS;simp![↓DH B];refine z _ ?_;rw[dT rfl];let#[P,O]:=Zk Y;exact q r P O;have A:=λ(Z:PEnds) G=>Mc (Ψ:=Ψ) (Z:=Z) (last:=pr (tO g)) (o4:=o4) N fl.ndi C S ev J K e Y G;unfold eS at A;delta eS;simp![↓DH B];refine z _ ?_;rw[dF e];refine A _ λw j X b p F a1 a2 a3 a4 a5 a6 a7=>#[w.9,(),F,w,j,X,b,p,_,rfl,a1,a2,a3,a4,a6,a7,rfl]
theorem B4{l:Inn}:ZL .val [(aD l,kd)] W=W ((l.map λe=>pr e.1).map T.d):=xU _ _
theorem Rh{kvs:List (D×D)}(h:NC kvs=kx kf):ZL .val [(.d (.dict kvs),n)] W=W ((kvs.map (·.1)).map T.d):=by unfold ZL vC;rw[pA];show AB .val [LB kvs] W=_;unfold LB;rw[h];exact xU _ _
theorem t9{a b h:PX}{t:Str}{x:T}{R:Option T->Prop}:ZH Ψ E [] [t] (.nm 0) (.and a b) h ρ x R=aS Ψ (.and a b) E (kx (.bor x)::lockA ρ) λk z=>if k=kf then jB Ψ h E z λy n _=>uC y n (R (kx y)) else R none:=rfl
theorem HL{p:Pt}:UA (.d (pr p)) n (.d (.int 0)) m R=R (.d (.str p.1)):=by delta pr;rw[Z4,l9,sB]
theorem Ke{p:Pt}:UA (.d (pr p)) n (.d (.int 1)) m R=R (.d (.str p.2)):=by delta pr;rw[Z4,Hr,sB]
theorem zf:(T.d (.tuple [.str a,.str "from"]))=.d (pr (fR a)):=rfl
theorem z6:(T.d (.tuple [.str a,.str "to"]))=.d (pr (tO a)):=rfl
def NG:PSp where
 md:=[.bor]
 run:=λh Q _=>∃(es:VC) (st:LS) (g:Str) (r:Rm) (n:Str),h=[cB r,.d (.str n)]/\((yA es st g).9<=1000/\Flow es st g r/\HV r n=1)/\∀m,S9 r n m->Q (.d (.str m)) []
theorem L0:CD Ψ mE NG UH zG:=by
 rintro _ Q _ ⟨es,st,g,r,n,rfl,⟨M,fl,A⟩,q⟩;have J:=fl.toBase.inn (fR n);let#[b,k]:=Tj fl A;have o:nI r (fR n) (tO b):=(fl.adj _ _).mpr (HB (fl.toBase.adjw k.2));have X:Key r (fR n):=by rw[vB,fl.keys];exact oB ((fl.adj _ _).mp o)
 refine bA [kx (.bor (cB r)),bD (.str n),kv] ?_;delta mE;simp![zf,↓lI];refine#[(),EE X ?_];simp![↓B9,↓B4];have F:((lk r (fR n)).map λe=>pr e.1).map T.d=((lk r (fR n)).map (·.1)).map λp=>T.d (pr p):=by rw[QU,QU];rfl
 rw[F];refine dA (λp=>T.d (pr p)) (λ(p:Pt)=>T.d (.str p.1)) (λp=>!decide (p.1=n)&&decide (0<rm r p (fR n))) ((lk r (fR n)).map (·.1)) [] _ (λx K R u=>?_) (by show 0+((lk r (fR n)).map (·.1)).9<=_;rw[QC];omega) ?_;let#[e,B,C]:=QN.mp K;have G:nI r (fR n) x:=pB.mpr #[e.2,by rw[<- C];exact B];have w:nI r x (fR n):=(fl.adj _ _).mpr (HB ((fl.adj _ _).mp G));have s:Key r x:=by rw[vB,fl.keys];exact oB ((fl.adj _ _).mp w)
 let#[v,hv]:=w;have ev:rm r x (fR n)=v:=by unfold rm;rw[hv];rfl
 rw[ev]at u;simp![↓t9,↓HL,↓lI];by_cases c:x.1=n;rw[dT c]at u ⊢;exact u;rw[dF c]at u ⊢;simp only[wz,↓reduceIte];refine EE s ?_;simp![↓KZ];refine zQ hv ?_;simp![↓HL];by_cases d:0<v;rw[dT d]at u ⊢;exact u;rw[dF d]at u ⊢;exact u;have j:tO b∈((lk r (fR n)).map (·.1)).filter λp=>!decide (p.1=n)&&decide (0<rm r p (fR n)):=by let#[v,hv]:=o;refine QS.mpr #[QN.mpr #[_,yH hv,rfl],?_];rw[dF (show ¬ (tO b).1=n from λz=>k.1 z.symm),dT k.2];rfl
 cases l:((lk r (fR n)).map (·.1)).filter λp=>!decide (p.1=n)&&decide (0<rm r p (fR n)) with
 |nil=>rw[l]at j;exact(nomatch j)
 |cons y I =>
  have Y:y∈((lk r (fR n)).map (·.1)).filter λp=>!decide (p.1=n)&&decide (0<rm r p (fR n)):=by rw[l];exact QF
  have h:=(QS.mp Y).2;rw[Qg,Q2,decide_eq_false_iff_not,Az]at h;let#[m,rfl]:=Vf fl.toBase ((fl.adj _ _).mpr (fl.toBase.adjw h.2));rw[Qb,fA (λp:Pt=>jk p.1)];simp![↓jA];rw[QT,l9];simp![↓jA];exact q m #[λz=>h.1 z.symm,h.2]
def YI:PSp where
 md:=[.bor]
 run:=λh Q _=>∃(es:VC) (st:LS) (g:Str) (r:Rm) (f:Str),h=[cB r,.d (.str f),.d (.str g)]/\((yA es st g).9<=1000/\Flow es st g r/\aV r f)/\∀c,Run r g f c g->Q (.lst ((c.map jk).map T.d)) []
theorem Gi(fl:Flow es st g r)(w:aV r f){n:Str}(h:Run r g f c n):(∀x∈c,tO x∈vs0 es st g)/\tO n∈vs0 es st g:=by
 induction h with
 |nil=>exact#[λx y=>(nomatch y),(LI fl.toBase w).1]
 |go _ _ v u=>refine#[λx y=>?_,(LI fl.toBase v.2).1];rcases Qe.mp y with z|z;exact u.1 x z;rw[QJ.mp z];exact u.2
theorem nY(fl:Flow es st g r)(y:aV r f){n:Str}(h:Run r g f c n):c.9<=(yA es st g).length:=by
 have nd:=(h.nd fl y).1;have:=IG (ks:=c.map tO) (ns:=vs0 es st g) (wU tO (λa b u z=>u (MB z)) nd) λp w=>by let#[x,v,e]:=QN.mp w;rw[<- e];exact(Gi fl y h).1 x v
 unfold vs0 at this;rw[QC,QC]at this;exact this
def Fl(r:Rm)(f g:Str)(c:LS)(n:Str):kA:=[kx (.bor (cB r)),bD (.str f),bD (.str g),oW (.lst ((c.map jk).map T.d)),bD (.str n)]
theorem Pd(x:Ψ.sp "name_behind"=NG){n:Str}(hs:(yA es st g).9<=1000)(fl:Flow es st g r)(h:HV r n=1)(hl:c.9<=1000)(k:∀m,S9 r n m->Z.nx (Fl r f g (c++[n]) m)) :
  pF Ψ ZD Z (Fl r f g c n):=by
 delta Fl at k ⊢;delta ZD;simp![↓pS,↓zA (md:=[.bor]) x rfl rfl];refine#[by rw[QC,QC];omega,#[_,_,_,_,_,rfl,#[hs,fl,h],λm nx=>?_]];have:=k m nx;rw[QR,QR]at this;simp![↓jA];exact this
theorem N6(j:Ψ.sp "name_behind"=NG):CD Ψ KF YI ZJ YH:=by
 rintro _ Q _ ⟨es,st,g,r,f,rfl,⟨b,fl,z⟩,q⟩;have u:kb=16777216:=Q7;refine bA [kx (.bor (cB r)),bD (.str f),bD (.str g),kv,kv] ?_;delta KF
 simp![↓jA];refine#[Qs _,pI (λm ρ=>∃c n,m+c.9=1001/\Run r g f c n/\ρ=Fl r f g c n) 1001 #[[],f,rfl,.nil,rfl] ?_];rintro m ρ ⟨c,n,l,x,rfl⟩;have hl:=nY fl z x;by_cases e:n=g;subst e;delta Fl;simp![↓jA];exact q c x;have v:=λ(Z:PEnds) u=>Pd (Ψ:=Ψ) (Z:=Z) (f:=f) (g:=g) (c:=c) j b fl (x.thr1 fl z e) () u;unfold Fl at v;delta Fl;simp![↓jA];rw[dF e];refine v _ λk w=>?_;have h:=x.go e w;have y:=nY fl z h;rw[QI,Qi]at y;exact#[m - 1,(),c++[n],k,by rw[QI,Qi];omega,h,rfl]
theorem Al{q:Pt}(hv:vs.9=ks.9)(hb:VA∈ks):KB .NotIn (.d (pr q)) (.d (.dict (KC ks vs))) L=L (!decide (q∈ks)):=by show(∃b,(NC (KC ks vs)=kx b∨KC ks vs=[])/\AC b (pr q)/\L (!(cA ((KC ks vs).map (·.1)) (pr q)).isSome))=_;rw[fJ hv hb,CL hv,uH];exact t3 #[λ#[_,_,_,h]=>h,λh=>#[kf,.inl rfl,TB q,h]]
theorem gg{q:Pt}(hv:vs.9=ks.9)(hb:VA∈ks):KB .In (.d (pr q)) (.d (.dict (KC ks vs))) L=L (decide (q∈ks)):=by show(∃b,(NC (KC ks vs)=kx b∨KC ks vs=[])/\AC b (pr q)/\L (cA ((KC ks vs).map (·.1)) (pr q)).isSome)=_;rw[fJ hv hb,CL hv,uH];exact t3 #[λ#[_,_,_,h]=>h,λh=>#[kf,.inl rfl,TB q,h]]
theorem Ip{x:LS}(y:x.9<64)(q:∀h:LS,h.Perm x->sh h=kf->Q (.lst ((h.map jk).map T.d)) kf):iS .sorted [(.lst ((x.map jk).map T.d),n)] Q:=by unfold iS vC;rw[cF];exact .inl #[_,x,rfl,HA _,y,q]
theorem jq{ls:List (LS)}(x:ls.9<64)(q:∀h:List (LS),h.Perm ls->Q (.lst ((h.map jD).map T.d)) kf):iS .sorted [(.d (.list (ls.map jD)),n)] Q:=by unfold iS vC;rw[pA];exact .inr (.inl #[_,ls,rfl,HA _,x,q])
def nN(ks:List Pt):LS:=(ks.filter (mH ks)).map λp=>p.1
def rQ:PSp where
 run:=λh Q _=>∃(ks:List Pt) (vs:List D),h=[.d (.dict (KC ks vs))]/\(vs.9=ks.9/\VA∈ks/\ks.9<=1000/\(ks.filter (mH ks)).9<64)/\∀cut:LS,cut.Perm (nN ks)->sh cut=kf->Q (.lst ((cut.map jk).map T.d)) []
theorem bc:CD Ψ ZF rQ YJ JH:=by rintro _ Q _ ⟨ks,vs,rfl,⟨hv,hb,k,v⟩,q⟩;refine bA [bD (.dict (KC ks vs))] ?_;delta ZF;simp![↓Rh (fJ hv hb),CL hv];rw[<- fA];refine dA (λp=>T.d (pr p)) (λ(p:Pt)=>T.d (.str p.1)) (mH ks) ks [] _ (λx w R h=>?_) (by show 0+ks.9<=_;omega) ?_;have h:R (if(decide (x.2="to")&&!decide (fR x.1∈ks))=kf then kx (T.d (.str x.1)) else kv):=h;simp![↓t9,↓HL,↓Ke,zf,↓Al hv hb];by_cases c:x.2="to";rw[dT c]at h ⊢;refine#[(),?_];by_cases d:fR x.1∈ks;rw[dT d]at h ⊢;exact h;rw[dF d]at h ⊢;exact h;rw[dF c]at h ⊢;exact h;rw[Qb,fA (λp:Pt=>jk p.1),show((ks.filter (mH ks)).map λp=>jk p.1)=(nN ks).map jk by unfold nN;rw[QU];rfl];refine Ip (by unfold nN;rw[QC];exact v) λy u z=>?_;simp![↓jA];exact q y u z
theorem N2(f:Flow es st g r):(((lk r VA).map (·.1)).filter λy=>decide (0<rm r y VA)).9<=st.length:=by
 have u:∀y∈((lk r VA).map (·.1)).filter (λy=>decide (0<rm r y VA)),y=tO y.1/\aV r y.1:=λy x=>by have h:=u0 (QS.mp x).2;let#[n,rfl]:=t7 f.toBase ((f.adj _ _).mpr (f.toBase.adjw h));exact#[rfl,h]
 have nd:(((lk r VA).map (·.1)).filter λy=>decide (0<rm r y VA)).Nodup:=(f.ndi VA).sublist qA;have:=yR (ks:=(((lk r VA).map (·.1)).filter λy=>decide (0<rm r y VA)).map (·.1)) (ns:=st) (by
  refine wU _ (λa b h=>h) (qw (λ{a b} k hb v z=>?_) nd);exact v (by rw[(u a k).1,(u b hb).1,z])) λs w=>by
  let#[y,x,e]:=QN.mp w;rw[<- e];exact(yK f.toBase (u y x).2).1
 rw[QC]at this;exact this
theorem bH{α u:Type}{body:T->(Option T->Prop)->Prop}(P:α->u->Prop)(g:α->T)(f:u->T):∀(l:List α) (h:LT) (Q:LT->Prop),(∀x∈l,∀R:Option T->Prop,(∀y,P x y->R (kx (f y)))->body (g x) R)->h.9+l.9<=kb->(∀ys,yn P l ys->Q (h++ys.map f))->vD body (l.map g) h Q
 |[],h,Q,_,hl,q=>by have:=q [] .nil;rw[wV,qF]at this;exact#[by rw[qK]at hl;omega,this]|x::r,h,Q,hb,hl,q=>by
  rw[QK]at hl;refine hb x QF _ λy w=>#[(),?_]
  refine bH P g f r _ Q (λz v=>hb z (QG _ v)) (by rw[QI,Qi];omega) λys k=>?_;have:=q (y::ys) (.cons w k);rw[QT]at this;rw[Q0];exact this
theorem nh{r:PT}:NH Ψ E r Z i (Ed ks vs) kf ρ=lB Ψ E r Z (ρ.set i (bD (.dict (KC ks vs)))):=by unfold NH;rw[Ll];exact t3 #[λh=>h.2,λh=>#[rfl,h]]
def ur(c:LS):T:=.lst ((c.map jk).map T.d)
theorem Dl(cs:List (LS)):ersT (cs.map ur)=cs.map jD:=by rw[uJ,QU];congr 1;funext c;show PyData.list (ersT ((c.map jk).map T.d))=_;rw[JA];rfl
theorem cx{r:PT}:NH Ψ E r Z i (.lst (cs.map ur)) kf ρ=lB Ψ E r Z (ρ.set i (bD (.list (cs.map jD)))):=by
 have e:(T.lst (cs.map ur)).er=.list (cs.map jD):=by show PyData.list (ersT (cs.map ur))=_;rw[Dl]
 unfold NH;rw[e];exact t3 #[λh=>h.2,λh=>#[rfl,h]]
theorem lq{a b:LT}:zD [.lst a,.lst b]=.tup [.lst a,.lst b]:=rfl
theorem sK:∀{cs:List (LS)},UJ cs↔cs.Pairwise λc d=>∀x∈c,x∉d
 |[]=>#[λ_=>.nil,λ_=>trivial]|c::cs=>by rw[List.pairwise_cons,<- sK];exact wy
theorem HX{ds:List (LS)}(h:ds.Perm cs)(a:UJ cs):UJ ds:=sK.mpr ((h.pairwise_iff (λ{a b} z x u y=>z x y u)).mpr (sK.mp a))
structure Good(es:VC)(st:LS)(g:Str)(cs:List (LS))(cut:LS):Prop where
 chn:∀c∈cs,Chn es st g c g/\c.Nodup/\∀x∈c,x≠g
 apart:UJ cs
 len:cs.9=cut.9
 few:cut.9<=11
 nd:cut.Nodup
 srt:sh cut=kf
 ng:g∉cut
 led:¬ ∃a,(a,g)∈es/\Led es st g cut a
 okn:∀s∈cut,wF s=kf
end
section
variable{es:VC}{st:LS}{g:Str}{r:Rm}
theorem mM(f:Flow es st g r):∀{fs:LS}{cs:List (LS)},fs.Nodup->(∀s∈fs,aV r s)->yn (λs c=>Run r g s c g) fs cs->UJ cs/\(∀c∈cs,∃s∈fs,Run r g s c g)
 |_,_,_,_,.nil=>#[trivial,λ_ h=>(nomatch h)]
 |s::fs,c::cs,nd,hf,.cons h t=>by
  let#[b,a]:=Qh.mp nd;let#[l,k]:=mM f a (λs j=>hf s (QG _ j)) t;refine#[#[λd w x i e=>?_,l],λd w=>?_];let#[u,y,v]:=k d w;have:=Run.apart f (hf s QF) (hf u (QG _ y)) h v x i e;exact b (this▸y);rcases QL.mp w with z|z
  ·rw[z];exact#[s,QF,h]
  let#[u,y,v]:=k d z;exact#[u,QG _ y,v]
def Kt(r:Rm):List Pt:=((lk r VA).map λe=>e.1).filter λy=>decide (0<rm r y VA)
def yX(r:Rm):LS:=(Kt r).map λp=>p.1
theorem K8(f:Flow es st g r):∀y∈Kt r,y=tO y.1/\aV r y.1:=λy x=>by have h:=u0 (QS.mp x).2;let#[n,rfl]:=t7 f.toBase ((f.adj _ _).mpr (f.toBase.adjw h));exact#[rfl,h]
theorem Pq(f:Flow es st g r):(yX r).Nodup:=by have nd:(Kt r).Nodup:=(f.ndi VA).sublist qA;refine wU _ (λa b h=>h) (qw (λ{a b} y hb x z=>?_) nd);exact x (by rw[(K8 f a y).1,(K8 f b hb).1,z])
theorem jX(f:Flow es st g r):∀s∈yX r,aV r s:=λs x=>by let#[y,h,e]:=QN.mp x;rw[<- e];exact(K8 f y h).2
theorem zK(f:Flow es st g r):out es st g r VA=(yX r).9/\(yX r).9<=st.length:=by have x:=Yd f;have h:=N2 f;unfold yX;rw[QC];exact#[x,h]
theorem HM{α x:Type}{P:α->x->Prop}{l:List α}{m:List x}(h:yn P l m):l.9=m.length:=qC h
theorem vd(f:Flow es st g r)(C:MF es st)(F:st.9<=11){ks:List Pt}{vs:List D}(W:CF r ks vs)(hk:∀p,p∈ks↔Rch r p)(q:tO g∉ks){cs ds:List (LS)}(Y:yn (λs c=>Run r g s c g) (yX r) cs)(j:ds.Perm cs){cut:LS}(w:cut.Perm (nN ks))(sc:sh cut=kf):Good es st g ds cut:=by
 let#[J,I]:=mM f (Pq f) (jX f) Y;let#[P,O]:=zK f;have N:=YU f W.nd hk q;have M:(nN ks).9=(ks.filter (mH ks)).length:=by unfold nN;rw[QC]
 have L:=HM Y;have u:∀s,s∈nN ks↔tO s∈ks/\fR s∉ks:=λs=>by unfold nN;rw[QN];constructor;rintro⟨y,B,e⟩;let#[v,x]:=QS.mp B;let#[n,X,k]:=ED.mp x;subst X;have e:n=s:=e;subst e;exact#[v,k];rintro⟨v,x⟩;exact#[tO s,QS.mpr #[v,ED.mpr #[s,rfl,x]],rfl]
 have l:(nN ks).Nodup:=by unfold nN;refine wU _ (λa b h=>h) (qw (λ{a b} E hb A z=>?_) (W.nd.sublist (qA (p:=mH ks))));let#[n,G,_]:=ED.mp (QS.mp E).2;let#[m,X,_]:=ED.mp (QS.mp hb).2;subst G X;have z:n=m:=z;exact A (by rw[z])
 have K:=w.length_eq;refine#[λc hc=>?_,HX j J,by rw[j.length_eq,K];omega,(),w.nodup_iff.mpr l,sc,λz=>q ((u g).mp (w.mem_iff.mp z)).1,?_,λs o=>?_];let#[s,o,i]:=I c (j.mem_iff.mp hc);have Z:=jX f s o;exact#[i.chn f Z,(i.nd f Z).1,i.ng];exact Hd f hk q λn v x=>w.mem_iff.mpr ((u n).mpr #[v,x]);have v:=((u s).mp (w.mem_iff.mp o)).1;have x:=vB.mp (XI f.toBase.dom f.toBase.bg ((hk _).mp v));rw[f.keys]at x;have k:=(z8 C x).1;simp only[pr,tO,QAJ,qi,Qg]at k;exact k.1
end
def gS(es:VC)(st:LS)(g:Str)(r:Rm)(h:List (D×D))(o5 o6:Option Sl):kA:=[bD (.list (es.map pr)),bD (.tuple (st.map jk)),bD (.str g),oW (cB r),bD (.dict h),o5,o6]
section
variable{Ψ:PEv}{Z:PEnds}{es:VC}{st:LS}{g:Str}{r:Rm}
section
variable{q:PT}{h:List (D×D)}{o6:Option Sl}
theorem Gw(u:Ψ.sp "rooms_of"=JI)(z:Ψ.sp "points_reached"=AF)(y:es.9<=126)(x:st.9<=11)(k:∀ks vs,CF (yA es st g) ks vs->(∀p,p∈ks↔Rch (yA es st g) p)->pF Ψ q Z (gS es st g (yA es st g) (KC ks vs) kv kv)) :
  pF Ψ (.seq (.own 3 (.call "rooms_of" %[.var 0,.var 1,.var 2|1])) (.seq (.set 4 (.call "points_reached" %[.var 3|1])) q)) Z [bD (.list (es.map pr)),bD (.tuple (st.map jk)),bD (.str g),kv,kv,kv,kv]:=by
 have ok:=mT (g:=g) y x;delta gS at k;simp![↓zA (md:=[]) u rfl rfl,↓zA (md:=[.bor]) z rfl rfl];refine#[_,_,_,rfl,#[y,x],?_];simp![↓pS,↓zA (md:=[.bor]) z rfl rfl];refine#[_,_,rfl,#[(.inl rfl),ok.dom,ok.bg,ok.sz.1],λks vs hc hk=>?_];simp![↓nh];exact k ks vs hc hk
theorem Fw(v:Ψ.sp "points_reached"=AF)(b:Ψ.sp "lay_chain"=oQ){ks:List Pt}{vs:List D}(hs:(yA es st g).9<=1000)(w:MF es st)(f:Flow es st g r)(i:CF r ks vs)(a:tO g∈ks)
  (k:∀z x y,Flow es st g z->out es st g z VA=out es st g r VA+1->CF z x y->(∀p,p∈x↔Rch z p)->Z.nx (gS es st g z (KC x y) kv kv)) :
  pF Ψ GC Z (gS es st g r (KC ks vs) kv kv):=by
 delta gS at k ⊢;delta GC;simp![z6,↓cH (md:=[]) b rfl rfl,↓zA (md:=[.bor]) v rfl rfl];refine#[(),#[_,_,_,_,_,_,rfl,#[hs,w,f,i,a],λz u e=>#[_,rfl,?_]]];simp![↓pS,↓zA (md:=[.bor]) v rfl rfl];refine#[_,_,rfl,#[(.inl rfl),u.toBase.dom,u.toBase.bg,(by rw[u.toBase.len];exact hs)],λx y hc hk=>?_];simp![↓nh];exact k z x y u e hc hk
theorem Dw(w:Ψ.va "BEGIN"=kx (pr VA)){o5:Option Sl}(hs:(yA es st g).9<=1000)(f:Flow es st g r)(k:pF Ψ q Z (gS es st g r h (bD (.list ((yX r).map jk))) o6)) :
  pF Ψ (.seq (.set 5 (.comp [] ["point"] (.nm 0) .val %[.idx (.var 3) (.glo "BEGIN")|1] (.cmp .Gt (.idx (.idx (.var 4) (.var 0)) (.glo "BEGIN")) (.int 0)) (.idx (.var 0) (.int 0)))) q) Z (gS es st g r h o5 o6):=by
 have o:=f.toBase.inn VA;delta gS at k ⊢;simp![↓lI,↓DH w];refine EE f.toBase.bg ?_;simp![↓B9,↓B4];have m:((lk r VA).map λe=>pr e.1).map T.d=((lk r VA).map λe=>e.1).map λp=>T.d (pr p):=by rw[QU,QU];rfl
 rw[m];refine dA (λp=>T.d (pr p)) (λ(p:Pt)=>T.d (.str p.1)) (λy=>decide (0<rm r y VA)) ((lk r VA).map λe=>e.1) [] _ (λx b R z=>?_) (by show 0+((lk r VA).map λe=>e.1).9<=_;rw[QC];omega) ?_;let#[e,i,j]:=QN.mp b;have n:nI r VA x:=pB.mpr #[e.2,by rw[<- j];exact i];have u:nI r x VA:=(f.adj _ _).mpr (HB ((f.adj _ _).mp n));have a:Key r x:=by rw[vB,f.keys];exact oB ((f.adj _ _).mp u)
 let#[v,hv]:=u;have ev:rm r x VA=v:=by unfold rm;rw[hv];rfl
 rw[ev]at z;simp![↓lI,↓DH w];refine EE a ?_;simp![↓KZ,↓DH w];refine zQ hv ?_;simp![↓HL];by_cases d:0<v;rw[dT d]at z ⊢;exact z;rw[dF d]at z ⊢;exact z;rw[Qb,fA (λp:Pt=>jk p.1)];have l:((((lk r VA).map λe=>e.1).filter λy=>decide (0<rm r y VA)).map λp=>jk p.1)=(yX r).map jk:=by unfold yX Kt;rw[QU];rfl
 rw[l];simp![↓jA];exact k
theorem Cw(w:Ψ.sp "chain_from"=YI)(hs:(yA es st g).9<=1000)(a:st.9<=11)(f:Flow es st g r)(k:∀cs,yn (λs c=>Run r g s c g) (yX r) cs->pF Ψ q Z (gS es st g r h (bD (.list ((yX r).map jk))) (bD (.list (cs.map jD))))) :
  pF Ψ (.seq (.set 6 (.comp [] ["first"] (.nm 0) .val %[.var 5|1] .nop (.call "chain_from" %[.var 4,.var 0,.var 3|1]))) q) Z (gS es st g r h (bD (.list ((yX r).map jk))) o6):=by
 have hl:=(zK f).2;delta gS at k ⊢;simp![↓jA];rw[<- fA jk (yX r)];refine bH (λs c=>Run r g s c g) (λs=>T.d (.str s)) ur (yX r) [] _ (λx z R v=>?_) (by show 0+(yX r).9<=_;omega) λcs u=>?_;simp![↓pS,↓zA (md:=[.bor]) w rfl rfl];refine#[_,_,_,_,_,rfl,#[hs,f,(jX f x z)],λc y=>?_];simp![↓jA];exact v c y;rw[Qb];simp![↓cx];exact k cs u
end
end
section
variable{es u:VC}{F sr z:LS}{x:Str}{n:Int}
noncomputable def ZI:PSp where
 run:=λy Q _=>∃(es:VC) (st:LS) (g:Str),y=[.d (.list (es.map pr)),.d (.tuple (st.map jk)),.d (.str g)]/\(es.9<=126/\st.9<=11/\MF es st)/\∀h cut,Good es st g h cut->Q (.tup [.lst ((h.map jD).map T.d),.lst ((cut.map jk).map T.d)]) []
theorem O6{Ψ:PEv}(S:Ψ.sp "rooms_of"=JI)(G:Ψ.sp "points_reached"=AF)(R:Ψ.sp "lay_chain"=oQ)(P:Ψ.sp "chain_from"=YI)(C:Ψ.sp "full_names"=rQ)(O:Ψ.va "BEGIN"=kx (pr VA))(ds Q E)(h:ZI.run ds Q E):Jz Ψ ZG ZI UG DF ds Q:=by
 let#[es,st,g,rfl,#[W,i,B],q]:=h;have K:kb=16777216:=Q7;have j:(yA es st g).9<=1000:=(mT (g:=g) W i).sz.1;refine bA [bD (.list (es.map pr)),bD (.tuple (st.map jk)),bD (.str g),kv,kv,kv,kv] ?_;refine Gw S G W i λo w H M=>?_;have b0:=zK (Af (es:=es) (st:=st) (g:=g));delta gS;simp![↓jA];refine pI (λm Y=>∃r v b,(m:Int)+out es st g r VA=12/\Flow es st g r/\CF r v b/\(∀p,p∈v↔Rch r p)/\Y=gS es st g r (KC v b) kv kv) (12 - out es st g (yA es st g) VA).toNat #[yA es st g,o,w,(),Af,H,M,rfl] ?_;rintro m Y ⟨r,v,b,em,f,y,hk,rfl⟩;have bd:=zK f;by_cases a:tO g∈v;have k:=λ(Z:PEnds) K=>Fw (Ψ:=Ψ) (Z:=Z) G R j B f y a K;unfold gS at k;delta gS;simp![z6,↓gg y.len y.hb];refine#[(),?_];rw[dT a];refine k _ λI s l X e c' N=>#[m - 1,?_,I,s,l,?_,X,c',N,rfl]
 have:=zK X;omega;have:=zK X;omega;have A:pF Ψ %[.set 5 (.comp [] ["point"] (.nm 0) .val %[.idx (.var 3) (.glo "BEGIN")|1] (.cmp .Gt (.idx (.idx (.var 4) (.var 0)) (.glo "BEGIN")) (.int 0)) (.idx (.var 0) (.int 0))),.set 6 (.comp [] ["first"] (.nm 0) .val %[.var 5|1] .nop (.call "chain_from" %[.var 4,.var 0,.var 3|1])),.ret (.tup %[.bi .sorted %[.var 6|1],.call "full_names" %[.var 4|1]|1])|2] (eZ Q) (gS es st g r (KC v b) kv kv):=by refine Dw O j f (Cw P j i f λcs k=>?_);have lc:=HM k;have l3:=YU f y.nd hk a;delta gS;simp![↓zA (md:=[]) C rfl rfl];refine jq () λds J=>?_;simp![↓zA (md:=[]) C rfl rfl];refine#[_,_,rfl,#[y.len,y.hb,(QZ (y.le f.toBase.dom f.toBase.bg) (by rw[f.toBase.len];exact j)),()],λcut L sc=>?_];simp![lq];exact#[(),q ds cut (vd f B i y hk a k J L sc)]
 unfold gS at A;delta gS;simp![z6,↓gg y.len y.hb];refine#[(),?_];rw[dF a];exact A
def eU(es:VC)(F:LS):VC:=es.filter λe=>decide (e.1∈F)
theorem kH{e:Str×Str}:e∈eU es F↔e∈es/\e.1∈F:=by unfold eU;rw[QS,Az]
def dL(es:VC)(sr:LS)(x:Str)(F:LS)(n:Int):Prop:=∃h:List (LS),UJ h/\(∀c∈h,Chn (eU es F) sr x c x)/\n<=(h.9:Int)
theorem Chn.sub{g:Str}(w:∀e∈es,e∈u)(v:∀s∈sr,s∈z){c:LS}{n:Str}(h:Chn es sr g c n):Chn u z g c n:=by
 induction h with|st a b=>exact .st (v _ a) b|go _ b c y=>exact .go y b (w _ c)
theorem dL.sub{w:LS}{v:Int}(j:∀e∈es,e∈u)(i:∀s∈sr,s∈z)(g:∀y∈F,y∈w)(k:v<=n)(h:dL es sr x F n):dL u z x w v:=by let#[p,a,c,l]:=h;refine#[p,a,λd f=>Chn.sub (λe b=>?_) i (c d f),QA3 k l];let#[o,m]:=kH.mp b;exact kH.mpr #[j e o,g _ m]
theorem L7{cs:List (LS)}{cut:LS}(h:Good (eU es F) sr x cs cut):dL es sr x F n↔n<=(cs.9:Int):=by constructor;rintro⟨y,a,c,l⟩;have:=y3 a c h.led;rw[<- h.len]at this;exact QA3 l (Int.ofNat_le.mpr this);exact λl=>#[cs,h.apart,λc hc=>(h.chn c hc).1,l]
inductive Held(es:VC)(sr:LS)(nd:List (Str×Int)):Str->Prop
 |see {x:Str}{n:Int}:(x,n)∈nd->x∈sr->Held es sr nd x
 |tell {x:Str}{n:Int}(F:LS):(x,n)∈nd->(∀y∈F,Held es sr nd y)->dL es sr x F n->Held es sr nd x
end
section
variable{es v:VC}{sr y:LS}{nd u:List (Str×Int)}
theorem gU{S:LS}(f:∀x∈S,Held es sr nd x)(e:∀x n,(x,n)∈nd->x∈sr->x∈S)(k:∀x n,(x,n)∈nd->x∉S->¬ dL es sr x S n)(x:Str):x∈S↔Held es sr nd x:=by
 refine#[f x,λh=>?_];induction h with|see a b=>exact e _ _ a b|@tell x n F a _ m w=>by_cases z:x∈S;exact z;exact ti (m.sub (λ_ h=>h) (λ_ h=>h) w (QBS _)) (k x n a z)
theorem Held.sub(j:∀e∈es,e∈v)(g:∀s∈sr,s∈y)(f:∀x n,(x,n)∈nd->∃w,w<=n/\(x,w)∈u){x:Str}(h:Held es sr nd x):Held v y u x:=by
 induction h with|see a b=>let#[w,_,m]:=f _ _ a;exact .see m (g _ b)|tell F a _ m i=>let#[w,l,k]:=f _ _ a;exact .tell F k i (m.sub j g (λ_ z=>z) l)
theorem XR{x:Str}(h:Held es sr nd x):∃n,(x,n)∈nd:=by
 cases h with|see a _=>exact#[_,a]|tell _ a=>exact#[_,a]
end
def eI(b:Bool)(l:List D):D:=if b then .tuple l else .list l
theorem iu{b:Bool}{l:List D}{n:Bool}{W:LT->Prop}:ZL .val [(.d (eI b l),n)] W=W (l.map T.d):=by
 cases b with|true=>exact au|false=>exact zt
noncomputable def IE:PSp where
 md:=[.fro,.fro,.shal]
 run:=λz Q _=>∃(tb:Bool) (x:VC) (h F:LS) (g:Str),z=[.d (eI tb (x.map pr)),.d (.tuple (h.map jk)),.lst ((F.map jk).map T.d),.d (.str g)]/\(x.9<=126/\h.9<=11/\MF x h)/\∀y cut,Good (eU x F) h g y cut->Q (.tup [.lst ((y.map jD).map T.d),.lst ((cut.map jk).map T.d)]) []
theorem Tb{Ψ:PEv}(w:Ψ.sp "apart_chains"=ZI):CD Ψ eD IE VG UF:=by
 rintro _ Q _ ⟨tb,h,u,F,g,rfl,⟨b,a,v⟩,q⟩;have k:(eU h F).9<=126:=QZ (Qu _ _) b;have z:MF (eU h F) u:=#[v.1,λe f=>v.2 e (kH.mp f).1]
 refine bA [bD (eI tb (h.map pr)),bD (.tuple (u.map jk)),kx (.bor (.lst ((F.map jk).map T.d))),bD (.str g)] ?_;delta eD;simp![↓iu,↓zA (md:=[]) w rfl rfl];rw[<- fA pr h];refine dA (λp=>T.d (pr p)) (λ(p:Str×Str)=>T.d (pr p)) (λp=>decide (p.1∈F)) h [] _ (λx l R y=>?_) (by show 0+h.9<=_;omega) ?_;simp![↓HL,fC,UB,SA,true_or];by_cases d:x.1∈F;rw[dT d]at y ⊢;exact y;rw[dF d]at y ⊢;exact y;rw[Qb,fA pr];simp![↓zA (md:=[]) w rfl rfl];refine#[_,_,_,rfl,#[k,a,z],λj cut i=>?_];simp![↓jA];exact q j cut i
section
variable{Ψ:PEv}{E:XE}{ρ:kA}{K:TK}{a b c h:PX}{ds:List D}{n m:Bool}{L:Bool->Prop}
def Po(x:T)(n:Bool)(Ψ:PEv)(b:PX)(E:XE)(ρ:kA)(K:TK):Prop:=sq (α:=Option Int) (nA x n) ρ (λρ R=>(pe Ψ b E).e ρ λu _ y=>uG u.er λo=>R o y) λu y=>uO (nA x n).vw kv u λz k=>K z k y
def ZY(x:T)(Q:Option Int->Prop):Prop:=uG x.er Q
theorem Zp{i:Int}{Q:Option Int->Prop}:ZY (.d (.int i)) Q=Q (kx i):=rfl
theorem fi{x:T}{R:Option Int->kA->Prop}:sq (α:=Option Int) x ρ (λρ (R:Option Int->kA->Prop)=>R kv ρ) R=R kv ρ:=by unfold sq;split<;>rfl
theorem Om{j:Nat}:jB Ψ (.slc a .nop (.var j)) E ρ K=jB Ψ a E ρ λx n v=>Po x n Ψ (.var j) E v K:=by show(pe Ψ a E).e ρ (λx n v=>sq (α:=Option Int) (nA x n) v (λρ (R:Option Int->kA->Prop)=>R kv ρ) λl w=>sq (α:=Option Int) (nA x n) w (λρ R=>(pe Ψ (.var j) E).e ρ λu _ y=>uG u.er λo=>R o y) λu y=>uO (nA x n).vw l u λz k=>K z k y)=_;simp only[fi];rfl
theorem sx{x:D}:Po (.d x) n Ψ b E ρ K=jB Ψ b E ρ λu _ y=>ZY u λo=>jW (.d x) n kv o λz k=>K z k y:=by cases n<;>rfl
theorem Ud(a b:List D):(T.tup [.lst (a.map T.d),.lst (b.map T.d)]).er=.tuple [.list a,.list b]:=by show PyData.tuple [.list (ersT (a.map T.d)),.list (ersT (b.map T.d))]=_;rw[JA,JA]
theorem Lh{a b:List D}{m:Bool}{t:T}{R:T->Prop}:UA (.tup [.lst (a.map T.d),.lst (b.map T.d)]) kf t m R=UA (.d (.tuple [.list a,.list b])) kd t m R:=by
 have e:nA (.tup [.lst (a.map T.d),.lst (b.map T.d)]) kf=.d (.tuple [.list a,.list b]):=by show T.d (T.tup [.lst (a.map T.d),.lst (b.map T.d)]).er=_;rw[Ud]
 unfold UA;rw[e];rfl
end
section
variable{Ψ:PEv}{E:XE}{ρ:kA}{a c h:PX}{W:LT->Prop}{R:Option T->Prop}{C:LT->Prop}{xs:List (T×Bool)}{ds:List D}{n m:Bool}
section
variable{md:List Md}{ts:LT}{b:Bool}{t u:Str}
theorem kB{v:PX}{M:List (T×Bool)->kA->Prop}:BJ Ψ (.acons a v) E (.fro::md) ρ M=jB Ψ a E ρ λx n z=>MS x n Ψ v E md z λxs y=>M ((x,n)::xs) y:=rfl
theorem XZ{d:D}:XA (.fro::md) ((.d d,n)::xs) C=XA md xs λts=>C (.d d::ts):=by
 have e:lA (.fro::md) ((.d d,n)::xs) []=(lA md xs []).map (.d d::·):=by cases n<;>rfl
 unfold XA;rw[e,TC]
theorem vo:ZL .val [(.lst ts,kd)] W=W ts:=by unfold ZL vC;exact jJ ts
theorem Lr{m:List Bool}{x y:D}{v:fv}:ZH Ψ E (b::m) [t,u] (.tp [0,1]) (.cmp v a c) h ρ (.d (.tuple [x,y])) R=aS Ψ (.cmp v a c) E (bD x::bD y::PB (b::m) (lockA ρ)) λk z=>if k=kf then jB Ψ h E z λy n _=>uC y n (R (kx y)) else R none:=sB
theorem Lw{m:List Bool}{x y:T}:ZH Ψ E (b::m) [t,u] (.tp [0,1]) .nop h ρ (.tup [x,y]) R=jB Ψ h E (kx (.bor x)::kx (.bor y)::PB (b::m) (lockA ρ)) λy n _=>uC y n (R (kx y)):=sB
theorem Yz:IM ((.lst [],kf)::xs) C=IM xs λts=>C (.lst []::ts):=xx (ds:=[])
theorem fq{d:D}:zD [.d d,.lst ts]=.tup [.d d,.lst ts]:=rfl
theorem Jr{i j:Int}{L:Bool->Prop}:KB .GtE (.d (.int i)) (.d (.int j)) L=L (decide (j<=i)):=rfl
end
end
noncomputable abbrev Rw:=Str×List (LS)
noncomputable def IF(r:Rw):T:=.tup [.d (.str r.1),.lst ((r.2.map jD).map T.d)]
def CJ(p:Str×Int):D:=.tuple [.str p.1,.int p.2]
def G2(x:D)(sr:LS)(nd:List (Str×Int))(h:List Rw)(F:LS)(b:Bool)(o6 o7 o8:Option Sl):kA:=[bD (x),bD (.tuple (sr.map jk)),bD (.list (nd.map CJ)),oW (.lst (h.map IF)),oW (.lst ((F.map jk).map T.d)),bD (.bool b),o6,o7,o8]
section
variable{Ψ:PEv}{Z:PEnds}{tb:Bool}{es:VC}{sr:LS}{nd:List (Str×Int)}{q:PT}
section
variable{o5 o6 o7 o8:Option Sl}{h:List Rw}
noncomputable def ES(sr:LS)(nd:List (Str×Int)):List Rw:=(nd.filter λp=>decide (p.1∈sr)).map λp=>(p.1,[])
theorem yw(hl:nd.9<=100){o4:Option Sl}(k:pF Ψ q Z [bD (eI tb (es.map pr)),bD (.tuple (sr.map jk)),bD (.list (nd.map CJ)),oW (.lst ((ES sr nd).map IF)),o4,o5,o6,o7,o8]) :
  pF Ψ (.seq (.own 3 (.comp [kd,kd,kd,kd,kd,kd,kf,kf] ["name","number"] (.tp [0,1]) .val %[.var 2|1] (.cmp .In (.var 0) (.var 3)) (.tup %[.var 0,.lst .anil|1]))) q) Z [bD (eI tb (es.map pr)),bD (.tuple (sr.map jk)),bD (.list (nd.map CJ)),kv,o4,o5,o6,o7,o8]:=by
 simp![↓jA];rw[<- fA CJ nd];refine dA (λp=>T.d (CJ p)) (λ(p:Str×Int)=>IF (p.1,[])) (λp=>decide (p.1∈sr)) nd [] _ (λx z R y=>?_) (by show 0+nd.9<=_;omega) ?_;let#[x,n]:=x;delta CJ;simp![↓Lr,fC,UB,SA,true_or];by_cases d:x∈sr;rw[dT d]at y ⊢;simp![↓Yz,↓fq];exact#[(),(),y];rw[dF d]at y ⊢;exact y;rw[Qb];have e:(nd.filter λp=>decide (p.1∈sr)).map (λp=>IF (p.1,[]))=(ES sr nd).map IF:=by unfold ES;rw[QU];rfl
 rw[e];exact k
theorem jw(hl:h.9<=100)(k:pF Ψ q Z [bD (eI tb (es.map pr)),bD (.tuple (sr.map jk)),bD (.list (nd.map CJ)),oW (.lst (h.map IF)),oW (.lst (((h.map λr=>r.1).map jk).map T.d)),o5,o6,o7,o8]) :
  pF Ψ (.seq (.own 4 (.comp [kd,kd,kd,kd,kd,kd,kf,kd,kf] ["name","chains"] (.tp [0,1]) .val %[.var 3|1] .nop (.var 0))) q) Z [bD (eI tb (es.map pr)),bD (.tuple (sr.map jk)),bD (.list (nd.map CJ)),oW (.lst (h.map IF)),kv,o5,o6,o7,o8]:=by
 simp![↓vo];refine uB IF (λr=>T.d (.str r.1)) h [] _ (λx z R y=>?_) (by show 0+h.9<=_;omega) ?_;delta IF;simp![↓Lw];exact y;rw[Qb,fA (λr:Rw=>jk r.1)];have e:(h.map λr=>jk r.1)=(h.map λr=>r.1).map jk:=by rw[QU];rfl
 rw[e];exact k
theorem Iv(f:Ψ.sp "told_through"=IE){F:LS}{b:Bool}{x:Str}{n:Int}(a:es.9<=126)(k:sr.9<=11)(e:MF es sr)(j:h.9<=100)(i:F.9<=100)
  (w:x∈F->∀o8,Z.nx (G2 (eI tb (es.map pr)) sr nd h F b (bD (.str x)) (bD (.int n)) o8))
  (v:x∉F->¬ dL es sr x F n->∀o8,Z.nx (G2 (eI tb (es.map pr)) sr nd h F b (bD (.str x)) (bD (.int n)) o8))
  (u:x∉F->dL es sr x F n->∀cs o8,Z.nx (G2 (eI tb (es.map pr)) sr nd (h++[(x,cs)]) (F++[x]) kf (bD (.str x)) (bD (.int n)) o8)) :
  pF Ψ FC Z (G2 (eI tb (es.map pr)) sr nd h F b (bD (.str x)) (bD (.int n)) o8):=by
 delta G2 at w v u ⊢;delta FC;simp![fC,UB,SA,true_or];by_cases d:x∈F;rw[dT d];exact w d _;rw[dF d];simp![↓kB,↓XZ,↓zA (md:=[.fro,.fro,.shal]) f rfl rfl];refine#[_,_,_,_,_,rfl,#[a,k,e],λcs cut g=>?_];have y:=L7 (n:=n) g;simp![↓Lh,↓l9,↓Jr,QC];by_cases c:n<=(cs.9:Int);rw[dT c];simp![↓Om,↓sx,↓Zp,↓fq];rw[Gd];refine#[(),(),by rw[QC,QC];omega,?_];have:=u d (y.mpr c) (OR cs kv (kx n)) (bD (.list (cs.map jD)));rw[QR,QR,QR]at this;exact this;rw[dF c];exact v d (λz=>c (y.mp z)) _
end
end
structure GI(es:VC)(sr:LS)(nd:List (Str×Int))(rs:List Rw)(F:LS):Prop where
 e:F=rs.map λr=>r.1
 ndp:F.Nodup
 held:∀x∈F,Held es sr nd x
 see:∀x n,(x,n)∈nd->x∈sr->x∈F
 non:∀r∈rs,r.1∈sr->r.2=[]
section
variable{es:VC}{sr:LS}{nd:List (Str×Int)}{u:List Rw}{F:LS}
theorem GI.len(g:GI es sr nd u F):F.9<=nd.length:=by
 have:=yR (ns:=nd.map λp=>p.1) g.ndp λs x=>by let#[n,h]:=XR (g.held s x);exact QN.mpr #[_,h,rfl]
 rw[QC]at this;exact this
theorem GI.rlen(g:GI es sr nd u F):u.9=F.length:=by rw[g.e,QC]
theorem Tv(h:(nd.map λp=>p.1).Nodup):GI es sr nd (ES sr nd) ((ES sr nd).map λr=>r.1):=by
 have e:((ES sr nd).map λr=>r.1)=(nd.filter λp=>decide (p.1∈sr)).map λp=>p.1:=by unfold ES;rw[QU];rfl
 refine#[rfl,?_,λx y=>?_,λx n y v=>?_,λr z _=>?_];rw[e];exact h.sublist (qA.map _);rw[e]at y;let#[p,w,rfl]:=QN.mp y;let#[a,k]:=QS.mp w;exact .see (n:=p.2) a (u0 k);rw[e];exact QN.mpr #[(x,n),QS.mpr #[y,dT v],rfl];unfold ES at z;let#[p,_,rfl]:=QN.mp z;rfl
theorem GI.add(g:GI es sr nd u F){x:Str}{n:Int}(w:(x,n)∈nd)(f:x∉F)(m:dL es sr x F n)(cs:List (LS)):GI es sr nd (u++[(x,cs)]) (F++[x]):=by
 refine#[by rw[QR,<- g.e];rfl,qP.mpr #[g.ndp,Qh.mpr #[λz=>(nomatch z),Qx],λa j b hb e=>?_],λy v=>?_,λy k v h=>Ql _ (g.see y k v h),λr i h=>?_];rw[QJ.mp hb]at e;exact f (e▸j);rcases Qe.mp v with z|z
 ·exact g.held y z
 rw[QJ.mp z];exact .tell F w g.held m;rcases Qe.mp i with z|z
 ·exact g.non r z h
 rw[QJ.mp z]at h;exact ti (g.see x n w h) f
end
def aE:PSp where
 run:=λu Q _=>∃(tb:Bool) (y:VC) (h:LS) (nd:List (Str×Int)),u=[.d (eI tb (y.map pr)),.d (.tuple (h.map jk)),.d (.list (nd.map CJ))]/\(y.9<=126/\h.9<=11/\MF y h/\nd.9<=90/\(nd.map λp=>p.1).Nodup)/\∀z F,GI y h nd z F->(∀x,x∈F↔Held y h nd x)->Q (.lst (z.map IF)) []
theorem EO{tb:Bool}{es:VC}{sr:LS}{nd:List (Str×Int)}{K:T->LT->Prop}{E:XE}(l:es.9<=126/\sr.9<=11/\MF es sr/\nd.9<=90/\(nd.map λp=>p.1).Nodup)(q:∀h F,GI es sr nd h F->(∀x,x∈F↔Held es sr nd x)->K (.lst (h.map IF)) []):cO aE [.d (eI tb (es.map pr)),.d (.tuple (sr.map jk)),.d (.list (nd.map CJ))] K E:=#[tb,es,sr,nd,rfl,l,q]
section
variable{Ψ:PEv}{Z:PEnds}{tb:Bool}{es:VC}{sr:LS}{nd:List (Str×Int)}{u:List Rw}{F:LS}
theorem Av(L:Ψ.sp "told_through"=IE)(G:es.9<=126)(E:sr.9<=11)(J:MF es sr)(O:nd.9<=90){b:Bool}{o6 o7 o8:Option Sl}(g:GI es sr nd u F)
  (k:∀v w a o6 o7 o8,GI es sr nd v w->F.9<=w.9->(a=kf->F.9<w.9)->(a=kd->∀x n,(x,n)∈nd->x∉w->¬ dL es sr x w n)->Z.nx (G2 (eI tb (es.map pr)) sr nd v w a o6 o7 o8)) :
  pF Ψ CC Z (G2 (eI tb (es.map pr)) sr nd u F b o6 o7 o8):=by
 delta G2;delta CC;simp![↓jA];rw[<- fA CJ nd];refine ZB (λ(p:Str×Int)=>T.d (CJ p)) (λl r=>∃v w a o6 o7 o8,GI es sr nd v w/\(∀p∈l,p∈nd)/\F.9<=w.9/\(a=kf->F.9<w.9)/\(a=kd->∀x n,(x,n)∈nd->(x,n)∈l∨x∈w∨¬ dL es sr x w n)/\r=G2 (eI tb (es.map pr)) sr nd v w a o6 o7 o8) ?_ ?_ _ _ #[u,F,kd,_,_,_,g,λ_ z=>z,Qc _,λz=>(nomatch z),λ_ x n h=>.inl h,rfl];rintro r ⟨v,w,a,B,A,K,f,_,q,o,j,rfl⟩;exact k v w a _ _ _ f q o λhb x n Y i=>((j hb x n Y).resolve_left λz=>(nomatch z)).resolve_left i;rintro⟨x,n⟩ l r N W ⟨v,w,a,B,A,K,f,m,q,o,j,rfl⟩;have Y:=m _ QF;have s:∀p∈l,p∈nd:=λp I=>m p (QG _ I);have Q:=f.len;have P:=f.rlen;refine JE.mk rfl ?_;refine Iv (x:=x) (n:=n) L G E J () () (λi o8=>W _ #[v,w,a,_,_,_,f,s,q,o,λhb y k X=>?_,rfl]) (λi nm o8=>W _ #[v,w,a,_,_,_,f,s,q,o,λhb y k X=>?_,rfl]) λi C M o8=>W _ #[_,_,kf,_,_,_,f.add Y i C M,s,?_,λ_=>?_,λz=>(nomatch z),rfl];rcases j hb y k X with z|z
 ·rcases QL.mp z with e|z
  ·cases e
   exact .inr (.inl i)
  exact .inl z
 exact .inr z;rcases j hb y k X with z|z
 ·rcases QL.mp z with e|z
  ·cases e
   exact .inr (.inr nm)
  exact .inl z
 exact .inr z;rw[QI,Qi];omega;rw[QI,Qi];omega
end
theorem P6{Ψ:PEv}(p:Ψ.sp "told_through"=IE):CD Ψ JG aE XG BF:=by
 rintro _ Q _ ⟨tb,es,sr,nd,rfl,⟨i,f,l,e,o⟩,q⟩;refine bA [bD (eI tb (es.map pr)),bD (.tuple (sr.map jk)),bD (.list (nd.map CJ)),kv,kv,kv,kv,kv,kv] ?_;have g0:=Tv (es:=es) (sr:=sr) o;have K:=g0.len;have W:=g0.rlen;refine yw () (jw () ?_);simp![↓jA];refine pI (λm u=>∃h F b o6 o7 o8,m=2 * (nd.9 - F.9)+(if b=kf then 1 else 0)/\GI es sr nd h F/\(b=kd->∀x n,(x,n)∈nd->x∉F->¬ dL es sr x F n)/\u=G2 (eI tb (es.map pr)) sr nd h F b o6 o7 o8) _ #[_,_,kf,kv,kv,kv,rfl,g0,λz=>(nomatch z),rfl] ?_;rintro m u ⟨h,F,b,o6,o7,o8,k,g,r,rfl⟩;cases b with
 |true =>
  have v:=λ(Z:PEnds) j=>Av (Ψ:=Ψ) (Z:=Z) (tb:=tb) (b:=kf) (o6:=o6) (o7:=o7) (o8:=o8) p i f l e g j;unfold G2 at v;delta G2;simp![↓jA];refine v _ λy Y a o6 o7 o8 w A X s=>#[_,?_,y,Y,a,o6,o7,o8,rfl,w,s,rfl]
  have:=w.len;cases a with|true=>have:=X rfl;rw[k,tt rfl];omega|false=>rw[k,tt rfl,th QD];omega
 |false=>delta G2;simp![↓jA];exact q h F g λx=>gU g.held g.see (r rfl) x
noncomputable def xG(p:Str×Int×Int×Int):D:=.tuple [.str p.1,.int p.2.1,.int p.2.2.1,.int p.2.2.2]
inductive Evt where
 |see (t:Int) (p m w:Str)|tell (t:Int) (a b m w:Str) (by_:LS)
noncomputable def fE:Evt->D
 | .see t p m w=>.tuple [.str "see",.int t,.str p,.str m,.str w]|.tell t a b m w q=>.tuple [.str "tell",.int t,.str a,.str b,.str m,.str w,.tuple (q.map jk)]
structure Wd where
 ps:List (Str×Int×Int×Int)
 ms:LS
 ag:VC
 es:List Evt
def wD(w:Wd):D:=.tuple [.list (w.ps.map xG),.list (w.ms.map jk),.list (w.ag.map pr),.list (w.es.map fE)]
section
variable{w:Wd}{p:Str×Int×Int×Int}{n m:Bool}{R:T->Prop}
theorem YA{ds:List D}{i:Nat}{d:D}(h:ds[i]?=kx d):UA (.d (.tuple ds)) n (.d (.int (i:Int))) m R=R (.d d):=by rw[Z4,show BD ds (i:Int)=kx d from VF h,sB]
theorem eV:UA (.d (wD w)) n (.d (.int 0)) m R=R (.d (.list (w.ps.map xG))):=YA (i:=0) rfl
theorem GZ:UA (.d (wD w)) n (.d (.int 1)) m R=R (.d (.list (w.ms.map jk))):=YA (i:=1) rfl
theorem Ot:UA (.d (wD w)) n (.d (.int 2)) m R=R (.d (.list (w.ag.map pr))):=YA (i:=2) rfl
theorem GL:UA (.d (wD w)) n (.d (.int 3)) m R=R (.d (.list (w.es.map fE))):=YA (i:=3) rfl
theorem LL:UA (.d (xG p)) n (.d (.int 0)) m R=R (.d (.str p.1)):=YA (i:=0) rfl
theorem bu:UA (.d (xG p)) n (.d (.int 1)) m R=R (.d (.int p.2.1)):=YA (i:=1) rfl
theorem xu:UA (.d (xG p)) n (.d (.int 2)) m R=R (.d (.int p.2.2.1)):=YA (i:=2) rfl
theorem zu:UA (.d (xG p)) n (.d (.int 3)) m R=R (.d (.int p.2.2.2)):=YA (i:=3) rfl
end
def VB(w:Wd):List (Str×Int):=w.ps.map λp=>(p.1,p.2.2.2)
def bM:PSp where
 run:=λh Q _=>∃w:Wd,h=[.d (wD w)]/\w.ps.9<=90/\Q (.lst (((VB w).map CJ).map T.d)) []
theorem Xj{Ψ:PEv}:CD Ψ vI bM RN YK:=by
 rintro _ Q _ ⟨w,rfl,l,q⟩;refine bA [bD (wD w)] ?_;delta vI;simp![↓eV];rw[<- fA xG];refine uB (λp=>T.d (xG p)) (λp=>T.d (CJ (p.1,p.2.2.2))) w.ps [] _ (λx y R h=>?_) (by show 0+w.ps.9<=_;omega) ?_;simp![↓LL,↓zu];exact#[(),h];rw[Qb,fA λp:Str×Int×Int×Int=>CJ (p.1,p.2.2.2)];have e:(w.ps.map λp=>CJ (p.1,p.2.2.2))=(VB w).map CJ:=by unfold VB;rw[QU];rfl
 rw[e];exact q
noncomputable def kE(es:VC)(sr:LS):D:=.tuple [.tuple (sr.map jk),.tuple (es.map pr)]
noncomputable def YS(tb:Bool)(es:VC)(sr:LS):D:=.tuple [.tuple (sr.map jk),eI tb (es.map pr)]
section
variable{es:VC}{sr:LS}{n m:Bool}{R:T->Prop}
theorem On{tb:Bool}:UA (.d (YS tb es sr)) n (.d (.int 0)) m R=R (.d (.tuple (sr.map jk))):=YA (i:=0) rfl
theorem Nn{tb:Bool}:UA (.d (YS tb es sr)) n (.d (.int 1)) m R=R (.d (eI tb (es.map pr))):=YA (i:=1) rfl
theorem gu:UA (.d (kE es sr)) n (.d (.int 0)) m R=R (.d (.tuple (sr.map jk))):=YA (i:=0) rfl
theorem fu:UA (.d (kE es sr)) n (.d (.int 1)) m R=R (.d (.tuple (es.map pr))):=YA (i:=1) rfl
end
def LG:PSp where
 run:=λz Q _=>∃(w:Wd) (tb:Bool) (y:VC) (h:LS),z=[.d (wD w),.d (YS tb y h)]/\(y.9<=126/\h.9<=11/\MF y h/\w.ps.9<=90/\(w.ps.map λp=>p.1).Nodup)/\∀l:LS,(∀x,x∈l↔Held y h (VB w) x)->l.9<=90->Q (.lst ((l.map jk).map T.d)) []
theorem zo{ts:LT}{W:LT->Prop}:ZL .val [(.lst ts,kf)] W=W ((ersT ts).map T.d):=jJ _
theorem Jl(r:Rw):(IF r).er=.tuple [.str r.1,.list (ersT ((r.2.map jD).map T.d))]:=rfl
theorem vc{Ψ:PEv}(l:Ψ.sp "ground_alone"=aE)(j:Ψ.sp "needs_of"=bM):CD Ψ JF LG iJ aH:=by
 rintro _ Q _ ⟨w,tb,m,z,rfl,⟨a,k,b,y,nd⟩,q⟩;have v:(VB w).9<=90:=by unfold VB;rw[QC];exact y
 have u:((VB w).map λp=>p.1).Nodup:=by unfold VB;rw[QU];exact nd
 refine bA [bD (wD w),bD (YS tb m z)] ?_;delta JF;simp![↓On,↓Nn,↓zA (md:=[]) l rfl rfl,↓zA (md:=[]) j rfl rfl];refine#[_,rfl,y,?_];simp![↓jA];refine EO #[a,k,b,v,u] λh F g i=>?_;rw[zo];have fl:=g.len;have rl:h.9=F.length:=by rw[g.e,QC]
 rw[uJ,QU,QU];refine#[rfl,?_];refine uB (λr=>T.d (IF r).er) (λr=>T.d (.str r.1)) h [] _ (λx n R f=>?_) (by show 0+h.9<=_;omega) ?_;rw[Jl];simp![↓jA];exact f;rw[Qb,fA (λr:Rw=>jk r.1)];have e:(h.map λr=>jk r.1)=F.map jk:=by rw[g.e,QU];rfl
 rw[e];exact q F i ()
noncomputable def BA(h:List Evt)(n:Nat):Evt:=(h[n]?).getD (.see 0 "" "" "")
def UD(e:Evt):Prop:=∃t a b m w q,e=.tell t a b m w q
def aq:Evt->Str
 | .see _ _ m _=>m|.tell _ _ _ m _ _=>m
noncomputable def FD:Evt->Str×Str
 | .see _ p m _=>(p,m)|.tell _ a b _ _ _=>(a,b)
def nD(n:Nat):D:=.int (n:Int)
theorem JS{x:List Evt}{i:Nat}{n m:Bool}{R:T->Prop}(h:i<x.9):UA (.d (.list (x.map fE))) n (.d (nD i)) m R=R (.d (fE (BA x i))):=by delta nD;rw[Nh,show BD (x.map fE) (i:Int)=kx (fE (BA x i)) from VF (by rw[QX,Qq h];unfold BA;rw[Qq h];rfl),sB]
section
variable{e:Evt}{n m:Bool}{R:T->Prop}
theorem Y4(h:UD e):UA (.d (fE e)) n (.d (.int 2)) m R=R (.d (.str (FD e).1)):=by let#[t,a,b,x,w,q,rfl]:=h;exact YA (i:=2) rfl
theorem se(h:UD e):UA (.d (fE e)) n (.d (.int 3)) m R=R (.d (.str (FD e).2)):=by let#[t,a,b,x,w,q,rfl]:=h;exact YA (i:=3) rfl
theorem Ln(h:UD e):UA (.d (fE e)) n (.d (.int 4)) m R=R (.d (.str (aq e))):=by let#[t,a,b,x,w,q,rfl]:=h;exact YA (i:=4) rfl
end
section
variable{Ψ:PEv}{ks:List Pt}{L:Bool->Prop}
theorem i7{ds:List D}{Q:T->Bool->Prop}:iS .tuple [(.lst (ds.map T.d),kf)] Q=Q (.d (.tuple ds)) false:=by unfold iS vC;show z4 .tuple [.ls ((ersT (ds.map T.d)).map T.d)] Q=_;rw[JA,Br];exact t3 #[λ#[_,e,q]=>by rw[HA]at e;cases e;exact q,λq=>#[_,HA _,q]]
def lH(h:List Evt)(x:LN)(m:Str):VC:=(x.filter λn=>decide (aq (BA h n)=m)).map λn=>FD (BA h n)
def fM:PSp where
 run:=λy Q _=>∃(h:List Evt) (x:LN) (m:Str),y=[.d (.list (h.map fE)),.d (.list (x.map nD)),.d (.str m)]/\x.9<=100/\(∀n∈x,n<h.9/\UD (BA h n))/\Q (.d (.tuple ((lH h x m).map pr))) []
theorem Rj:CD Ψ dI fM jO FK:=by
 rintro _ Q _ ⟨h,y,m,rfl,l,a,q⟩;refine bA [bD (.list (h.map fE)),bD (.list (y.map nD)),bD (.str m),kv] ?_;delta dI;simp![↓jA];rw[<- fA nD];refine dA (λn=>T.d (nD n)) (λn=>T.d (fE (BA h n))) (λn=>decide (aq (BA h n)=m)) y [] _ (λx v R u=>?_) (by show 0+y.9<=_;omega) ?_;simp![↓JS (a x v).1,↓Ln (a x v).2];split at u;rename_i c;rw[tt c];exact u;rename_i c;rw[th c];exact u;rw[Qb,fA λn=>fE (BA h n)];simp![↓jA];rw[<- fA λn=>fE (BA h n)];refine uB (λn=>T.d (fE (BA h n))) (λn=>T.d (pr (FD (BA h n)))) _ [] _ (λx v R u=>?_) (by show 0+(List.filter _ y).9<=_;have:=Qu (λn=>decide (aq (BA h n)=m)) y;omega) ?_;have z:=(QS.mp v).1;simp![↓Y4 (a x z).2,↓se (a x z).2];exact#[(),u];rw[Qb,fA λn=>pr (FD (BA h n)),i7];have e:((y.filter λn=>decide (aq (BA h n)=m)).map λn=>pr (FD (BA h n)))=(lH h y m).map pr:=by unfold lH;rw[QU];rfl
 rw[e];simp![↓jA];exact q
noncomputable def eK(w:Wd)(x:Str):LJ:=(w.ps.filter λp=>decide (p.1=x)).map λp=>p.2.1
def gQ:PSp where
 run:=λh Q _=>∃(w:Wd) (x:Str) (r:Int),h=[.d (wD w),.d (.str x)]/\w.ps.9<=90/\(eK w x)[0]?=kx r/\Q (.d (.int r)) []
theorem Ib:CD Ψ cK gQ GP iM:=by
 rintro _ Q _ ⟨w,x,r,rfl,l,a,q⟩;refine bA [bD (wD w),bD (.str x)] ?_;delta cK;simp![↓eV];rw[<- fA xG];refine dA (λp=>T.d (xG p)) (λp=>T.d (.int p.2.1)) (λp=>decide (p.1=x)) w.ps [] _ (λp z R h=>?_) (by show 0+w.ps.9<=_;omega) ?_;simp![↓LL,↓bu];split at h;rename_i c;rw[tt c];exact h;rename_i c;rw[th c];exact h;rw[Qb,fA λp:Str×Int×Int×Int=>j0 p.2.1];have e:((w.ps.filter λp=>decide (p.1=x)).map λp=>j0 p.2.1)=(eK w x).map j0:=by unfold eK;rw[QU];rfl
 rw[e];have y:BD ((eK w x).map j0) 0=kx (.int r):=VF (j:=0) (by rw[QX,a];rfl);simp![y];exact q
noncomputable def mG(w:Wd)(x:Str):LJ:=(w.ps.filter λp=>decide (p.1=x)).map λp=>p.2.2.1
def dM:PSp where
 run:=λh Q _=>∃(w:Wd) (x:Str) (r:Int),h=[.d (wD w),.d (.str x)]/\w.ps.9<=90/\(mG w x)[0]?=kx r/\Q (.d (.int r)) []
theorem L6:CD Ψ cI dM IN DK:=by
 rintro _ Q _ ⟨w,x,r,rfl,l,a,q⟩;refine bA [bD (wD w),bD (.str x)] ?_;delta cI;simp![↓eV];rw[<- fA xG];refine dA (λp=>T.d (xG p)) (λp=>T.d (.int p.2.2.1)) (λp=>decide (p.1=x)) w.ps [] _ (λp z R h=>?_) (by show 0+w.ps.9<=_;omega) ?_;simp![↓LL,↓xu];split at h;rename_i c;rw[tt c];exact h;rename_i c;rw[th c];exact h;rw[Qb,fA λp:Str×Int×Int×Int=>j0 p.2.2.1];have e:((w.ps.filter λp=>decide (p.1=x)).map λp=>j0 p.2.2.1)=(mG w x).map j0:=by unfold mG;rw[QU];rfl
 rw[e];have y:BD ((mG w x).map j0) 0=kx (.int r):=VF (j:=0) (by rw[QX,a];rfl);simp![y];exact q
noncomputable def oI(ks:List Pt):T:=.dct kf (ks.map pr) (ks.map λ_=>T.d (.bool kf))
noncomputable def GN(ks:List Pt)(p:Pt):List Pt:=if p∈ks then ks else ks++[p]
theorem xV(ks:List Pt)(p:Pt):(GN ks p).9<=ks.9+1:=by unfold GN;split;omega;simp
theorem RO{α h:Type}(c:h):∀(l:List α) (n:Nat),(l.map λ_=>c).set n c=l.map λ_=>c
 |[],_=>rfl|_::_,0=>rfl|x::l,n+1=>by show c::(l.map λ_=>c).set n c=_;rw[RO c l n];rfl
theorem Ge{p:Pt}{Q:T->Prop}(hl:ks.9<kb)(q:Q (oI (GN ks p))):Ua (oI ks) (.d (pr p)) (.d (.bool kf)) Q:=by
 refine#[TB p,by rw[QC];exact hl,?_];show Q (OJ kf (ks.map pr) (ks.map λ_=>T.d (.bool kf)) (pr p) (.d (.bool kf)));unfold GN at q;unfold OJ;by_cases c:p∈ks;rw[tt c]at q;cases e:cA (ks.map pr) (pr p) with|none=>exact ti (XQ.mpr c) (FA.mp e)|some n=>show Q (.dct kf (ks.map pr) ((ks.map λ_=>T.d (.bool kf)).set n (.d (.bool kf))));rw[RO];exact q
 rw[th c]at q;rw[FA.mpr λz=>c (XQ.mp z)];unfold oI at q;rw[QR,QR]at q;exact q
theorem lr{q:Pt}:KB .In (.d (pr q)) (oI ks) L=L (decide (q∈ks)):=by unfold oI;rw[x9,uH];exact t3 #[λh=>h.2,λh=>#[TB q,h]]
theorem Tl{q:Pt}:KB .NotIn (.d (pr q)) (oI ks) L=L (!decide (q∈ks)):=by unfold oI;rw[JN,uH];exact t3 #[λh=>h.2,λh=>#[TB q,h]]
def bC(h:List Evt)(ks:List Pt)(n:Nat):List Pt:=match BA h n with
 | .see _ p m _=>GN ks (p,m)|_=>ks
def rB(h:List Evt)(l:LN):List Pt:=l.foldl (bC h) []
noncomputable def Lf:Evt->Str
 | .see _ _ _ _=>"see"|.tell _ _ _ _ _ _=>"tell"
end
section
variable{e:Evt}{n m:Bool}{R:T->Prop}{t:Int}{p h w:Str}
theorem V4:UA (.d (fE e)) n (.d (.int 0)) m R=R (.d (.str (Lf e))):=by cases e;exact YA (i:=0) rfl;exact YA (i:=0) rfl
theorem Mn:UA (.d (fE (.see t p h w))) n (.d (.int 2)) m R=R (.d (.str p)):=YA (i:=2) rfl
theorem Ze:UA (.d (fE (.see t p h w))) n (.d (.int 3)) m R=R (.d (.str h)):=YA (i:=3) rfl
end
section
variable{Ψ:PEv}{ks hs:List Pt}{a b:Str}{L:Bool->Prop}{ns:LJ}
theorem rD{c a b:Prop}[Decidable c](h:¬ c)(q:b):if c then a else b:=by rw[th h];exact q
def Nu(h:List Evt)(l:LN)(ks:List Pt)(o3:Option Sl):kA:=[bD (.list (h.map fE)),kx (.bor (.lst (l.map λn=>T.d (nD n)))),oW (oI ks),o3]
def iI:PSp where
 md:=[.fro,.shal]
 run:=λx Q _=>∃(h:List Evt) (l:LN),x=[.d (.list (h.map fE)),.lst ((l.map nD).map T.d)]/\l.9<=100/\(∀n∈l,n<h.9)/\Q (oI (rB h l)) []
theorem Eb:CD Ψ nF iI sJ rH:=by
 rintro _ Q _ ⟨h,l,rfl,hl,i,q⟩;refine bA [bD (.list (h.map fE)),kx (.bor (.lst ((l.map nD).map T.d))),kv,kv] ?_;delta nF;simp![↓jA];rw[<- fA nD];refine ZB (λn=>T.d (nD n)) (λr y=>∃ks z,r.foldl (bC h) ks=rB h l/\ks.9+r.9<=100/\(∀n∈r,n<h.9)/\y=Nu h l ks z) ?_ ?_ l _ #[[],kv,rfl,by simpa using hl,i,rfl];rintro y ⟨ks,z,e,_,_,rfl⟩;have e:ks=rB h l:=e;subst e;delta Nu;simp![↓jA];exact q;rintro n r y N g ⟨ks,z,e,hk,v,rfl⟩;have f:ks.9+(r.9+1)<=100:=hk;have k:=v n QF;delta Nu;delta rG;simp![↓JS k,↓V4];have e:r.foldl (bC h) (bC h ks n)=rB h l:=e;unfold bC at e;cases ev:BA h n with|see t p m w=>rw[ev]at e;simp![Lf,↓Mn,↓Ze];rw[JS k,ev];simp![↓Ze];exact#[(),Ge (p:=(p,m)) () (g _ #[GN ks (p,m),_,e,by have:=xV ks (p,m);omega,λx u=>v x (QG _ u),rfl])]|tell t a b m w j=>rw[ev]at e;refine rD (show decide ((QY "tell")=(QY "see"))≠kf by decide) ?_;exact g _ #[ks,_,e,(),λx u=>v x (QG _ u),rfl]
theorem UX:KB .In (.d (.tuple [.str a,.str b])) (oI ks) L=L (decide ((a,b)∈ks)):=lr (q:=(a,b))
theorem iZ:KB .NotIn (.d (.tuple [.str a,.str b])) (oI ks) L=L (!decide ((a,b)∈ks)):=Tl (q:=(a,b))
noncomputable def SF(w:Wd)(ks:List Pt)(m:Str):LS:=(w.ps.filter λp=>decide ((p.1,m)∈ks)).map λp=>p.1
def Gm(h:T)(ks:List Pt):Prop:=∀a b (L:Bool->Prop),KB .In (.d (.tuple [.str a,.str b])) h L=L (decide ((a,b)∈ks))
theorem Dq(ks:List Pt):Gm (oI ks) ks:=λ_ _ _=>UX
theorem Cq(ks:List Pt):Gm (.d (oI ks).er) ks:=λa b L=>by
 have e:ersT (ks.map λ_=>T.d (.bool kf))=ks.map λ_=>PyData.bool true:=by rw[uJ,QU];rfl
 show(∃k,(NC ((ks.map pr).zip (ersT _))=kx k∨(ks.map pr).zip (ersT _)=[])/\AC k (pr (a,b))/\L (cA (((ks.map pr).zip (ersT _)).map (·.1)) (pr (a,b))).isSome)=_;rw[e,WB (by rw[QC,QC];exact Qc _),uH];refine t3 #[λ#[_,_,_,h]=>h,λh=>#[kf,?_,TB _,h]];cases ks with|nil=>exact .inr rfl|cons x r=>exact .inl rfl
def uM:PSp where
 md:=[.fro,.bor]
 run:=λx Q _=>∃(w:Wd) (h:T) (ks:List Pt) (m:Str),x=[.d (wD w),h,.d (.str m)]/\(Gm h ks/\w.ps.9<=90)/\Q (.d (.tuple ((SF w ks m).map jk))) []
theorem Kj:CD Ψ kI uM ON iK:=by
 rintro _ Q _ ⟨w,x,ks,m,rfl,⟨hs,l⟩,q⟩;refine bA [bD (wD w),kx (.bor x),bD (.str m)] ?_;delta kI;simp![↓eV];rw[<- fA xG];refine dA (λp=>T.d (xG p)) (λp=>T.d (.str p.1)) (λp=>decide ((p.1,m)∈ks)) w.ps [] _ (λp y R h=>?_) (by show 0+w.ps.9<=_;omega) ?_;simp![↓LL,↓hs _ _ _];refine#[(),?_];split at h;rename_i c;rw[tt c];exact h;rename_i c;rw[th c];exact h;rw[Qb,fA λp:Str×Int×Int×Int=>jk p.1,i7];have e:((w.ps.filter λp=>decide ((p.1,m)∈ks)).map λp=>jk p.1)=(SF w ks m).map jk:=by unfold SF;rw[QU];rfl
 rw[e];simp![↓jA];exact q
theorem Zm{E:XE}{ρ:kA}{a c h:PX}{t u:Str}{x y:D}{v:fv}{R:Option T->Prop}:ZH Ψ E [] [t,u] (.tp [0,1]) (.cmp v a c) h ρ (.d (.tuple [x,y])) R=aS Ψ (.cmp v a c) E (bD x::bD y::lockA ρ) λk z=>if k=kf then jB Ψ h E z λy n _=>uC y n (R (kx y)) else R none:=sB
theorem SY:∀{l:List D},(∀x∈l,x.canLay0=kf/\x.depth<=1)->qi l=kf/\wQ l<=1
 |[],_=>by simp[qi,wQ]|x::l,h=>by let#[v,k]:=h x QF;let#[z,w]:=SY (l:=l) λy u=>h y (QG _ u);simp only[qi,wQ,v,z,Bool.and_self,true_and];omega
theorem Bj{l:List D}(h:∀x∈l,x.canLay0=kf/\x.depth<=1):FF (.list l):=by let#[y,z]:=SY h;refine#[?_,?_];simp only[QAJ];exact y;simp only[QA0];omega
noncomputable def yL(w:Wd)(m:Str):LS:=(w.ag.filter λp=>decide (p.1=m)).map λp=>p.2
noncomputable def jL(w:Wd)(m:Str):LS:=(w.ag.filter λp=>decide (p.2=m)).map λp=>p.1
def OkS(a:Str):Prop:=wF a=kf
def Hm(h:T)(f:Pt->Bool):Prop:=∀a b (L:Bool->Prop),OkS a->OkS b->L (f (a,b))->KB .In (.d (.tuple [.str a,.str b])) h L
theorem Bq(ks:List Pt):Hm (oI ks) λq=>decide (q∈ks):=λa b L _ _ h=>by rw[UX];exact h
theorem G6(h:∀p∈hs,OkS p.1/\OkS p.2):FF (.list (hs.map pr)):=Bj λx z=>by let#[p,y,rfl]:=QN.mp z;have q:=PD (h p y).1 (h p y).2;exact#[q.1,by simp[pr,QA0,wQ]]
theorem l8(h:∀p∈hs,OkS p.1/\OkS p.2):Hm (.d (.list (hs.map pr))) λq=>decide (q∈hs):=λa b L z hb q=>by
 refine#[.inr #[PD z hb,G6 h],?_];have e:((hs.map pr).any λy=>Qt y (.tuple [.str a,.str b]))=decide ((a,b)∈hs):=by rw[QB9,qG,wJ,Az];constructor;rintro⟨p,x,e⟩;have e:Qt (pr p) (pr (a,b))=true:=e;rw[dX,Az]at e;exact e▸x;intro x;refine#[(a,b),x,?_];show Qt (pr (a,b)) (pr (a,b))=kf;rw[dX];exact dT rfl
 show L ((hs.map pr).any λy=>Qt y (.tuple [.str a,.str b]));rw[e];exact q
def sQ:PSp where
 md:=[.fro,.bor]
 run:=λy Q _=>∃(w:Wd) (h:T) (f:Pt->Bool) (x m:Str),y=[.d (wD w),h,.d (.str x),.d (.str m)]/\(Hm h f/\OkS x/\∀p∈w.ag,OkS p.1/\OkS p.2)/\w.ag.9<=100/\Q (.d (.bool ((yL w m++jL w m).any λr=>f (x,r)))) []
theorem Sj:CD Ψ pE sQ CH vG:=by
 rintro _ Q _ ⟨w,u,f,x,m,rfl,⟨g,v,z⟩,l,q⟩;have X:=Qu (λp:Str×Str=>decide (p.1=m)) w.ag;have s:=Qu (λp:Str×Str=>decide (p.2=m)) w.ag;have o:(yL w m).9<=100:=by unfold yL;rw[QC];omega
 have n:(jL w m).9<=100:=by unfold jL;rw[QC];omega
 refine bA [bD (wD w),kx (.bor u),bD (.str x),bD (.str m),kv] ?_;delta pE;simp![↓Ot];rw[<- fA pr w.ag];refine dA (λp=>T.d (pr p)) (λ(p:Str×Str)=>T.d (.str p.2)) (λp=>decide (p.1=m)) w.ag [] _ (λp k R y=>?_) (by show 0+w.ag.9<=_;omega) ?_;delta pr;simp![↓Zm];split at y;rename_i c;rw[tt c];exact y;rename_i c;rw[th c];exact y;rw[Qb,fA λp:Str×Str=>jk p.2];have j:((w.ag.filter λp=>decide (p.1=m)).map λp=>jk p.2)=(yL w m).map jk:=by unfold yL;rw[QU];rfl
 rw[j];refine dA (λp=>T.d (pr p)) (λ(p:Str×Str)=>T.d (.str p.1)) (λp=>decide (p.2=m)) w.ag [] _ (λp k R y=>?_) (by show 0+w.ag.9<=_;omega) ?_;delta pr;simp![↓Zm];split at y;rename_i c;rw[tt c];exact y;rename_i c;rw[th c];exact y;rw[Qb,fA λp:Str×Str=>jk p.1];have i:((w.ag.filter λp=>decide (p.2=m)).map λp=>jk p.1)=(jL w m).map jk:=by unfold jL;rw[QU];rfl
 rw[i,<- QR,<- QR];refine#[by rw[QC,QC,QC,QC];omega,?_];simp![↓jA];rw[<- fA jk];refine uB (λr=>T.d (.str r)) (λr=>T.d (.bool (f (x,r)))) (yL w m++jL w m) [] _ (λr k R y=>?_) (by show 0+(yL w m++jL w m).9<=_;rw[QI];omega) ?_;simp![↓jA];refine#[(),g _ _ _ v ?_ y];rcases Qe.mp k with h|h;let#[p,e,rfl]:=QN.mp h;exact(z p (QS.mp e).1).2;let#[p,e,rfl]:=QN.mp h;exact(z p (QS.mp e).1).1;rw[Qb,fA λr=>PyData.bool (f (x,r)),xq];refine#[(yL w m++jL w m).map λr=>f (x,r),by rw[QU];rfl,?_];rw[QB9];simp![↓jA];exact q
theorem yq{n:Bool}{Q:T->Bool->Prop}(x:ns.9<64)(q:∀h:LJ,h.Perm ns->h.Pairwise (·<=·)->Q (.lst ((h.map j0).map T.d)) kf):iS .sorted [(.lst ((ns.map j0).map T.d),n)] Q:=by unfold iS vC;rw[cF];exact .inr (.inr #[_,ns,rfl,HA _,x,q])
theorem Xc{l:LN}(h:ns.Perm (l.map λ(n:Nat)=>(n:Int)))(z:ns.Pairwise (·<=·)):∃y:LN,ns=y.map (λ(n:Nat)=>(n:Int))/\y.Perm l/\y.Pairwise (·<=·):=by
 have e:ns=(ns.map QCa).map λ(n:Nat)=>(n:Int):=by rw[QU];refine(QCV ns).symm.trans (wI λx u=>?_);let#[n,_,rfl]:=QN.mp (h.mem_iff.mp u);rfl
 refine#[ns.map QCa,e,?_,?_];have:=h.map QCa;rw[QU]at this;refine this.trans (QCU.of_eq ?_);exact(wI λn _=>rfl).trans (QCV l);rw[e]at z;exact(List.pairwise_map.mp z).imp λh=>()
def gH(h:List Evt)(x:LN)(ks:List Pt):LN:=x.filter λn=>!decide (((FD (BA h n)).1,(FD (BA h n)).2)∈ks)
def HG:PSp where
 md:=[.fro,.shal,.bor]
 run:=λz Q _=>∃(h:List Evt) (x:LN) (ks:List Pt),z=[.d (.list (h.map fE)),.lst ((x.map nD).map T.d),oI ks]/\x.9<64/\(∀n∈x,n<h.9/\UD (BA h n))/\∀y:LN,y.Perm (gH h x ks)->y.Pairwise (·<=·)->Q (.lst ((y.map nD).map T.d)) []
theorem kc:CD Ψ sF HG tJ sH:=by
 rintro _ Q _ ⟨h,x,ks,rfl,l,a,q⟩;refine bA [bD (.list (h.map fE)),kx (.bor (.lst ((x.map nD).map T.d))),kx (.bor (oI ks))] ?_;delta sF;simp![↓jA];rw[<- fA nD];refine dA (λn=>T.d (nD n)) (λn=>T.d (nD n)) (λn=>!decide (((FD (BA h n)).1,(FD (BA h n)).2)∈ks)) x [] _ (λn z R u=>?_) (by show 0+x.9<=_;omega) ?_;simp![↓JS (a n z).1,↓Y4 (a n z).2,↓se (a n z).2,↓iZ];refine#[(),?_];split at u;rename_i c;rw[tt c];exact u;rename_i c;rw[th c];exact u;rw[Qb,fA nD];have e:(gH h x ks).map nD=((gH h x ks).map λ(n:Nat)=>(n:Int)).map j0:=by rw[QU];rfl
 have fl:=Qu (λn=>!decide (((FD (BA h n)).1,(FD (BA h n)).2)∈ks)) x;show iS .sorted [(.lst (((gH h x ks).map nD).map T.d),kf)] _;rw[e];refine yq (by rw[QC];unfold gH;omega) λk w v=>?_;let#[y,rfl,g,f]:=Xc w v;have i:(y.map λ(n:Nat)=>(n:Int)).map j0=y.map nD:=by rw[QU];rfl
 rw[i];simp![↓jA];exact q y g f
def X4(w:Wd)(h:List Pt)(b m:Str):Bool:=!decide ((b,m)∈h)&&(yL w m++jL w m).any λr=>decide ((b,r)∈h)
def PL(w:Wd)(h ks:List Pt)(n:Nat):List Pt:=match BA w.es n with
 | .tell _ a b m _ _=>if X4 w h b m=kf then GN ks (a,b) else ks|_=>ks
def vO(w:Wd)(l:LN):List Pt:=l.foldl (PL w (rB w.es l)) []
def oe(w:Wd)(x:Str):Prop:=∃p∈w.ps,p.1=x
def fL(w:Wd):Evt->Prop
 | .see _ p m h=>oe w p/\m∈w.ms/\OkS h|.tell _ a b m h q=>oe w a/\oe w b/\m∈w.ms/\a≠b/\OkS h/\∀x∈q,oe w x
structure WOk(w:Wd):Prop where
 ag:∀p∈w.ag,OkS p.1/\OkS p.2
 al:w.ag.9<=100
 pl:w.ps.9<=11
 pn:(w.ps.map λp=>p.1).Nodup
 po:∀p∈w.ps,OkS p.1
 ml:w.ms.9<=10
 mo:∀m∈w.ms,OkS m
 mn:w.ms.Nodup
 el:w.es.9<=60
 eo:∀e∈w.es,fL w e
theorem WOk.ev{w:Wd}(h:WOk w){n:Nat}(x:n<w.es.9):fL w (BA w.es n):=by unfold BA;rw[Qq x];exact h.eo _ (wf x)
theorem WOk.nm{w:Wd}(h:WOk w){x:Str}(y:oe w x):OkS x:=by let#[p,z,rfl]:=y;exact h.po p z
end
section
variable{Ψ:PEv}{E:XE}{ρ:kA}{M:List (T×Bool)->kA->Prop}{a z:PX}{md:List Md}{d:D}{n m:Bool}{xs:List (T×Bool)}{C:LT->Prop}{R:T->Prop}{t:Int}{x b h y:Str}{q:LS}
theorem Hs{ks:List Pt}:MS (oI ks) kd Ψ z E md ρ M=BJ Ψ z E md (lockA ρ) λxs _=>M xs ρ:=rfl
theorem Ye:UA (.d (fE (.tell t x b h y q))) n (.d (.int 2)) m R=R (.d (.str x)):=YA (i:=2) rfl
theorem Je:UA (.d (fE (.tell t x b h y q))) n (.d (.int 3)) m R=R (.d (.str b)):=YA (i:=3) rfl
theorem ae:UA (.d (fE (.tell t x b h y q))) n (.d (.int 4)) m R=R (.d (.str h)):=YA (i:=4) rfl
end
section
variable{Ψ:PEv}{x:Str}{es:List Pt}{sr:LS}{u:Kn}
def tu(w:Wd)(l:LN)(ks:List Pt)(o4 o5:Option Sl):kA:=[bD (wD w),kx (.bor (.lst (l.map λn=>T.d (nD n)))),oW (oI (rB w.es l)),oW (oI ks),o4,o5]
def TF:PSp where
 md:=[.fro,.shal]
 run:=λh Q _=>∃(w:Wd) (l:LN),h=[.d (wD w),.lst ((l.map nD).map T.d)]/\WOk w/\l.9<=100/\(∀n∈l,n<w.es.9)/\Q (oI (vO w l)) []
theorem C6(K:Ψ.sp "seen_among"=iI)(W:Ψ.sp "has_against"=sQ):CD Ψ gE TF VH jG:=by
 rintro _ Q _ ⟨w,l,rfl,k,hl,X,q⟩;refine bA [bD (wD w),kx (.bor (.lst ((l.map nD).map T.d))),kv,kv,kv,kv] ?_;delta gE;simp![↓GL,↓zA (md:=[.fro,.shal]) K rfl rfl,↓kB,↓XZ];refine#[_,_,rfl,hl,X,?_];simp![↓jA];rw[<- fA nD];refine ZB (λn=>T.d (nD n)) (λr i=>∃h o j,r.foldl (PL w (rB w.es l)) h=vO w l/\h.9+r.9<=100/\(∀n∈r,n<w.es.9)/\i=tu w l h o j) ?_ ?_ l _ #[[],kv,kv,rfl,by simpa using hl,X,rfl];rintro i ⟨h,o,j,e,_,_,rfl⟩;have e:h=vO w l:=e;subst e;delta tu;simp![↓jA];exact q;rintro n r i N f ⟨h,o,j,e,hk,z,rfl⟩;have Y:h.9+(r.9+1)<=100:=hk;have s:=z n QF;have v:=k.ev s;have e:r.foldl (PL w (rB w.es l)) (PL w (rB w.es l) h n)=vO w l:=e;unfold PL at e;delta tu;delta GF;simp![↓GL,↓JS s,↓V4];cases ev:BA w.es n with|see t p m Z=>rw[ev]at e;refine rD (show decide ((QY "see")=(QY "tell"))≠kf by decide) ?_;exact f _ #[h,_,_,e,(),λx y=>z x (QG _ y),rfl]|tell t a b m Z A=>rw[ev]at e v;let#[C,hb,B,_]:=v;simp![Lf,↓Ye,↓Je,↓ae,↓iZ,↓zA (md:=[.fro,.bor]) W rfl rfl,↓kB,↓XZ,↓Hs];refine#[(),?_];unfold X4 at e;by_cases c:(b,m)∈rB w.es l;simp![dT c];simp only[dT c,Wr,QAF,Qr,if_false]at e;exact f _ #[h,_,_,e,(),λx y=>z x (QG _ y),rfl];simp![dF c];refine#[_,_,_,_,_,rfl,#[Bq _,k.nm hb,k.ag],k.al,?_];simp![↓jA];by_cases g:((yL w m++jL w m).any λr=>decide ((b,r)∈rB w.es l))=kf;simp![g];simp only[dF c,g,wz,WK,if_true]at e;exact#[(),Ge (p:=(a,b)) () (f _ #[GN h (a,b),_,_,e,by have:=xV h (a,b);omega,λx y=>z x (QG _ y),rfl])];rw[th g];simp only[dF c,wz,WK]at e;rw[th g]at e;exact f _ #[h,_,_,e,(),λx y=>z x (QG _ y),rfl]
theorem LY{hs:List Pt}(h:∀p∈hs,OkS p.1/\OkS p.2){a b:Str}{L:Bool->Prop}(y:OkS a)(hb:OkS b)(q:L (!decide ((a,b)∈hs))):KB .NotIn (.d (.tuple [.str a,.str b])) (.d (.list (hs.map pr))) L:=l8 h a b (λc=>L (!c)) y hb q
def zT(w:Wd)(x:Str):Int:=((eK w x)[0]?).getD 0
def dN(w:Wd)(x:Str):Int:=((mG w x)[0]?).getD 0
theorem Oa{w:Wd}(h:oe w x):(eK w x)[0]?=kx (zT w x):=by
 let#[p,z,rfl]:=h;have y:p.2.1∈eK w p.1:=QN.mpr #[p,QS.mpr #[z,dT rfl],rfl];unfold zT;cases e:eK w p.1 with|nil=>rw[e]at y;cases y|cons x r=>rfl
theorem X8{w:Wd}(h:oe w x):(mG w x)[0]?=kx (dN w x):=by
 let#[p,z,rfl]:=h;have y:p.2.2.1∈mG w p.1:=QN.mpr #[p,QS.mpr #[z,dT rfl],rfl];unfold dN;cases e:mG w p.1 with|nil=>rw[e]at y;cases y|cons x r=>rfl
def Ju(w:Wd)(wr hs:List Pt):Evt->Bool
 | .see _ _ _ _=>kf|.tell _ a b m _ _=>decide ((a,m)∈hs)&&!decide ((a,b)∈wr)&&decide (dN w b<=zT w a)&&!((yL w m++jL w m).any λr=>decide ((b,r)∈hs))
def OX(hs:List Pt):Prop:=∀p∈hs,OkS p.1/\OkS p.2
def bY:PSp where
 md:=[.fro,.fro,.bor,.fro]
 run:=λz Q _=>∃(w:Wd) (e:Evt) (y h:List Pt),z=[.d (wD w),.d (fE e),oI y,.d (.list (h.map pr))]/\WOk w/\fL w e/\OX h/\Q (.d (.bool (Ju w y h e))) []
theorem Pp(Y:Ψ.sp "rank_of"=gQ)(X:Ψ.sp "floor_of"=dM)(s:Ψ.sp "has_against"=sQ):CD Ψ iF bY EN CK:=by
 rintro _ Q _ ⟨w,e,f,y,rfl,h,o,i,q⟩;refine bA [bD (wD w),bD (fE e),kx (.bor (oI f)),bD (.list (y.map pr)),kv,kv,kv] ?_;cases e with|see t p m l=>delta iF;simp![↓V4,Lf];exact q|tell t a b m l Z=>let#[j,hb,n,_]:=o;delta iF;simp![↓V4,Lf];refine rD (show decide ((QY "tell")=(QY "see"))≠kf by decide) ?_;simp![↓Ye,↓Je,↓ae,↓Vm];refine#[(),LY i (h.nm j) (h.mo _ n) ?_];have q:Q (.d (.bool (decide ((a,m)∈y)&&!decide ((a,b)∈f)&&decide (dN w b<=zT w a)&&!((yL w m++jL w m).any λr=>decide ((b,r)∈y))))) []:=q;by_cases k:(a,m)∈y;simp![dT k,↓UX];rw[dT k]at q;refine#[(),?_];by_cases v:(a,b)∈f;simp![dT v];rw[dT v]at q;exact q;simp![dF v,↓zA (md:=[]) Y rfl rfl,↓zA (md:=[]) X rfl rfl];rw[dF v]at q;have g:w.ps.9<=90:=QZ h.pl (by decide);refine#[_,_,_,rfl,g,(Oa j),?_];simp![↓jA];refine#[_,_,_,rfl,g,(X8 hb),?_];simp![↓Jr];by_cases z:dN w b<=zT w a;simp![dT z,↓zA (md:=[.fro,.bor]) s rfl rfl,↓kB,↓XZ];rw[dT z]at q;refine#[_,_,_,_,_,rfl,#[l8 i,h.nm hb,h.ag],h.al,?_];simp![↓jA];exact q;simp![dF z];rw[dF z]at q;exact q;simp![dF k];rw[dF k]at q;exact q
noncomputable abbrev Kn:=List ((List Pt×LS)×LS)
def A1(u:Kn):List D:=u.map λx=>kE x.1.1 x.1.2
def Bk(u:Kn):LT:=u.map λx=>T.d (.list (x.2.map jk))
def y4(u:Kn):T:=.dct kf (A1 u) (Bk u)
def zO(w:Wd)(u:Kn):Prop:=∀x∈u,∀y,y∈x.2↔Held x.1.1 x.1.2 (VB w) y
theorem Be:∀l:LS,tDs (l.map NK.s)=l.map jk
 |[]=>rfl|x::l=>by show jk x::tDs (l.map NK.s)=_;rw[Be l];rfl
theorem Ce:∀l:List Pt,tDs (l.map λp=>NK.t [.s p.1,.s p.2])=l.map pr
 |[]=>rfl|x::l=>by show pr x::tDs (l.map λp=>NK.t [.s p.1,.s p.2])=_;rw[Ce l];rfl
theorem Ap:∀l:LS,nkds (l.map NK.s)=0
 |[]=>rfl|x::l=>by show max 0 (nkds (l.map NK.s))=0;rw[Ap l];rfl
theorem Ep:∀l:List Pt,nkds (l.map λp=>NK.t [.s p.1,.s p.2])<=1
 |[]=>Qs _|x::l=>by show max 1 (nkds (l.map λp=>NK.t [.s p.1,.s p.2]))<=1;have:=Ep l;omega
theorem nR(es:List Pt)(sr:LS):AC kf (kE es sr):=by refine#[[.t (sr.map NK.s),.t (es.map λp=>NK.t [.s p.1,.s p.2])],?_,?_];show _=PyData.tuple [.tuple (tDs (sr.map NK.s)),.tuple (tDs (es.map λp=>NK.t [.s p.1,.s p.2]))];rw[Be,Ce];rfl;show max (nkds (sr.map NK.s)+1) (max (nkds (es.map λp=>NK.t [.s p.1,.s p.2])+1) 0)+1<=6;rw[Ap];have:=Ep es;omega
theorem ya{v:List Pt}{z:LS}(h:kE es sr=kE v z):es=v/\sr=z:=by injection h with h;injection h with h1 h2;injection h2 with h2 _;injection h1 with h1;injection h2 with h2;refine#[(QBo λx y e=>?_).mp h2,(QBo λx y e=>?_).mp h1];injection e with e;injection e with e1 e2;injection e2 with e2 _;injection e1 with e1;injection e2 with e2;exact QCL e1 e2;injection e
theorem Uk{v:LS}{Q:T->Prop}(hl:u.9<kb)(h:cA (A1 u) (kE es sr)=kv)(q:Q (y4 (u++[((es,sr),v)]))):Ua (y4 u) (.d (kE es sr)) (.lst ((v.map jk).map T.d)) Q:=by refine#[nR es sr,by unfold A1;rw[QC];exact hl,?_];show Q (OJ kf (A1 u) (Bk u) (kE es sr) (.d (.list (ersT ((v.map jk).map T.d)))));unfold OJ;rw[h,JA];unfold y4 A1 Bk at q;rw[QR,QR]at q;exact q
theorem Hf{k:Nat}(h:cA (A1 u) (kE es sr)=kx k):∃v,((es,sr),v)∈u/\(Bk u)[k]?=kx (T.d (.list (v.map jk))):=by
 have e:=aC h;unfold A1 at e;unfold Bk;rw[QX]at e ⊢;cases z:u[k]? with|none=>rw[z]at e;cases e|some x=>rw[z]at e;let#[w,y]:=ya (Qp e);let#[#[a,b],v]:=x;cases w;cases y;exact#[v,Qw z,rfl]
end
section
variable{Ψ:PEv}{E:XE}{ρ:kA}{K:TK}{M:List (T×Bool)->kA->Prop}{a b c i g:PX}{md:List Md}{m:Bool}{f:Kn}{es:List Pt}{sr:LS}{L:Bool->Prop}{R:T->Prop}
section
variable{u:List (Str×LS)}{w:Str}
theorem ye:KB .NotIn (.d (.tuple [.tuple (sr.map jk),.tuple (es.map pr)])) (y4 f) L=L (!(cA (A1 f) (kE es sr)).isSome):=by unfold y4;rw[JN];exact t3 #[λh=>h.2,λh=>#[nR es sr,h]]
theorem du{v:LS}{k:Nat}(h:cA (A1 f) (kE es sr)=kx k)(hv:(Bk f)[k]?=kx (T.d (.list (v.map jk))))(q:R (.d (.list (v.map jk)))):UA (y4 f) kd (.d (.tuple [.tuple (sr.map jk),.tuple (es.map pr)])) m R:=.inr #[kf,_,_,k,_,rfl,nR es sr,h,hv,q]
theorem iz:z5 (y4 f) kd Ψ b E ρ K=jB Ψ b E (lockA ρ) λy m _=>K y m ρ:=rfl
noncomputable def YR(u:List (Str×LS)):T:=.dct kd (u.map λx=>.str x.1) (u.map λx=>T.d (.list (x.2.map jk)))
theorem Of{v:LS}{Q:T->Prop}(hl:u.9<kb)(h:w∉u.map λx=>x.1)(q:Q (YR (u++[(w,v)]))):Ua (YR u) (.d (.str w)) (.d (.list (v.map jk))) Q:=by refine#[#[w,rfl],by rw[QC];exact hl,?_];show Q (OJ kd (u.map λx=>.str x.1) (u.map λx=>T.d (.list (x.2.map jk))) (.str w) (.d (.list (v.map jk))));unfold OJ;rw[FA.mpr λz=>h (by let#[x,y,e]:=QN.mp z;injection e with e;exact QN.mpr #[x,y,e])];unfold YR at q;rw[QR,QR]at q;exact q
theorem Pf(h:w∈u.map λx=>x.1)(q:∀v,(w,v)∈u->R (.d (.list (v.map jk)))):UA (YR u) kd (.d (.str w)) m R:=by
 cases e:cA (u.map λx=>jk x.1) (.str w) with
 |none=>let#[x,l,j]:=QN.mp h;exact ti (QN.mpr #[x,l,aj jk j]) (FA.mp e)|some k =>
  have j:=aC e;rw[QX]at j;cases z:u[k]? with|none=>rw[z]at j;cases j|some x=>rw[z]at j;have j:jk x.1=.str w:=Qp j;injection j with j;let#[y,v]:=x;cases j;exact .inr #[kd,_,_,k,T.d (.list (v.map jk)),rfl,#[_,rfl],e,by rw[QX,z];rfl,q v (Qw z)]
theorem Ex:z5 (YR u) kd Ψ b E ρ K=jB Ψ b E (lockA ρ) λy m _=>K y m ρ:=rfl
theorem Hw{v:Bool}{mk:List Bool}{t:Str}{x:T}{z:fv}{R:Option T->Prop}:ZH Ψ E (v::mk) [t] (.nm 0) (.cmp z a c) g ρ x R=aS Ψ (.cmp z a c) E (kx (.bor x)::PB (v::mk) (lockA ρ)) λk h=>if k=kf then jB Ψ g E h λy n _=>uC y n (R (kx y)) else R none:=rfl
end
end
theorem yJ{c a b:Prop}[Decidable c](h:c)(q:a):if c then a else b:=by rw[tt h];exact q
def lV(w:Wd)(l h:LN)(m x:Str):Prop:=Held (lH w.es h m) (SF w (rB w.es l) m) (VB w) x
open Classical in
def Vn(w:Wd)(l h:LN)(x m:Str):Bool:=decide (lV w l h m x)
open Classical in
section
variable{Ψ:PEv}{Z:PEnds}{w:Wd}{l u:LN}{f:Kn}{g:List (Str×LS)}{m:Str}{o8 o9 o7:Option Sl}
theorem UR(w:Wd)(l u:LN)(x m:Str):Vn w l u x m=kf↔lV w l u m x:=by unfold Vn;exact Az
noncomputable def t8(w:Wd)(l u:LN)(x:Str):List Pt:=(w.ms.filter (Vn w l u x)).map λm=>(x,m)
def BE(w:Wd)(l u:LN):List Pt:=w.ps.flatMap λp=>t8 w l u p.1
def T3(w:Wd)(u:LN):Prop:=u.9<=100/\∀n∈u,n<w.es.9/\UD (BA w.es n)
def Ox(Q:T->LT->Prop):PEnds:={ nx:=λh=>DQ (rA [3] h) (Q (.d .none)),rt:=λt h=>DQ (rA [3] h) (Q t) }
def D2(w:Wd)(l u:LN)(f:Kn)(g:List (Str×LS))(o6 o7 o8 o9:Option Sl):kA:=[bD (wD w),kx (.bor (.lst ((l.map nD).map T.d))),bD (.list (u.map nD)),oW (y4 f),oW (oI (rB w.es l)),oW (YR g),o6,o7,o8,o9]
def xa(w:Wd)(l u:LN)(m:Str):T:=.d (kE (lH w.es u m) (SF w (rB w.es l) m))
theorem Rf{k:Nat}{v:LS}(hl:g.9<kb)(y:m∉g.map λx=>x.1)(h:cA (A1 f) (kE (lH w.es u m) (SF w (rB w.es l) m))=kx k)(hv:(Bk f)[k]?=kx (T.d (.list (v.map jk))))(q:Z.nx (D2 w l u f (g++[(m,v)]) (bD (.str m)) (kx (.bor (xa w l u m))) o8 o9)):pF Ψ IC Z (D2 w l u f g (bD (.str m)) (kx (.bor (xa w l u m))) o8 o9):=by delta D2 xa kE;delta IC;simp![↓iz];refine du h hv ?_;simp![↓jA];exact Of hl y q
theorem j5(w:Wd)(ks:List Pt)(m:Str):(SF w ks m).9<=w.ps.length:=by unfold SF;rw[QC];exact Qu _ _
theorem G8(h:List Evt)(u:LN)(m:Str):(lH h u m).9<=u.length:=by unfold lH;rw[QC];exact Qu _ _
theorem U4(h:WOk w)(hv:T3 w u)(m:Str):MF (lH w.es u m) (SF w (rB w.es l) m):=by constructor;intro s z;let#[p,v,rfl]:=QN.mp z;exact h.po p (QS.mp v).1;intro e k;let#[n,y,rfl]:=QN.mp k;have y:=(QS.mp y).1;let#[a,t,x,b,j,i,q,e]:=hv.2 n y;have:=h.ev a;rw[e]at this ⊢;exact#[h.nm this.1,h.nm this.2.1]
theorem Pv(E:Ψ.sp "seers_of"=uM)(C:Ψ.sp "edges_of"=fM)(p:Ψ.sp "holders_in"=LG)(b:WOk w)(hv:T3 w u)(hk:zO w f)(B:f.9<=20000)(hl:g.9<1000)(o:m∉g.map λx=>x.1)(q:∀h v,zO w h->h.9<=f.9+1->(∀y,y∈v↔lV w l u m y)->Z.nx (D2 w l u h (g++[(m,v)]) (bD (.str m)) (kx (.bor (xa w l u m))) o8 o9)):pF Ψ YD Z (D2 w l u f g (bD (.str m)) o7 o8 o9):=by
 have J:=b.pl;have I:=j5 w (rB w.es l) m;have G:=G8 w.es u m;have F:=hv.1;delta D2;delta YD;simp![↓GL,↓zA (md:=[.fro,.bor]) E rfl rfl,↓zA (md:=[]) C rfl rfl,↓zA (md:=[]) p rfl rfl,↓kB,↓XZ,↓Hs];refine#[_,_,_,_,rfl,#[Dq _,()],?_];simp![↓jA];refine#[_,_,_,rfl,hv.1,hv.2,?_];simp![↓ye];refine#[(),?_];cases e:cA (A1 f) (kE (lH w.es u m) (SF w (rB w.es l) m)) with
 |some k=>let#[v,s,r]:=Hf e;refine rD (λz=>by cases z) ?_;exact Rf () o e r (q f v hk () (hk _ s))|none =>
  refine yJ rfl ?_;simp![↓zA (md:=[]) p rfl rfl];refine#[_,kf,_,_,rfl,#[(),(),U4 b hv m,(),b.pn],λv i A=>?_];simp![↓jA];refine Uk () e ?_;have K:cA (A1 (f++[((lH w.es u m,SF w (rB w.es l) m),v)])) (kE (lH w.es u m) (SF w (rB w.es l) m))≠none:=λz=>FA.mp z (QN.mpr #[_,QW _ (QJ.mpr rfl),rfl]);have n:zO w (f++[((lH w.es u m,SF w (rB w.es l) m),v)]):=λx a=>by rcases Qe.mp a with a|a;exact hk x a;rw[QJ.mp a];exact i
  cases j:cA (A1 (f++[((lH w.es u m,SF w (rB w.es l) m),v)])) (kE (lH w.es u m) (SF w (rB w.es l) m)) with|none=>exact ti j K|some k=>let#[X,W,Y]:=Hf j;exact Rf () o j Y (q _ X n (by rw[QI];exact Qc _) (n _ W))
theorem M3{b:PT}{p:PSp}{N x:LS}{ds:LT}{Q:T->LT->Prop}(ρ:kA)(h:pF Ψ b (Ox Q) ρ)(hl:ds.9=x.length:=by rfl)(hc:BB 0 p.md x.9=[3]:=by rfl)(hs:EA N p.md ds=ρ:=by rfl):ds.9=x.9/\pF Ψ b (iC p x.9 Q) (EA N p.md ds):=by
 have e:iC p x.9 Q=Ox Q:=by unfold iC;rw[hc];rfl
 rw[e,hs];exact#[hl,h]
def HD:PSp where
 md:=[.fro,.shal,.fro,.chg]
 run:=λx Q _=>∃(w:Wd) (l u:LN) (f:Kn),x=[.d (wD w),.lst ((l.map nD).map T.d),.d (.list (u.map nD)),y4 f]/\(WOk w/\l.9<=100/\∀n∈l,n<w.es.9)/\T3 w u/\(zO w f/\f.9<=10000)/\∀h,zO w h->h.9<=f.9+10->Q (.lst (((BE w l u).map pr).map T.d)) [y4 h]
theorem vZ(h:WOk w)(l u:LN)(x:Str):(t8 w l u x).9<=10:=by unfold t8;rw[QC];exact QZ (Qu _ _) h.ml
theorem Ov{h:List Pt}{o6:Option Sl}{p:Str×Int×Int×Int}(k:WOk w)(j:g.map (λx=>x.1)=w.ms)(i:∀x∈g,∀y,y∈x.2↔lV w l u x.1 y)(hl:h.9<=1000)(q:Z.nx (D2 w l u f g o6 o7 (oW (.lst (((h++t8 w l u p.1).map pr).map T.d))) (bD (xG p)))):pF Ψ JD Z (D2 w l u f g o6 o7 (oW (.lst ((h.map pr).map T.d))) (bD (xG p))):=by
 have n:=k.ml;have a:=vZ k l u p.1;delta D2;delta JD;simp![↓GZ];rw[<- fA jk];refine dA (λm=>T.d (.str m)) (λm=>T.d (pr (p.1,m))) (Vn w l u p.1) w.ms [] _ (λm b R z=>?_) (by show 0+w.ms.9<=_;omega) ?_;simp![↓Hw,↓LL,↓Ex];refine Pf (j▸b) λv hv=>?_;have e:decide (p.1∈v)=Vn w l u p.1 m:=by rw[qG,Az];exact(i _ hv p.1).trans (UR w l u p.1 m).symm
 simp![fC,UB,SA,true_or,e];split at z;rename_i c;rw[tt c];exact#[(),z];rename_i c;rw[th c];exact z;rw[Qb,fA λm=>pr (p.1,m)];have e:((w.ms.filter (Vn w l u p.1)).map λm=>pr (p.1,m))=(t8 w l u p.1).map pr:=by unfold t8;rw[QU];rfl
 rw[e,<- QR,<- QR];exact#[by rw[QC,QC,QC,QC];omega,q]
theorem xc(I:Ψ.sp "seen_among"=iI)(G:Ψ.sp "seers_of"=uM)(F:Ψ.sp "edges_of"=fM)(E:Ψ.sp "holders_in"=LG):CD Ψ YF HD JJ iH:=by
 rintro _ Q _ ⟨w,l,u,f,rfl,⟨j,hl,B⟩,hv,⟨hk,C⟩,q⟩;have O:=j.ml;have M:=j.pl;refine M3 [bD (wD w),kx (.bor (.lst ((l.map nD).map T.d))),bD (.list (u.map nD)),oW (y4 f),kv,kv,kv,kv,kv,kv] ?_;delta YF;simp![↓GL,↓GZ,↓zA (md:=[.fro,.shal]) I rfl rfl,↓kB,↓XZ];refine#[_,_,rfl,hl,B,?_];simp![↓GZ];rw[<- fA jk];refine ZB (λm=>T.d (.str m)) (λr b=>∃h g a o7,g.map (λx=>x.1)++r=w.ms/\(zO w h/\h.9+r.9<=f.9+w.ms.9)/\(∀x∈g,∀y,y∈x.2↔lV w l u x.1 y)/\b=D2 w l u h g a o7 kv kv) ?_ ?_ w.ms _ #[f,[],kv,kv,rfl,#[hk,Qc _],(λx i=>by cases i),rfl];rintro b ⟨h,g,a,o7,e,⟨s,n⟩,Y,rfl⟩;have e:g.map (λx=>x.1)=w.ms:=by rw[<- e,qF]
 have n:h.9<=f.9+w.ms.length:=n;delta D2;simp![↓eV];rw[<- fA xG];refine#[(),?_];refine ZB (λp=>T.d (xG p)) (λr b=>∃k a o7 o9,k++r.flatMap (λp=>t8 w l u p.1)=BE w l u/\k.9+10 * r.9<=200/\b=D2 w l u h g a o7 (oW (.lst ((k.map pr).map T.d))) o9) ?_ ?_ w.ps _ #[[],_,_,kv,rfl,by show 0+10 * w.ps.9<=200;omega,rfl];rintro b ⟨k,a,o7,o9,e3,_,rfl⟩;have e3:k=BE w l u:=by rw[<- e3];exact(qF k).symm
 subst e3;delta D2;simp![↓jA];exact q h s ();rintro p r b N X ⟨k,a,o7,o9,e3,W,rfl⟩;have W:k.9+10 * (r.9+1)<=200:=W;have K:=vZ j l u p.1;refine Ov j e Y () (X _ #[k++t8 w l u p.1,a,o7,_,?_,by rw[QI];omega,rfl]);rw[Q0];exact e3;rintro m r b N X ⟨h,g,a,o7,e,⟨s,n⟩,Y,rfl⟩;have n:h.9+(r.9+1)<=f.9+w.ms.length:=n;have A:g.9+(r.9+1)=w.ms.length:=by rw[<- e,QI,QC];rfl
 have nd:=j.mn;rw[<- e]at nd;refine Pv G F E j hv s () () (λz=>(qP.mp nd).2.2 m z m QF rfl) λo v L P J=>X _ #[o,g++[(m,v)],_,_,?_,#[L,()],?_,rfl];rw[QR,Q0];exact e;intro x i;rcases Qe.mp i with i|i;exact Y x i;rw[QJ.mp i];exact J
end
end L2.L3.K52
namespace L2.L3
open PySem PySem.Spec PyProof.Rows PySem.W PySem.SeqAt
noncomputable def Lx(ks:List (Int×Int))(i j:Nat):Bool:=decide ((ks.getD i (0,0)).1<(ks.getD j (0,0)).1∨(ks.getD i (0,0)).1=(ks.getD j (0,0)).1/\(ks.getD i (0,0)).2<(ks.getD j (0,0)).2)
noncomputable def Ut{α:Type}(lt:Nat->Nat->Bool):KasT α->α
 | .ret a=>a|.ask i j k=>Ut lt (k (lt i j))
def GS(ks:List (Int×Int))(n:Nat):Array Nat:=if n<2 then qB (Qo n) else Ut (Lx ks) (kas_sort n)
theorem cC.ev{α:Type}{n:Nat}{P:α->Prop}(lt:Nat->Nat->Bool):∀{t:KasT α},cC n P t->P (Ut lt t)
 | .ret _,h=>h|.ask i j k,#[_,_,h]=>cC.ev (t:=k (lt i j)) lt (h _)
theorem cC.wpE{α:Type}{n:Nat}{P:α->Prop}{lt:Nat->Nat->Bool}{x:Nat->Nat->(Bool->kt->Prop)->kt->Prop}{Q:α->kt->Prop}{s:kt}(y:∀i j,i<n->j<n->∀C:Bool->kt->Prop,C (lt i j) s->x i j C s):∀{t:KasT α},cC n P t->Q (Ut lt t) s->t.kasWp x Q s
 | .ret _,_,q=>q|.ask i j _,#[h1,h2,h],q=>y i j h1 h2 _ (cC.wpE y (h _) q)
def VD(h:x0)(v:kn)(p:Int×Int):Prop:=∃a o n t u,v=.ref a/\h.get? a=kx o/\o.cls=.type "tuple"/\o.data=.seq (qB [Value.int p.1 t,Value.int p.2 u]) n
theorem VD.keep{h h':x0}{v:kn}{x:Int×Int}{c:ko}{u:Obj}(e:h.get? c=kx u)(hc:u.cls≠.type "tuple")(k:∀b o,b≠c->h.get? b=kx o->h'.get? b=kx o)(t:VD h v x):VD h' v x:=by let#[a,o,n,t,r,f,y,w,d]:=t;exact#[a,o,n,t,r,f,k _ _ (λz=>by rw[z,e]at y;cases y;exact hc w) y,w,d]
section
variable{prog:vu}{w:x2}{A:y1}{E:ZC}{s:kt}
section
variable{vs:LW}{r f:ko}{a b c:Int}{t u v:Tok}{n:Nat}{kz:List (Int×Int)}
theorem pk{v u:kn}{x y:Int×Int}{Q:Bool->kt->Prop}(hv:VD s.1 v x)(z:VD s.1 u y)(q:Q (decide (x.1<y.1∨x.1=y.1/\x.2<y.2)) s):ku (k4 prog w) A (keyLt' (tuples' kf) v u) Q E s:=by let#[a,o,n,t,r,rfl,g,_,j]:=hv;let#[b,p,X,l,m,rfl,k,_,i]:=z;refine kat_lt g j k i (kat_cons (QAk ?_));by_cases e:x.1=y.1;rw[e,beq_self_eq_true];refine kat_yes (kat_cons (QAk ?_));by_cases h:x.2=y.2;rw[h,beq_self_eq_true];refine kat_yes (kat_nil ?_);rw[show decide (x.1<y.1∨x.1=y.1/\x.2<y.2)=kd from dF ()]at q;exact q;rw[beq_false_of_ne h];refine kat_no (kat_one _ _ (PyProof.Rows.lt_int ?_));rw[show decide (x.1<y.1∨x.1=y.1/\x.2<y.2)=decide (x.2<y.2) from decide_eq_decide.mpr ()]at q;exact q;rw[beq_false_of_ne e];refine kat_no (oneLt_int ?_);rw[show decide (x.1<y.1∨x.1=y.1/\x.2<y.2)=decide (x.1<y.1) from decide_eq_decide.mpr ()]at q;exact q
theorem j8{ns:List (Int×Int)}{Q:SortKind->kt->Prop}(l:yn (VD s.1) vs ns)(K:2<=vs.9)(q:Q (tuples' kf) s):ku (k4 prog w) A (keyKind' vs.toArray) Q E s:=by
 have key:∀{vs:LW}{ns:List (Int×Int)},yn (VD s.1) vs ns->∃fs,KatTups s.1 vs fs/\fs.9=vs.9/\∀f∈fs,∃x t,f=.int x t:=by
  intro vs ns h;induction h with
  |nil=>exact#[[],.nil,rfl,λ_ z=>(nomatch z)]
  |@cons v x Z Y h _ e=>let#[fs,j,i,g]:=e;let#[a,o,n,t,r,rfl,p,hc,X]:=h;refine#[.int x.1 t::fs,.cons (f:=.int x.1 t) p hc X (by simp) j,by rw[QK,QK,i],λf m=>?_];rcases QL.mp m with rfl|z;exact#[_,_,rfl];exact g f z
 let#[fs,k,W,y]:=key l;exact kat_kind (T:=.type "int") k () (λv hv=>by let#[x,t,rfl]:=y v hv;exact .of_pure rfl) (by decide) q
theorem RH{α x:Type}{R:α->x->Prop}{d:α}{e:x}:∀{l:List α}{m:List x},yn R l m->∀i,i<l.9->R (l.getD i d) (m.getD i e)
 |_,_,.nil,i,h=>ti h (Nat.not_lt_zero _)|_,_,.cons r _,0,_=>r|_,_,.cons _ t,i+1,h=>RH t i (wg h)
theorem HK{α x:Type}{R:α->x->Prop}:∀{l z:List α}{m y:List x},yn R l m->yn R z y->yn R (l++z) (m++y)
 |_,_,_,_,.nil,h=>h|_,_,_,_,.cons r t,h=>.cons r (HK t h)
theorem sO{Q:LW->kt->Prop}(Y:A.handled=kv)(q:pR s.1 r a b c t u v)(x:QBT a b c=kf)
  (X:WM a b c=n) (z:n<=2 ^ 24)
  (h:∀h' g y,(∀b o,s.1.get? b=kx o->h'.get? b=kx o)->s.1.1.size<h'.1.size->ItemsOf (λi v=>∃t,v=.int (a+i * c) t) y n->Q y.toList { s with heap:=h',toks:=g }) :
  ku (k4 prog w) A (collect (.ref r)) Q E s:=by
 unfold collect;refine QE (wpAny_runValue (Wz F.entry_proto_collect ?_));rw[wx F.plain_proto_collect _];show ku _ A.in1 (newList [] >>= λl=>again (.builtin "list.__iadd__" #[[l,.ref r],[]])) _ _ s;refine QE (qJ ?_);refine QM #[QBl QBy _,Wz F.entry_list_iadd ?_];rw[wx QBy _];have Z:(s.1.push { cls:=.type "list",data:=.seq ([]:LW).toArray }).get? s.1.1.size=kx { cls:=.type "list",data:=.seq #[] }:=QV _ rfl;show ku _ A.in1 (Builtin.List.listExtendWith (.ref s.1.1.size) (.ref r) (.ref s.1.1.size)) _ _ _;refine wpAny_extend_range (R:=λr j=>match r with | .ok (.ret v)=>ku (k4 prog w) A (match v with | .ref a=>(do let o <- load a;match o.data with | .seq m _=>p7 m.toList|_=>unsupported "internal:collect")|_=>unsupported "internal:collect") Q E j | .ok _=>False | .error e=>E e j) (s:={ s with heap:=s.1.push { cls:=.type "list",data:=.seq ([]:LW).toArray } }) Y (QH _ q) x X z _ _ _ Z λh' g y W p k it=>?_;show ku _ A (load s.1.1.size >>= _) _ _ _;refine QE (wpAny_load k ?_);exact QM (h h' g y (λb o e=>p b o (Qk (Qa e)) (QH _ e)) (Qa k) it)
theorem Jk{a:ko}{P:PySem.Fin->kt->Prop}(ho:s.1.get? a=kx (p8 "list" vs.toArray n))(h64:vs.9<64)(hl:kz.9=vs.9)
  (hf:∀(h:x0) (g:Nat),(∀b o,b≠a->s.1.get? b=kx o->h.get? b=kx o)->∀(i:Nat) (x:kn) (p:Int×Int),vs[i]?=kx x->kz[i]?=kx p->∀C:kn->kt->Prop,
   (∀Z m k,(∀b o,h.get? b=kx o->Z.get? b=kx o)->VD Z k p->C k { s with heap:=Z,toks:=m })->ku (k4 prog w) A (bb (.ref f) [x]) C (λ_ _=>False) { s with heap:=h,toks:=g })
  (k:∀(p:Array Nat) (h':x0) (g c:Nat),Pm vs.9 p->p=GS kz vs.9->(∀b o,b≠a->s.1.get? b=kx o->h'.get? b=kx o)->h'.get? a=kx (p8 "list" (p.toList.map λi=>vs.getD i j1).toArray c)->P (.done (.ret .none)) { s with heap:=h',toks:=g }) :
  ku (k4 prog w) A (ksk_tree a (.ref f) kd) P E s:=by
 have ha:a<s.1.1.size:=Qa ho;have s1:=Q5 s.1 a (Q6 λ_=>(#[]:Array kn));obtain⟨G,ho1⟩:∃G,(s.1.update a (Q6 λ_=>(#[]:Array kn))).get? a=kx (p8 "list" #[] G):=#[_,W4 ho λ_=>#[]]
 generalize hH:((s.1.update a (Q6 λ_=>(#[]:Array kn))).push (p8 "tuple" vs.toArray 0))=hT;have S:hT.1.size=s.1.1.size+1:=by rw[<- hH,size_push',QCI]
 have kS0:(hT.push (p8 "list" #[] 0)).get? hT.1.size=kx (p8 "list" #[] 0):=QV _ rfl;have a0:(hT.push (p8 "list" #[] 0)).get? a=kx (p8 "list" #[] G):=QH _ (by rw[<- hH];exact QH _ ho1);have kp0:∀b o,b≠a->s.1.get? b=kx o->(hT.push (p8 "list" #[] 0)).get? b=kx o:=λb o hb e=>QH _ (by rw[<- hH];exact QH _ ((s1.2 b hb).trans e));have naK:a≠hT.1.size:=by rw[S];exact Qk (wv ha)
 unfold ksk_tree;refine QE (QB7 ho rfl (QE (WQ ho rfl ?_ (by rw[QO];omega) (Qs _))));refine QE (QBQ ho1 rfl (QE (QBI ?_ (by show vs.9<=_;omega))));refine QE (QAd (wA ?_) (Qs _));rw[hH];generalize hK:hT.1.size=kS at *;have fin:∀(y:LW) (e:Nat) (h:x0) (g:Nat) (st:SortSt) (p:Array Nat),y.9=vs.9->h.get? kS=kx (p8 "list" (qB y) e)->h.get? a=kx (p8 "list" #[] G)->(∀b o,b≠a->s.1.get? b=kx o->h.get? b=kx o)->Pm vs.9 p->p=GS kz vs.9 ->
   (arrOf st).map (·.2)=qB (p.toList.map λi=>vs.getD i j1)->tv st=kv->ku (k4 prog w) A (ksk_tail a kd G (.ref kS) st) P E { s with heap:=h,toks:=g }:=by
  intro y e h g st p Y hk l I pm H hout N;have t1:=Q5 h kS (Q6 λ_=>(#[]:Array kn));have R:=(t1.2 a naK).trans l;have t2:=Q5 (h.update kS (Q6 λ_=>(#[]:Array kn))) a (Q6 λ_=>qB (p.toList.map λi=>vs.getD i j1));have hps:(p.toList.map λi=>vs.getD i j1).9=vs.length:=by rw[QC,(qQ.mp pm).length_eq];simp
  unfold ksk_tail;dsimp only;rw[hout];refine QE (WQ hk rfl ?_ (by rw[QO,Q7];omega) (Qs _));refine QE (wpAny_letGo (QE (QBQ R rfl (QE (WQ R rfl ?_ (Qs _) (by simp only[Qr,if_false];rw[QO,Q7];omega))))));rw[N];simp only[bne_self_eq_false,Qr,if_false];refine QM (k p _ g _ pm H (λb o hb e=>?_) (W4 R λ_=>qB (p.toList.map λi=>vs.getD i j1)));have O:b≠kS:=λz=>by have:=Qa e;rw[z,S]at this;exact ti this (Nat.not_lt.mpr (wY _))
  exact(t2.2 b hb).trans ((t1.2 b O).trans (I b o hb e))
 have L:∀(y:LW) (e:Nat) (h:x0) (g:Nat),yn (VD h) y kz->h.get? kS=kx (p8 "list" (qB y) e)->h.get? a=kx (p8 "list" #[] G)->(∀b o,b≠a->s.1.get? b=kx o->h.get? b=kx o) ->
   ku (k4 prog w) A (ksk_end a kd vs.toArray G (.ref kS) (qB y)) P E { s with heap:=h,toks:=g }:=by
  intro y e h g B hk l I;have Y:y.9=vs.length:=(qC B).trans hl;unfold ksk_end;dsimp only;simp only[Qr,if_false];by_cases h2:vs.9<2;have F:vs.toArray.size<2:=by rw[QO];exact h2
  rw[tt F,tt F];refine QE (QM ?_);rw[QCT];refine QE (QM ?_);refine fin y e h g _ (qB (Qo vs.9)) Y hk l I (QCS _) (tt h2).symm ?_ rfl;show((qB y).zip vs.toArray).map (·.2)=_;rw[zP];apply WA.mp;simp[WC,Y];have F:¬ vs.toArray.size<2:=by rw[QO];exact h2
  rw[th F,th F];refine QE (j8 (s:={ s with heap:=h,toks:=g }) B () ?_);have tree:(kas_sort vs.9).kasWp (kas_ask prog w A (tuples' kf) y) (λp W=>W={ s with heap:=h,toks:=g }/\Pm vs.9 p/\p=GS kz vs.9) { s with heap:=h,toks:=g } :=
   cC.wpE (lt:=Lx kz) (λi j hi hj C hC=>pk (s:={ s with heap:=h,toks:=g }) (RH B i ()) (RH B j ()) hC) (DN ()) #[rfl,(DN ()).ev _,(th h2).symm]
  refine QE (qt (kat_run (Q:=λK W=>∃p:Array Nat,arrOf K=p.map (kas_item ((qB y).zip vs.toArray))/\tv K=kv/\W={ s with heap:=h,toks:=g }/\Pm vs.9 p/\p=GS kz vs.9) Y () h64 (λp K W _ a2 a3 a4=>#[p,a2,a3,a4]) tree) ?_ λ_ _ x=>x);rintro⟨⟨⟩,K⟩ W ⟨p,har,N,rfl,pm,H⟩;exact fin y e h g K p Y hk l I pm H (kat_snds Y har) N
 unfold ksk_rest;refine QE (QBt ?_);rw[List.forIn_toArray];refine QE (ksk_fold (λj W=>∃(y:LW) (e:Nat) (h:x0) (g:Nat),W={ s with heap:=h,toks:=g }/\yn (VD h) y (kz.take j)/\h.get? kS=kx (p8 "list" (qB y) e)/\h.get? a=kx (p8 "list" #[] G)/\(∀b o,b≠a->s.1.get? b=kx o->h.get? b=kx o)/\j<=vs.9) vs 0 _ #[[],0,_,s.toks,rfl,.nil,kS0,a0,kp0,Qs _] (λj x W hx hI=>?_) λW hI=>?_);let#[y,e,h,g,rfl,B,hk,l,I,jl]:=hI;rw[Wg]at B jl ⊢;have jv:j<vs.length:=(Qf.mp hx).1;have hkl:y.9=j:=by rw[qC B,w6];omega
 have hzj:kz[j]?=kx (kz[j]'()):=Qq _;refine QE (Wt (qt (hf h g I j x _ hx hzj (λJ W=>∃Z m,W={ s with heap:=Z,toks:=m }/\(∀b o,h.get? b=kx o->Z.get? b=kx o)/\VD Z J (kz[j]'())) λZ m J X ka=>#[Z,m,rfl,X,ka]) (λJ W hc=>?_) λ_ _ z=>z.elim));let#[Z,m,rfl,X,ka]:=hc;have ea:(qB y).push J=qB (y++[J]):=by simp
 have s5:=Q5 Z kS (Q6 (·.push J));have M:=X _ _ hk;dsimp only;refine QE (WQ M rfl ?_ (by rw[QO,Q7];omega) (QZ (wW (Array.size_push ..)) (by rw[QO,Q7];omega)));refine QM #[rfl,y++[J],_,_,m,rfl,?_,by rw[<- ea];exact W4 M (·.push J),(s5.2 a naK).trans (X _ _ l),λb o hb q=>?_,jv];have H:∀{v:kn}{x:Int×Int},VD Z v x->VD (Z.update kS (Q6 (·.push J))) v x:=λt=>t.keep M (by show Value.type "list"≠Value.type "tuple";decide) λb o hb q=>(s5.2 b hb).trans q;rw[List.take_succ,hzj];exact HK (L2.Paired.mapP B λ_ _ #[a1,o1,n1,t1,r1,G,g1,c1,d1]=>H #[a1,o1,n1,t1,r1,G,X _ _ g1,c1,d1]) (.cons (H ka) .nil);have O:b≠kS:=λz=>by have:=Qa q;rw[z,S]at this;exact ti this (Nat.not_lt.mpr (wY _))
 exact(s5.2 b O).trans (X _ _ (I b o hb q));let#[y,e,h,g,rfl,B,hk,l,I,_]:=hI;rw[Wg,<- hl,List.take_length]at B;exact QE (QB7 hk rfl (L y e h g B hk l I))
theorem Fa{Q:ZC}(S:A.handled=kv)(N:pR s.1 r a b c t u v)(y:QBT a b c=kf)
  (R:WM a b c=n) (h64:n<64) (hl:kz.9=n)
  (H:∀(Y:x0) (z:Nat),(∀b o,s.1.get? b=kx o->Y.get? b=kx o)->∀(i:Nat) (Z:Tok) (p:Int×Int),kz[i]?=kx p->∀C:kn->kt->Prop,
   (∀I W k,(∀b o,Y.get? b=kx o->I.get? b=kx o)->VD I k p->C k { s with heap:=I,toks:=W })->ku (k4 prog w) A.in1.in1 (bb (.ref f) [Value.int (a+i * c) Z]) C (λ_ _=>False) { s with heap:=Y,toks:=z })
  (k:∀(p:Array Nat) (vs:LW) (D:ko) (h':x0) (z e:Nat),Pm n p->p=GS kz n->(∀b o,s.1.get? b=kx o->h'.get? b=kx o)->s.1.1.size<=D->vs.9=n->(∀(i:Nat) x,vs[i]?=kx x->∃t,x=Value.int (a+i * c) t) ->
   h'.get? D=kx (p8 "list" (p.toList.map λi=>vs.getD i j1).toArray e)->Q (.ref D) { s with heap:=h',toks:=z }) :
  ku (k4 prog w) A (bb (.builtin "sorted") [.ref r] [(QY "key",.ref f)]) Q E s:=by
 refine call_function_entry_kw kind_sorted plain_sorted entry_sorted (ksk_s1 _ _) ?_;unfold Builtin.«sorted»;refine QE (m:=checkCount "sorted" 1 1 _) (QM ?_);refine QE (sO S N y R () λg K h l G it=>?_);have M:h.toList.9=n:=by rw[Q1];exact it.1
 refine QE (QAd ?_ (by rw[Q7];omega));have X:(g.push (p8 "list" h.toList.toArray 0)).get? g.1.size=kx (p8 "list" h.toList.toArray 0):=QV _ rfl;have j:∀b o,s.1.get? b=kx o->(g.push (p8 "list" h.toList.toArray 0)).get? b=kx o:=λb o q=>QH _ (l b o q);refine QE (wA (wpAny_call_entry_kw tj #[_,X,rfl] sn ?body (ksk_l1 _ _)))
 case body =>
  show ku (k4 prog w) A.in1.in1 (Builtin.«list.sort» #[[.ref g.1.size],[(QY "key",.ref f)]]) _ _ _;rw[ksk_t1];have nD:∀b o,s.1.get? b=kx o->b≠g.1.size:=λb o q=>Qk (Qa (l b o q));refine Jk (s:={ s with heap:=g.push (p8 "list" h.toList.toArray 0),toks:=K }) (kz:=kz) X () () (λY z B i x p F O C hC=>?_) λp h' z c L J B P=>#[_,rfl,QM #[_,rfl,?_]]
  let#[Z,rfl]:=it.2 i x (by rw[<- F,wq]);exact H Y z (λb o q=>B b o (nD b o q) (j b o q)) i Z p O C hC;rw[M]at L J;exact k p h.toList _ h' z c L J (λb o q=>B b o (nD b o q) (j b o q)) (QAy G) M (λi x F=>it.2 i x (by rw[<- F,wq])) P
end
end
section
variable{U Z p2 W V Y X K:Pos}
noncomputable abbrev E7(U Z p2 W V Y X:Pos):Expr:=.Tuple [.Subscript (.Subscript (.Name "events" U) (.Name "number" Z) p2) (.Constant (.int 1) 0 W) V,.Name "number" Y] 0 X
noncomputable abbrev Rc(K:Pos):Arguments:={ posonlyargs:=[],args:=[{ arg:="number",annotation:=kv,pos:=K }],vararg:=kv,kwonlyargs:=[],kw_defaults:=[],kwarg:=kv,defaults:=[] }
noncomputable abbrev GW:Scope:={ kind:=.function,names:=[(QY "number",.local),(QY "events",.free)],isGenerator:=kd,isCoroutine:=kd,more:=[] }
variable{prog:vu}{w:x2}{A:y1}{E:ZC}{s:kt}
section
variable{h h':x0}{y n:ko}{i:Nat}{g:Int}{l:Tok}
def BO(h:x0)(y:ko)(i:Nat)(g:Int):Prop:=∃(x z:Array kn) (t:ko) (u:Tok),(h.IsList y x∨Tz h y x)/\x[i]?=kx (.ref t)/\i<2 ^ 62/\x.size<2 ^ 62/\Tz h t z/\z[1]?=kx (.int g u)/\z.size<2 ^ 62
theorem BO.keepB{P:ko}{m:Array kn}(p:h.get? P=kx (tabObj m))(k:∀b o,b≠P->h.get? b=kx o->h'.get? b=kx o)(x:BO h y i g):BO h' y i g:=by
 let#[f,j,t,u,a,b,c,q,#[o,d],e]:=x;have v:∀{b:ko}{o:Obj}{T:String},h.get? b=kx o->o.cls=.type T->b≠P:=λe c z=>by rw[z,p]at e;cases e;cases c
 refine#[f,j,t,u,?_,b,c,q,#[o,k _ _ (v d.1 d.2.1) d.1,d.2],e];rcases a with⟨o,a⟩| ⟨o,a⟩
 exact .inl #[o,k _ _ (v a.1 a.2.1) a.1,a.2];exact .inr #[o,k _ _ (v a.1 a.2.1) a.1,a.2]
theorem BO.keep(z:∀b o,h.get? b=kx o->h'.get? b=kx o)(x:BO h y i g):BO h' y i g:=by
 let#[v,k,t,u,a,b,c,f,#[o,d],e]:=x;refine#[v,k,t,u,?_,b,c,f,#[o,z _ _ d.1,d.2],e];rcases a with⟨o,a⟩| ⟨o,a⟩
 exact .inl #[o,z _ _ a.1,a.2];exact .inr #[o,z _ _ a.1,a.2]
theorem T7{env:Env}{L:ko}{m:Str->Option kn}{Q:ZC}(hk:env.scope=GW)(G:env.cells.lookup (QY "events")=kx n)(hc:s.1.IsCell n (kx (.ref y)))
  (S:env.locals=L) (P:s.1.Ns L m) (R:m "number"=kx (.int i l)) (F:BO s.1 y i g)
  (q:∀J u,Q (.ref s.1.1.size) { s with heap:=s.1.push { cls:=.type "tuple",data:=.seq (qB [Value.int g u,Value.int i l]) },toks:=J }) :
  ku (k4 prog w) A (hE (E7 U Z p2 W V Y X) env) Q E s:=by
 have N:env.kindOf "number"=kx .local:=by show env.scope.names.lookup _=_;rw[hk];rfl
 have O:env.kindOf "events"=kx .free:=by show env.scope.names.lookup _=_;rw[hk];rfl
 have k:env.scope.kind=.function:=by rw[hk]
 let#[C,B,t,u,a,b,c,c2,d,e,c3]:=F;subst S;have v:∀{p:Pos}{Q:ZC}(z:kt),z.1=s.1->Q (.int i l) z->ku (k4 prog w) A (hE (.Name "number" p) env) Q E z:=λz I q=>QA6 (QA7 k N (by rw[I];exact P) R q) (by decide);refine QBM ?_;show ku _ _ (li ((kd,hE (.Subscript (.Subscript (.Name "events" U) (.Name "number" Z) p2) (.Constant (.int 1) 0 W) V) env)::fy X (yl [.Name "number" Y] env))) _ _ s;refine WN (QBq (QBq (QA6 (QBL k O G hc (v _ rfl ?_) (by decide)) (by decide))));have o:(0:Int)<=(i:Int):=Int.natCast_nonneg i;have f:(i:Int)<2 ^ 63:=by omega (config:={})
 have M:∀{Q:ZC},Q (.ref t) s->ku (k4 prog w) A (rn (.Name "events" U) (.Name "number" Z) (.ref y) (.int i l)) Q E s:=λ{Q} q=>by rcases a with a|a;exact item_listR a o f (by simpa using b) q;have I:i<C.size:=(W9.mp b).1;exact qf (x:=.ref t) a.typeIs QAA.lookup (QBh (j:=i) (Q:=λr z=>r=.ref t/\Q r z) a (by omega (config:={})) f (by rw[QAb o (by omega (config:={}))];simp) b #[rfl,q])
 refine M (QBd ?_);have H:1<B.size:=(W9.mp e).1;refine qf (x:=.int g u) (s:={ s with toks:=s.toks+1 }) (show Tz s.1 t B from d).typeIs QAA.lookup (QBh (j:=1) (show Tz s.1 t B from d) (by decide) (by decide) (by rw[QAb (by decide) (by omega (config:={}))];rfl) e #[rfl,?_]);show ku _ _ (li ((kd,hE (.Name "number" Y) env)::fy X (yl [] env))) _ _ _;exact WN (v _ rfl (QAP #[by rw[Q7];show 2<=_;decide,q _ _]))
theorem A7{f L:ko}{z:Str}{N I:kn}{C:ZC}(j:A.depth<dy)(P:s.1.get? f=kx (kla_obj "<lambda>" z (Rc K) (E7 U Z p2 W V Y X) GW [(QY "events",n)] N L I))
  (F:s.1.CodeRec (.ref L) z) (r:s.1.NoLimit) (hc:s.1.IsCell n (kx (.ref y))) (B:BO s.1 y i g)
  (k:∀G p v,(∀b o,s.1.get? b=kx o->G.get? b=kx o)->VD G v (g,(i:Int))->C v { s with heap:=G,toks:=p }) :
  ku (k4 prog w) A (bb (.ref f) [.int i l]) C E s:=by
 refine wpAny_call (kla_callFunE j P rfl rfl rfl rfl F ?_);show ku _ _ (p7 [(QY "number",Value.int i l)]) _ _ _;refine QM (QA8 (show ∀x∈GW.names,x.2≠NameKind.cell by decide) (by intro x O;rcases QJ.mp O with rfl;rfl) (λJ q m=>#[r.fresh _ m,kla_codeExpr ?_]) rfl);have a:∀b o,s.1.get? b=kx o->J.get? b=kx o:=λb o e=>m.extBut b o (Qk (Qa e)) (QH _ e);refine T7 (s:={ s with heap:=J,toks:=s.toks+1 }) rfl rfl (hc.keeps a) rfl q rfl (B.keep a) λM u=>?_;exact k _ M _ (λb o e=>QH _ (a b o e)) #[_,_,_,_,_,rfl,QV _ rfl,rfl,rfl]
end
end
theorem LX{pos:Pos}{a b:Int}{c y:kn}(l:LW)(h:lp l)(g:fb pos (l++[h7 a,h7 b,c])=kx y):fb pos l=kx y∨y=c:=by
 fun_induction lp l with
 |case1=>right;have g:fb pos [h7 a,h7 b,c]=kx y:=g;unfold h7 fb at g;split at g;exact(Qp g).symm;cases g|case2 i t f u x v w=>simp only[QAg,fb]at g ⊢;split at g;rename_i z;rw[tt z];exact .inl g;rename_i z;rw[th z];exact w h g|case3 l e k=>exact h.elim
section
variable{X:Cx}{h:yC}{σ:St}{H:Hp}{s:kt}
theorem _root_.L2.Inv.tabbed{P x:ko}{q:Str}{y:Array kn}{K W:Int}{h':x0}{t':Nat}(I:Inv X h σ H s)(m:H P=kx (.tbl q))(N:s.1.get? P=kx (tabObj y))(A:lp y.toList)(p:∀pos l,fb pos y.toList=kx l->∃c,l=.ref c/\H c=kx (.own P)/\s.1.CodeRec l q)
  (a:Wx P s.1 h') (i:s.1.1.size<=x) (B:h'.CodeRec (.ref x) q) (f:h'.get? P=kx (tabObj (y++(qB [h7 K,h7 W,.ref x])))):H x=kv/\Inv X h σ (CA H x (.own P)) { s with heap:=h',toks:=t' }:=by
 have C:H x=none:=I.hok.fresh i;have w:∀b o,H b=kx o->b≠x:=λb o e z=>by rw[z,C]at e;cases e
 have Z:∀b,H b=kv->b≠P:=λb e z=>by rw[z,m]at e;cases e
 refine#[C,I.un #[λb o e n _ _=>a b o (Z b n) e,λb o e n _ _=>#[o.slots,a b o (Z b n) e],λb o e n _=>?_,λb o e _=>?_,λb F e=>?_,λb o u e=>?_,λb q e=>?_] λb u e=>?_];rw[uA (Qk (Qn (Qa e) i))];exact n;by_cases hb:b=P
 ·exact#[_,hb▸f]
 exact#[o,a b o hb e];rw[uA (w b _ e)];exact e;rw[uA (w b _ e)];exact e;rw[uA (w b _ e)];exact e;by_cases hb:b=x
 ·subst hb
  rw[iA]at e;cases e;let#[c,o,Y,t,M,L,_]:=B;cases M;exact#[o,L]
 rw[uA hb]at e;by_cases j:b=P;subst j;rw[m]at e;cases e;refine#[_,f,?_,λpos l g=>?_];simpa using TriplesOk_snoc K W _ y.toList A;rcases LX y.toList A (by simpa using g) with g|rfl
 ·let#[c,rfl,o,O,ob,Y,G,E,J,r]:=p pos l g
  cases E;refine#[c,rfl,by rw[uA (w c _ o)];exact o,c,ob,Y,G,rfl,a _ _ (λz=>?_) J,r];rw[z,m]at o;cases o
 exact#[x,rfl,iA,B];refine(I.hok b u e).stay (λd v k g=>a d v (λz=>?_) g) (λd g=>by rw[uA (w d _ g)];exact g) λd F g=>by rw[uA (w d _ g)];exact g
 rcases k with k|k;exact j (k.symm.trans z);rw[z,m]at k;cases k
end
def Gx(K:QA)(H:Hp)(xs:LV)(kz:List (Int×Int)):Prop:=kz.9=xs.9/\∀(j:Nat) p,kz[j]?=kx p->p.2=j/\∃t h,xs[j]?=kx (.ref t)/\jE K H t h/\h[1]?=kx (.int p.1)
def Ux(K:QA)(P:ko)(i:Nat):TE:=λz H Q=>∃ev h y,z[i]?=kx (kx (.ref ev))/\(RC K H ev h∨jE K H ev h)/\Gx K H h y/\h.9<64 /\
 ∀(p:Array Nat) x l,Pm h.9 p->p=GS y h.9->(x=H∨∃c,H c=kv/\x=CA H c (.own P))->x l=kv->Q (.ref l) (CA x l (.lst (p.toList.map λ(i:Nat)=>V.int i)))
section
variable{X:Cx}{J G p2 F E B W U Z S M Y g d a O L:Pos}
section
variable{x:yC}{σ:St}{H:Hp}{s:kt}{y:ko}{kz:List (Int×Int)}{i:Nat}{q:Str}
theorem Tq{xs:LV}(I:Inv X x σ H s)(k:RC X.K H y xs∨jE X.K H y xs)(C:Gx X.K H xs kz):∀(j:Nat) p,kz[j]?=kx p->BO s.1 y j p.1:=λj p N=>by let#[_,t,ys,f,Q,P]:=C.2 j p N;have hz:=Q7;let#[h,n,w,R]:=I.tuple Q;let#[u2,o,A]:=n.get P;let#[m,rfl]:=A;have l2:=n.9;have jl:j<xs.length:=(Qf.mp f).1;rcases k with k|k;let#[v,r,b,z]:=I.list k;let#[u,e,q]:=r.get f;cases q;have l:=r.9;exact#[v.toArray,h.toArray,t,m,.inl b.isList,by simpa using e,(),by rw[QO];omega,w,by simpa using o,by rw[QO];omega];let#[v,r,b,z]:=I.tuple k;let#[u,e,q]:=r.get f;cases q;have l:=r.9;exact#[v.toArray,h.toArray,t,m,.inr b,by simpa using e,(),by rw[QO];omega,w,by simpa using o,by rw[QO];omega]
theorem Sd(I:Inv X x σ H s)(v:X.N[i]?=kx (QY "events"))(hs:X.env.scope.names.lookup (QY "events")=kx .cell)(hv:σ[i]?=kx (kx (.ref y))):∃h,X.env.cells.lookup (QY "events")=kx h/\s.1.IsCell h (kx (.ref y)):=by
 let#[m,_,hl]:=I.loc;let#[u,r,l]:=hl i "events" _ v hv (.inr (.inl hs));cases r;rcases l with⟨k,_⟩| ⟨_,c,e,z⟩
 have k:X.env.scope.names.lookup (QY "events")=kx .local:=k;rw[hs]at k;cases k;exact#[c,e,z]
theorem aK{n:Nat}{vs:LW}(hv:∀i,i<n->∃t,vs.getD i j1=.int (i:Int) t):∀l:LN,(∀i∈l,i<n)->oA (l.map λ(i:Nat)=>V.int i) (l.map λi=>vs.getD i j1)
 |[],_=>.nil|i::l,h=>.cons (hv i (h i QF)) (aK hv l λj z=>h j (QG _ z))
theorem mU{R f ce c':ko}{b ctv:kn}{t u v:Tok}{Q:VK}{n:Nat}(I:Inv X x σ H s)(hh:X.A.handled=kv)(z:X.A.in1.in1.depth<dy)
  (ho:s.1.get? f=kx (kla_obj "<lambda>" q (Rc U) (E7 J G p2 F E B W) GW [(QY "events",ce)] b c' ctv)) (m:s.1.CodeRec (.ref c') q) (hc:s.1.IsCell ce (kx (.ref y))) (hev:∀(j:Nat) p,kz[j]?=kx p->p.2=j/\BO s.1 y j p.1)
  (hl:kz.9=n) (h64:n<64) (hr:pR s.1 R 0 n 1 t u v) (k:∀(p:Array Nat) l,Pm n p->p=GS kz n->H l=kv->Q (.ref l) (CA H l (.lst (p.toList.map λ(i:Nat)=>V.int i)))) :
  ku (k4 X.prog X.w) X.A (bb (.builtin "sorted") [.ref R] [(QY "key",.ref f)]) (EP X x σ Q) X.xe s:=by
 refine Fa (n:=n) hh hr (small_one (by decide) (by decide) () ()) (by rw[m5];split<;>omega) h64 hl (λh3 P h j tx p hj C hC=>?_) λp K D h' P e b up h r vl hvs ho'=>?_;let#[e2,ev']:=hev j p hj;have e3:(0:Int)+(j:Int) * 1=(j:Int):=()
 rw[e3];refine A7 (s:={ s with heap:=h3,toks:=P }) z (h _ _ ho) (m.keeps h) (I.nolimit.keeps h) (hc.keeps h) (ev'.keep h) λh4 N v kp4 ka=>hC h4 N v kp4 ?_;rw[<- e2]at ka;exact ka;have pl:∀i∈p.toList,i<n:=λi hi=>by simpa using(qQ.mp b).mem_iff.mp hi
 have ps:p.toList.9=n:=by rw[(qQ.mp b).length_eq];simp
 refine#[.ref D,CA H D (.lst (p.toList.map λ(i:Nat)=>V.int i)),I.laid (t':=P) h r #[by rw[QC,ps,Q7];omega,_,e,aK (λi hi=>?_) p.toList pl,ho'],rfl,k p D b up (I.hok.fresh r)];have o:i<K.length:=()
 let#[t,e]:=hvs i (K[i]) (Qq o);refine#[t,?_];have:K.getD i j1=K[i]:=by simp[o]
 rw[this,e,show(0:Int)+(i:Int) * 1=(i:Int) by omega]
theorem cb{c P:ko}(hN:X.N[i]?=kx (QY "events"))(hs:X.env.scope.names.lookup (QY "events")=kx .cell)(n:X.env.code=.ref c)(hC:CodeHd X.base c P)(hT:DP X.mg X.base P q)(hq:q=X.env.qual++"<lambda>")(hb:X.base.BuiltinsAt X.mg P)(hgP:vx≠P)
  (g1:Gl X "sorted") (m1:X.mg "sorted"=kv) (g2:Gl X "range") (m2:X.mg "range"=kv) (g3:Gl X "len") (m3:X.mg "len"=kv) (hh:X.A.handled=kv) (f:X.A.in1.in1.depth<dy) :
  PE X (.Call (.Name "sorted" S) [.Call (.Name "range" M) [.Call (.Name "len" Y) [.Name "events" g] [] d] [] a] [#[kx "key",.Lambda (Rc U) (E7 J G p2 F E B W) GW Z,O]] L) (Ux X.K P i):=by
 rintro x s σ H Q I ⟨y,xs,kz,hv,hsq,m,h64,k⟩;refine wj (jK I g1 m1 boot_sorted ?_);refine callWith_kw ?_;show ku _ _ (li ((kd,hE (.Call (.Name "range" M) [.Call (.Name "len" Y) [.Name "events" g] [] d] [] a) X.env)::fy L (yl [] X.env))) _ _ s;have paL:PA X [.Call (.Name "len" Y) [.Name "events" g] [] d] _:=CQ (vT gJ g3 m3 boot_len (CQ (v6 hN (.inr (.inl hs))) uW)) uW;refine WN (Call_ (jK I g2 m2 boot_range (callWith_type1 (IB (paL a x s σ H (λvs H1=>vs=[.int xs.9]/\H1=H) I ?_) λus h #[vs,H1,I1,r1,q1]=>?_) rfl rfl)));exact#[_,hv,y,xs,rfl,hsq,rfl,rfl];let#[rfl,rfl]:=q1;cases r1 with
 |cons r rr =>
 cases rr;let#[t,rfl]:=r;refine call_range_1 (QAP (kws_cons (kla_eval rfl ?_)));have w:Inv X x σ H1 { h with heap:=h.1.push { cls:=.type "range",data:=.fields (qB [.int 0 h.toks,.int xs.9 t,.int 1 (h.toks+1)]) },toks:=h.toks+1+1 }:=I1.kept λb o e=>QH _ e;have hr2:pR (h.1.push { cls:=.type "range",data:=.fields (qB [.int 0 h.toks,.int xs.9 t,.int 1 (h.toks+1)]) }) h.1.1.size 0 xs.9 1 h.toks t (h.toks+1):=QV _ rfl;have hP:=w.tb P q hT;let#[ps,hp,ht,hps]:=w.hok P _ hP;let#[ce,hce,hcl]:=Sd w hN hs hv;have R:Lz GW X.env=p7 [(QY "events",ce)]:=by unfold Lz cellOf;simp[hce]
 let#[bm,ob,b1,b2,b3,b4,b5,b6]:=hb;have hb2:=And.intro b1 (And.intro b2 (And.intro b3 (And.intro b4 (And.intro (w.bk _ _ b5) b6))));have evs:=Tq w hsq m;subst hq;cases e:fb Z ps.toList with|none=>refine kla_makeFunction (mg:=X.mg) R I.ok.glob (w.mod.glob.keeps w.bk) n (hC.keeps w.bk) hp ht e hgP #[bm,ob,hb2] λc' ctv h' tk hx hge hlt v htb=>evalAll_nil ?_;let#[hn,I3]:=w.tabbed (t':=tk) hP hp ht hps hx hge v htb;have C:∀{oN:Obj}(b:ko) (o:Obj),h'.get? b=kx o->(h'.push oN).get? b=kx o:=λb o e=>QH _ e;let#[oc,c1,c2]:=hcl;show ku _ _ (bb (.builtin "sorted") [.ref h.1.1.size] [(QY "key",.ref h'.1.size)]) _ _ _;refine mU (I3.kept C) hh f (QV _ rfl) (v.push _) #[oc,C _ _ (hx _ _ (λz=>?_) c1),c2] (λj p hj=>#[(m.2 j p hj).1,((evs j p hj).keepB hp hx).keep C]) m.1 h64 (C _ _ (hx _ _ (λz=>?_) hr2)) λp l pm u hl=>k p _ l pm u (.inr #[c',hn,rfl]) hl;rw[z,hp]at c1;cases c1;cases c2;have z2:=hp.symm.trans (z▸hr2);cases z2|some cv=>let#[c',rfl,_,v]:=hps _ _ e;refine kla_makeFunctionHit (mg:=X.mg) R I.ok.glob (w.mod.glob.keeps w.bk) n (hC.keeps w.bk) hp ht e #[bm,ob,hb2] λctv h' tk kp hge=>evalAll_nil ?_;have C:∀{oN:Obj}(b:ko) (o:Obj),(h.1.push { cls:=.type "range",data:=.fields (qB [.int 0 h.toks,.int xs.9 t,.int 1 (h.toks+1)]) }).get? b=kx o->(h'.push oN).get? b=kx o:=λb o e=>QH _ (kp b o e);show ku _ _ (bb (.builtin "sorted") [.ref h.1.1.size] [(QY "key",.ref h'.1.size)]) _ _ _;exact mU (w.kept C) hh f (QV _ rfl) (v.keeps C) (hcl.keeps C) (λj p hj=>#[(m.2 j p hj).1,(evs j p hj).keep C]) m.1 h64 (C _ _ hr2) λp l pm u hl=>k p _ l pm u (.inl rfl) hl
end
end
noncomputable def lN:D->Option Int
 | .tuple h=>(match h[1]? with|some (j0 t)=>kx t|_=>kv)
 |_=>kv
def vK(h:List D):List (Int×Int):=(Qo h.9).map λ(i:Nat)=>(((h[i]?).bind lN).getD 0,(i:Int))
theorem O2{x:List D}{j:Nat}{p:Int×Int}(h:(vK x)[j]?=kx p):j<x.9/\p=(((x[j]?).bind lN).getD 0,(j:Int)):=by unfold vK at h;rw[QX]at h;by_cases c:j<x.9;rw[WH c]at h;exact#[c,(Qp h).symm];rw[Qz (by simpa using c)]at h;cases h
def Ls(h:List D)(ns:LN):Prop:=ns.Perm (Qo h.9)/\ns=(GS (vK h) h.9).toList
def Dp:PSp where
 run:=λy Q _=>∃h:List D,y=[.d (.list h)]/\h.9<64/\(∀e∈h,∃t,lN e=kx t)/\∀x,Ls h x->Q (.lst (x.map λ(i:Nat)=>.d (.int i))) []
theorem U5{K:QA}{H x:Hp}{a:ko}{xs:LV}(e:Same H x)(h:jE K H a xs):jE K x a xs:=by rcases h with(h|⟨o,h⟩)|h;exact .inl (.inl (e _ _ h));exact .inl (.inr #[o,e _ _ h]);exact .inr h
section
variable{P:vu}{w:x2}{K:QA}{mg:Str->Option kn}{base:x0}{Ψ:PEv}{D C p2 B W U n m g a0 a1 R O N L J I y:Pos}
noncomputable abbrev Rv:Scope:={ kind:=.function,names:=[(QY "events",.cell),(QY "sorted",.globalImplicit),(QY "range",.globalImplicit),(QY "len",.globalImplicit)],isGenerator:=kd,isCoroutine:=kd,more:=[] }
noncomputable abbrev Mx(D C p2 B W U n m g a0 a1 R O N L J I y:Pos):List Stmt:=[.Return (kx (.Call (.Name "sorted" a0) [.Call (.Name "range" a1) [.Call (.Name "len" R) [.Name "events" O] [] N] [] L] [#[kx "key",.Lambda (Rc m) (E7 D C p2 B W U n) GW g,J]] I)) y]
theorem xZ{H F:Hp}{vs:LV}{Q:VK}{E:XK}{T:ko}(h:lift K Dp vs H Q E):vs.9=1/\Ux K T 0 (gD [QY "events"] vs) H λv H'=>Q v H':=by
 let#[F,ts,M,Y,h1,h2,h3,h4,x,rfl,h64,he,q]:=h;cases h2 with
 |chg hm=>cases hm|@rd _ v vs' _ _ Z _ hr _ r =>
 cases r;refine#[rfl,?_];cases hr with
 |d rp hz =>
 cases rp with
 |@lst a xs _ hq rs =>
 have A:xs.9=x.length:=rs.9;have kl:(vK x).9=xs.length:=by unfold vK;rw[QC,qX,A]
 refine#[a,xs,vK x,rfl,.inl (h1.seq hq),#[kl,λj p hj=>?_],by rw[A];exact h64,λp H1 l pm up hH hl=>?_];let#[jl,rfl]:=O2 hj;have G:x[j]?=kx (x[j]'jl):=Qq jl;let#[t,k]:=he _ (wf jl);let#[v,v1,v2]:=rs.get G;refine#[rfl,?_];rw[G];show ∃t ys,_/\_/\ys[1]?=kx (V.int ((lN x[j]).getD 0));rw[k];generalize x[j]=e at *;cases v2 with
 |@tup b ys ds sq rs2 =>
  have k:(match ds[1]? with|some (j0 t)=>kx t|_=>kv)=kx t:=k;cases hd:ds[1]? with
  |none=>rw[hd]at k;cases k|some d =>
   rw[hd]at k;let#[u,u1,u2]:=rs2.get hd;cases u2 with|int i=>cases k;exact#[b,ys,v1,U5 h1 sq,u1]|_=>cases k
 |_=>cases k
 have pn:p.size=x.length:=by have:=pm.size_eq;simpa[A]using this
 have f:H l=none:=by
  rcases hH with rfl|⟨c,hc,rfl⟩
  exact hl;by_cases z:l=c
  ·rw[z];exact hc
  rw[uA z]at hl;exact hl
 have hs:Same H H1:=by
  rcases hH with rfl|⟨c,hc,rfl⟩
  exact λ_ _ e=>e;exact λb o e=>by rw[uA (sA e hc)];exact e
 have s:Same H (CA H1 l (.lst (p.toList.map λ(i:Nat)=>V.int i))):=λb o e=>by rw[uA (sA e f)];exact hs b o e
 have fl:F l=none:=by
  cases z:F l with|none=>rfl|some o=>rw[h1 l o z]at f;cases f
 have X:∀S:LN,Trs K F (CA H1 l (.lst (p.toList.map λ(i:Nat)=>V.int i))) kf (S.map λ(i:Nat)=>V.int i) (S.map λ(i:Nat)=>.d (.int i)) λ_=>False:=λS=>by
  induction S with|nil=>exact .nil λ_ z=>z|cons i r ih=>exact .cons (.d (.int _) λ_ (z:False)=>z) ih (λ_ z=>z.elim) λb=>#[Qd,λz=>z.elim id id]
 refine q p.toList #[?_,?_] (.ref l) F (CA H1 l (.lst (p.toList.map λ(i:Nat)=>V.int i))) (λb=>b=l) (λ_=>False) #[λ_ _ e=>e,λb o e=>s b o (h1 b o e),λb u e _=>s b u e,λb e=>?_,λb e z=>ti e z] (.lst iA fl (X _) (λz=>z) λb=>#[.inl,λz=>z.elim id Qd]) (.nil λ_ z=>z) (λ_ _ z=>z) λb z=>.inr (z.elim (λz=>z▸f) Qd);rw[A]at pm;exact qQ.mp pm;rw[up,A];cases z:H b with|none=>rfl|some o=>rw[s b o z]at e;cases e
theorem zd{f c T:ko}{oc kV v l ct:kn}{M Y:Option ko}{b:Array (Option kn)}{z:nt}{k:Nat}(X:K.In base)(G:base.Ns vx mg)(p:mg "going_order"=kx (.ref f))
  (lk:K.lookup f=kx #[oc,M,.func (fnOf "going_order" "going_order" z (Mx D C p2 B W U n m g a0 a1 R O N L J I y) Rv .none kV v l Y (.ref c) ct),b])
  (j:codeIn K (.ref c) "going_order"=kf) (e:keepIn K (.ref f)=kf) (r:CodeHd base c T) (hb:base.BuiltinsAt mg T) (i:vx≠T) (m1:mg "sorted"=kv) (m2:mg "range"=kv) (m3:mg "len"=kv)
  (u:∀us:LW,us.9=1->c5 (fnOf "going_order" "going_order" z (Mx D C p2 B W U n m g a0 a1 R O N L J I y) Rv .none kV v l Y (.ref c) ct) #[us,[]]=p7 ([QY "events"].zip us)) (hR:Ψ.sp "going_order"=Dp):CG P w K mg base Ψ (k+1) "going_order":=by
 have S:FnScope [QY "events"] [QY "events"] Rv:=#[rfl,rfl,rfl,by decide,rfl,by intro x hx;rcases QJ.mp hx with rfl;exact .inr rfl,by decide]
 refine#[f,_,[QY "events"],?_,p,e,.all u];rw[hR];refine Tf lk j S (λZ H Q E h=>(xZ (T:=T) (F:=H) h).1) λA a s H Z Q E o h=>#[_,tY (E5 (cb (q:=(QY "going_order")++(QY ".<locals>.<lambda>")) rfl rfl rfl r ?_ ?_ hb i rfl m1 rfl m2 rfl m3 o.hd ?_)),(xZ (F:=H) h).2]
 exact#[f,_,_,c,p,X _ _ lk,rfl,rfl,r,rfl];show QY "going_order"++QY ".<locals>.<lambda>"=(QY "going_order"++QY ".<locals>.")++QY "<lambda>";decide;exact WL (QZ (QAn _ (3 * k)) (QAn _ 5)) o.dp
end
end L2.L3
namespace L2.L3.K52
open PySem PySem.Spec PyProof.Rows L2 L2.L3
def oO(a b:Nat):Bool:=decide (a<=b)
def srt(l:LN):LN:=l.mergeSort oO
theorem Yq(a b c:Nat)(x:oO a b=kf)(y:oO b c=kf):oO a c=true:=dT (QZ (u0 x) (u0 y))
theorem Zq(a b:Nat):(oO a b||oO b a)=true:=by rcases Nat.le_total a b with z|z;rw[show oO a b=kf from dT z];rfl;rw[show oO b a=kf from dT z,QB2]
theorem xi(l:LN):(srt l).Pairwise λa b=>a<=b:=(List.pairwise_mergeSort Yq Zq l).imp λz=>u0 z
theorem ui{z l:LN}(h:z.Perm l)(u:z.Pairwise (·<=·)):z=srt l:=QCU.eq_of_pairwise (λa b _ _ x y=>Nat.le_antisymm x y) u (xi l) (h.trans (QBU l oO).symm)
theorem FS(l:LN):(srt l).Perm l:=QBU l oO
noncomputable abbrev Stp:=Nat×Bool×LN×List Pt
structure Gs where
 past:LN
 taken:LN
 held:List Pt
 steps:List Stp
def zn(w:Wd)(g:Gs)(n:Nat):Bool:=Ju w (vO w g.past) g.held (BA w.es n)
def FV(w:Wd)(g:Gs)(n:Nat):LN:=if(zn w g n&&decide (Lf (BA w.es n)="tell"))=kf then g.taken++[n] else g.taken
def nk(w:Wd)(g:Gs)(n:Nat):LN:=srt (gH w.es (FV w g n) (vO w (g.past++[n])))
def Zt(w:Wd)(g:Gs)(n:Nat):List Pt:=BE w (g.past++[n]) (nk w g n)
def EC(w:Wd)(g:Gs)(n:Nat):Gs:=#[g.past++[n],FV w g n,Zt w g n,g.steps++[(n,zn w g n,nk w g n,Zt w g n)]]
def fB(w:Wd)(ns:LN):Gs:=ns.foldl (EC w) #[[],[],[],[]]
noncomputable def gL(s:Stp):D:=.tuple [nD s.1,.bool s.2.1,.list (s.2.2.1.map nD),.list (s.2.2.2.map pr)]
def P9(l:LN):T:=.lst ((l.map nD).map T.d)
def td(w:Wd)(past taken:LN)(wr held:List Pt)(h:Kn)(st:List Stp)(o8 o9 o10:Option Sl):kA:=[bD (wD w),bD (.list (w.es.map fE)),oW (P9 past),oW (P9 taken),oW (oI wr),bD (.list (held.map pr)),oW (y4 h),oW (.lst ((st.map gL).map T.d)),o8,o9,o10]
theorem m7(l:LN)(n:Nat):P9 (l++[n])=.lst ((l.map nD).map T.d++[T.d (nD n)]):=by unfold P9;rw[QR,QR];rfl
theorem vi(l:List Stp)(n:Stp):((l++[n]).map gL).map T.d=(l.map gL).map T.d++[T.d (gL n)]:=by rw[QR,QR];rfl
theorem B5{h:List Evt}{x:LN}{ks:List Pt}{K:T->LT->Prop}{E:XE}(l:x.9<64)(a:∀n∈x,n<h.9/\UD (BA h n))(q:K (.lst (((srt (gH h x ks)).map nD).map T.d)) []):cO HG [.d (.list (h.map fE)),.lst ((x.map nD).map T.d),oI ks] K E:=#[h,x,ks,rfl,l,a,λu z y=>by rw[ui z y];exact q]
section
variable{Ψ:PEv}{E:XE}{K:TK}{y x:D}{u:List D}{k:T}{g f e c b w v:Option Sl}
theorem sd(h:Ψ.sp "held_among"=HD)(q:cO HD [.d y,.lst (u.map T.d),.d x,k] (λr j=>∃n,j=[n]/\K r kf [bD y,g,oW (.lst (u.map T.d)),f,e,c,oW n,b,w,v,bD x]) E):jB Ψ (.call "held_among" %[.var 0,.var 2,.var 10,.var 6|1]) E [bD y,g,oW (.lst (u.map T.d)),f,e,c,oW k,b,w,v,bD x] K:=by show ∃j,rA (vA (Ψ.sp "held_among").md %[.var 0,.var 2,.var 10,.var 6|1]) [bD y,g,oW (.lst (u.map T.d)),f,e,c,oW k,b,w,v,bD x]=kx j/\(vA (Ψ.sp "held_among").md %[.var 0,.var 2,.var 10,.var 6|1]).Nodup/\(pe Ψ %[.var 0,.var 2,.var 10,.var 6|1] E).a (Ψ.sp "held_among").md (clear (vA (Ψ.sp "held_among").md %[.var 0,.var 2,.var 10,.var 6|1]) [bD y,g,oW (.lst (u.map T.d)),f,e,c,oW k,b,w,v,bD x]) λp l=>∃o,lA (Ψ.sp "held_among").md p j=kx o/\(Ψ.sp "held_among").run o (λr m=>∃i,dB (vA (Ψ.sp "held_among").md %[.var 0,.var 2,.var 10,.var 6|1]) m l=kx i/\K r kf i) E;rw[h];refine#[[k],rfl,Qh.mpr #[WD,Qx],?_];refine#[rfl,?_];refine#[[.d y,.lst (u.map T.d),.d x,k],?_,?_];show(match yD (T.lst (u.map T.d)) with|some t=>(kx [T.d x,k]).map (t::·)|none=>kv).map (T.d y::·)=_;rw[i5];rfl;refine HD.mono (λr j z=>?_) (λ_ z=>z) q;let#[n,rfl,z]:=z;exact#[_,rfl,z]
end
section
variable{Ψ:PEv}{Z:PEnds}{w:Wd}{y:Kn}{n:Nat}{o10:Option Sl}{g:Gs}{ns:LN}{i:Int}
theorem Nq(o:Ψ.sp "wrong_among"=TF)(k:Ψ.sp "live_among"=HG)(m:Ψ.sp "held_among"=HD){past taken:LN}{wr held:List Pt}{st:List Stp}{b:Bool}(z:WOk w)(s:past.9<=60)(v:∀n∈past,n<w.es.9)(p:taken.9<=60)(u:∀n∈taken,n<w.es.9/\UD (BA w.es n))(hk:zO w y)(e:y.9<=10000)(r:st.9<=60)
  (q:∀h,zO w h->h.9<=y.9+10->Z.nx (td w past taken (vO w past) (BE w past (srt (gH w.es taken (vO w past)))) h (st++[(n,b,srt (gH w.es taken (vO w past)),BE w past (srt (gH w.es taken (vO w past))))]) (bD (nD n)) (bD (.bool b)) (bD (.list ((srt (gH w.es taken (vO w past))).map nD))))) :
  pF Ψ rK Z (td w past taken wr held y st (bD (nD n)) (bD (.bool b)) o10):=by
 have x:=FS (gH w.es taken (vO w past));have fl:=Qu (λn=>!decide (((FD (BA w.es n)).1,(FD (BA w.es n)).2)∈vO w past)) taken;have a:T3 w (srt (gH w.es taken (vO w past))):=#[by rw[x.length_eq];unfold gH;omega,λn l=>u n (QS.mp (x.mem_iff.mp l)).1]
 delta td P9;delta rK;simp![↓zA (md:=[.fro,.shal]) o rfl rfl,↓zA (md:=[.fro,.shal,.bor]) k rfl rfl,↓kB,↓XZ,↓Hs];refine#[_,_,rfl,z,(),v,?_];simp![↓zA (md:=[.fro,.shal,.bor]) k rfl rfl,↓kB,↓XZ,↓Hs];refine B5 () u ?_;simp![↓jA];refine sd m (#[_,_,_,_,rfl,#[z,(),v],a,#[hk,e],λh j f=>#[_,rfl,?_]]);simp![↓jA];rw[QC,QC];refine#[(),(),?_];have q:=q h j f;unfold td P9 at q;rw[vi]at q;exact q
structure GsOk(w:Wd)(g:Gs):Prop where
 p:∀n∈g.past,n<w.es.9
 tl:g.taken.9<=g.past.9
 t:∀n∈g.taken,n<w.es.9/\UD (BA w.es n)
 h:OX g.held
 s:g.steps.9=g.past.9
theorem KR(z:WOk w)(l u:LN):OX (BE w l u):=by intro p h;let#[x,v,h]:=wK.mp h;let#[m,k,rfl]:=QN.mp h;exact#[z.po x v,z.mo m (QS.mp k).1]
theorem Ja{e:Evt}(h:Lf e="tell"):UD e:=by
 cases e with|see t p m x=>exact ti (show QY "see"=QY "tell" from h) (by decide)|tell t a b m x q=>exact#[t,a,b,m,x,q,rfl]
theorem Ue(h:GsOk w g)(x:n<w.es.9):(FV w g n).9<=g.past.9+1/\∀k∈FV w g n,k<w.es.9/\UD (BA w.es k):=by have:=h.tl;unfold FV;split;rename_i c;rw[Qg,Az]at c;refine#[by rw[QI];exact w9 this,λk hk=>?_];rcases Qe.mp hk with hk|hk;exact h.t k hk;rw[QJ.mp hk];exact#[x,Ja c.2];exact#[(),h.t]
theorem BR(v:WOk w)(h:GsOk w g)(x:n<w.es.9):GsOk w (EC w g n):=by
 let#[u,z]:=Ue h x;refine#[λk hk=>?_,?_,z,KR v _ _,?_];rcases Qe.mp hk with hk|hk
 ·exact h.p k hk
 rw[QJ.mp hk];exact x;show(FV w g n).9<=(g.past++[n]).9;rw[QI];exact u;show(g.steps++_).9=(g.past++[n]).9;rw[QI,QI,h.s];rfl
theorem Sv(C:Ψ.sp "is_taken"=bY)(B:Ψ.sp "wrong_among"=TF)(A:Ψ.sp "live_among"=HG)(K:Ψ.sp "held_among"=HD){o9:Option Sl}(j:WOk w)(a:GsOk w g)(E:g.past.9<60)(v:n<w.es.9)(hk:zO w y)(X:y.9<=10000)
  (q:∀x o9 o10,zO w x->x.9<=y.9+10->Z.nx (td w (g.past++[n]) (FV w g n) (vO w (g.past++[n])) (Zt w g n) x (EC w g n).steps (bD (nD n)) o9 o10)) :
  pF Ψ CN Z (td w g.past g.taken (vO w g.past) g.held y g.steps (bD (nD n)) o9 o10):=by
 have F:=a.tl;have I:=a.s;let#[G,m]:=Ue a v;have o:∀k∈g.past++[n],k<w.es.length:=(BR j a v).p;have r:=λ{o10}=>Nq (Z:=Z) (wr:=vO w g.past) (held:=g.held) (st:=g.steps) (n:=n) (b:=zn w g n) (o10:=o10) B A K j (past:=g.past++[n]) (by rw[QI];exact E) o (taken:=FV w g n) () m hk X () λx W Y=>q x _ _ W Y;delta td P9;delta CN;simp![↓JS v,↓zA (md:=[.fro,.fro,.bor,.fro]) C rfl rfl,↓kB,↓XZ,↓Hs];refine#[_,_,_,_,rfl,j,(j.ev v),a.h,?_];simp![↓JS v,↓V4];rw[QC,QC,<- m7];refine#[(),?_];have e:Ju w (vO w g.past) g.held (BA w.es n)=zn w g n:=rfl;rw[e];cases u:zn w g n with
 |false=>have f:FV w g n=g.taken:=th (by rw[u];exact λz=>by cases z);rw[f,u]at r;exact r|true =>
  cases l:decide (Lf (BA w.es n)="tell") with|false=>have f:FV w g n=g.taken:=th (by rw[u,l];exact λz=>by cases z);rw[f,u]at r;exact r|true=>have f:FV w g n=g.taken++[n]:=tt (by rw[u,l];rfl);rw[f,u]at r;simp![↓jA];rw[QC,QC,<- m7];exact#[(),r]
theorem Vd(e:Evt):∃t,lN (fE e)=kx t:=by
 cases e with|see t p m h=>exact#[t,rfl]|tell t a b m h q=>exact#[t,rfl]
def oH(w:Wd)(ns:LN):Prop:=Ls (w.es.map fE) ns
theorem E6(h:oH w ns):∀n∈ns,n<w.es.length:=λn x=>by
 have:=wC.mp (h.1.mem_iff.mp x)
 rwa [QC]at this
theorem j7(h:oH w ns):ns.9=w.es.length:=by rw[h.1.length_eq,qX,QC]
theorem Hi{K:T->LT->Prop}{E:XE}(x:WOk w)(q:∀ns,oH w ns->K (P9 ns) []):cO Dp [.d (.list (w.es.map fE))] K E:=#[_,rfl,by rw[QC];exact WL x.el (by decide),λe z=>by
 let#[v,_,rfl]:=QN.mp z;exact Vd v,λns h=>by
 have:=q ns h;unfold P9 at this;rw[QU]at this;exact this]
def mL:PSp where
 run:=λh Q _=>∃w:Wd,h=[.d (wD w)]/\WOk w/\∀ns,oH w ns->Q (.lst (((fB w ns).steps.map gL).map T.d)) []
theorem gx{E:XE}{r:PT}{i:Nat}{ρ:kA}:NH Ψ E r Z i (.lst []) kf ρ=lB Ψ E r Z (ρ.set i (bD (.list []))):=lx (ds:=[])
theorem uc(m:Ψ.sp "going_order"=Dp)(E:Ψ.sp "is_taken"=bY)(C:Ψ.sp "wrong_among"=TF)(B:Ψ.sp "live_among"=HG)(A:Ψ.sp "held_among"=HD):CD Ψ GX mL X9 aY:=by rintro _ Q _ ⟨w,rfl,k,q⟩;have J:=k.el;refine bA [bD (wD w),kv,kv,kv,kv,kv,kv,kv,kv,kv,kv] ?_;delta GX;simp![↓GL,↓zA (md:=[]) m rfl rfl];refine#[(),(),(),?_];simp![↓gx,↓zA (md:=[]) m rfl rfl];refine#[(),Hi k λns u=>?_];delta P9;simp![↓jA];rw[<- fA nD];have F:=j7 u;refine ZB (λn=>T.d (nD n)) (λr a=>∃g y j f o10,r.foldl (EC w) g=fB w ns/\(GsOk w g/\g.past.9+r.9<=60/\∀n∈r,n<w.es.9)/\(zO w y/\y.9<=10 * g.past.9)/\a=td w g.past g.taken (vO w g.past) g.held y g.steps j f o10) ?_ ?_ ns _ #[#[[],[],[],[]],[],kv,kv,kv,rfl,#[#[λ_ z=>(by cases z),Qc _,λ_ z=>(by cases z),λ_ z=>(by cases z),rfl],by show 0+ns.9<=60;omega,E6 u],#[λ_ z=>(by cases z),Qc _],rfl];rintro a ⟨g,y,j,f,o10,e,_,_,rfl⟩;have e:g=fB w ns:=e;subst e;delta td;simp![↓jA];exact q ns u;rintro n r a N K ⟨g,y,j,f,o10,e,⟨s,p,o⟩,⟨X,G⟩,rfl⟩;have p:g.past.9+(r.9+1)<=60:=p;have l:=o n QF;refine Sv E C B A k s () l X () λh b v Y I=>K _ #[EC w g n,h,_,b,v,e,#[BR k s l,?_,λx W=>o x (QG _ W)],#[Y,?_],rfl];show(g.past++[n]).9+r.9<=60;rw[QI];show g.past.9+1+r.9<=60;omega;show h.9<=10 * (g.past++[n]).9;rw[QI];show h.9<=10 * (g.past.9+1);omega
def gI{α:Type}(l:List α)(i:Int)(d:α):α:=(BD l i).getD d
theorem YB{α:Type}{l:List α}{d:α}(u:0<=i)(z:i<l.9):BD l i=kx (gI l i d)/\gI l i d∈l:=by let#[v,x,h]:=uS u z;unfold gI;rw[x];exact#[rfl,Qw h]
theorem FB{α:Type}{f:α->D}{l:List α}(d:α){K:D->Prop}(x:0<=i)(h:i<l.9)(q:K (f (gI l i d))):JE (BD (l.map f) i) K:=by rw[FL,(YB (d:=d) x h).1];exact#[_,rfl,q]
theorem mB(a:Int){m:Int}(h:0<m):0<=a % m/\a % m<m:=#[QCW _ (),Int.emod_lt_of_pos _ h]
end
section
variable{Ψ:PEv}{E:XE}{ρ:kA}{K:TK}{a h y w b c d:PX}{x:D}{n:Bool}{f:Str}{v:Hz}{i:Int}{j:Nat}
def Yi(x:T)(n:Bool)(Ψ:PEv)(h y:PX)(E:XE)(p:kA)(K:TK):Prop:=sq (α:=Option Int) (nA x n) p (if isNop h=kf then λρ (R:Option Int->kA->Prop)=>R kv ρ else λρ R=>(pe Ψ h E).e ρ λl _ m=>uG l.er λo=>R o m) λl m =>
   sq (α:=Option Int) (nA x n) m (if isNop y=kf then λρ (R:Option Int->kA->Prop)=>R kv ρ else λρ R=>(pe Ψ y E).e ρ λu _ g=>uG u.er λo=>R o g) λu g=>uO (nA x n).vw l u λz k=>K z k g
theorem Sm:jB Ψ (.slc a h y) E ρ K=jB Ψ a E ρ λx n z=>Yi x n Ψ h y E z K:=rfl
theorem zw:Yi (.d x) n Ψ .nop (.var j) E ρ K=jB Ψ (.var j) E ρ λu _ e=>ZY u λo=>jW (.d x) n kv o λz k=>K z k e:=by cases n<;>rfl
end
section
variable{l:LN}{ns:LJ}{Ψ:PEv}{k j s:Int}{Q:T->LT->Prop}{p:PSp}{ρ:kA}
def sS(l:LN):Str:=#[l.toArray]
theorem lM(a b:LN):sS a++sS b=sS (a++b):=by show(#[a.toArray++b.toArray]:Str)=#[(a++b).toArray];rw[List.append_toArray]
theorem OH(l:LN):(sS l).9=l.length:=QO
theorem Fi{a b:LN}(h:sS a=sS b):a=b:=aj (λs:Str=>s.cps.toList) h
def Vy(l:LN):Prop:=∀c∈l,c<128
theorem af(h:Vy l):OkS (sS l):=by show(l.toArray).all _=kf;rw[<- Array.all_toList,qH];intro c hc;exact dT (Nat.lt_trans (h c hc) (by decide))
noncomputable abbrev FW:Str:="abcdefghijklmnopqrstuvwxyz"
def EH(n:Int):Nat:=97+(n % 26).toNat
theorem jN:FW.cps.toList=(Qo 26).map (·+97):=by decide +kernel
theorem M7(n:Int):EH n<128:=by have:=mB n (show(0:Int)<26 by decide);unfold EH;omega
theorem Oc(n:Int):BD FW.cps.toList (n % 26)=kx (EH n):=by
 have m:=mB n (show(0:Int)<26 by decide);have hl:FW.cps.toList.9=26:=by rw[jN];rfl
 let#[v,x,h]:=uS (xs:=FW.cps.toList) m.1 (by rw[hl];exact m.2);rw[x];rw[jN,QX,WH ()]at h;have h:(n % 26).toNat+97=v:=Qp h;unfold EH;rw[<- h,Nat.add_comm]
theorem Ff{m:Int}{P:Nat->Prop}(q:P (EH m)):FW.length<=kb/\JE (BD FW.cps.toList (m % 26)) P:=by rw[Oc,sB];exact#[by rw[show FW.length=26 from rfl];omega,q]
def aZ(ns:LJ)(k:Int):Int:=if 0<(ns.9:Int) then gI ns (k % (ns.9:Int)) 0 else 0
def PC(ns:LJ)(k:Int):Int:=(aZ ns k+k+1) * (91343852333181432387730302044767688731+7919000003 * k * k) % 170141183460469231731687303715884105727
theorem Dd(ns:LJ)(k:Int):0<=PC ns k:=QCW _ (by decide)
def tE(ns:LJ):Prop:=ns.9<=63/\∀n∈ns,qM n<=1048576
theorem oX(h:tE ns)(k:Int):qM (aZ ns k)<=1048576:=by unfold aZ;split;rename_i c;have d:=mB k c;exact h.2 _ (YB (l:=ns) (d:=0) d.1 d.2).2;decide
noncomputable abbrev sD(ns:LJ):T:=.lst ((ns.map j0).map T.d)
def MG:PSp where
 md:=[.shal]
 run:=λh Q _=>∃(ns:LJ) (k:Int),h=[sD ns,.d (.int k)]/\tE ns/\(0<=k/\k<=1000000)/\Q (.d (.int (PC ns k))) []
theorem oZ{c:Int}(hc:qM c<=1048576)(h:0<=k)(x:k<=1000000)(o3:Option Sl)(q:Q (.d (.int ((c+k+1) * (91343852333181432387730302044767688731+7919000003 * k * k) % 170141183460469231731687303715884105727))) []) :
  pF Ψ eG (eZ Q) [kx (.bor (sD ns)),bD (.int k),bD (.int c),o3]:=by
 delta eG;simp![↓jA];have hb:qM (c+k+1)<=1048578:=by have:=mA (mA hc (show qM k<=64 from QBg () ())) (show qM 1<=64 by decide);omega
 refine#[SX.ok (.inr #[(),()]),SX.ok (.inr #[(),()]),IntMulOk.of_le (n:=256) hb ?_ (by decide),q];have z:0<=k * k:=Int.mul_nonneg h h;have y:k * k<=1000000 * 1000000:=Int.mul_le_mul x x h (by decide);rw[intBits_le_iff,Int.mul_assoc];have:(2:Nat) ^ 256=115792089237316195423570985008687907853269984665640564039457584007913129639936:=by decide
 rw[this];omega
theorem cc:CD Ψ BN MG hV bP:=by rintro _ Q _ ⟨ns,k,rfl,hb,⟨x,h⟩,q⟩;refine bA [kx (.bor (sD ns)),bD (.int k),kv,kv] ?_;have hc:=oX hb k;delta BN;simp![QC];unfold PC at q;unfold aZ at q hc;by_cases c:0<(ns.9:Int);rw[tt c]at q hc;have d:=mB k c;rw[tt (dT c)];exact#[c,FB (f:=j0) 0 d.1 d.2 (oZ hc x h _ q)];rw[th c]at q hc;rw[th λz=>c (u0 z)];exact oZ hc x h _ q
noncomputable abbrev m9(a:Int):T:=.lst ([j0 a].map T.d)
theorem Go{d e:D}{Q:T->Prop}:Ua (.lst ([d].map T.d)) (.d (.int 0)) (.d e) Q=Q (.lst ([e].map T.d)) :=
 t3 #[λ#[n,h,q]=>by cases h;exact q,λq=>#[0,rfl,q]]
def eJ(j:Nat)(Q:T->LT->Prop):PEnds:={ nx:=λρ=>DQ (rA [j] ρ) (Q (.d .none)),rt:=λt ρ=>DQ (rA [j] ρ) (Q t) }
theorem xK{b:PT}{N x:LS}{ds:LT}{j:Nat}(ρ:kA)(hl:ds.9=x.9)(hc:BB 0 p.md x.9=[j])(hs:EA N p.md ds=ρ)(h:pF Ψ b (eJ j Q) ρ):ds.9=x.9/\pF Ψ b (iC p x.9 Q) (EA N p.md ds):=by
 have e:iC p x.9 Q=eJ j Q:=by unfold iC;rw[hc];rfl
 rw[e,hs];exact#[hl,h]
theorem vg{t u:T}{o:Option Sl}{σ:kA}:(eJ 1 Q).rt t (o::kx (.own u)::σ)=Q t [u]:=rfl
def GD:PSp where
 md:=[.shal,.chg]
 run:=λh Q _=>∃(ns:LJ) (a:Int),h=[sD ns,m9 a]/\tE ns/\(0<=a/\a<1000000)/\Q (.d (.int (PC ns (a+1)))) [m9 (a+1)]
theorem yc(x:Ψ.sp "_law_draw"=MG):CD Ψ XN GD cV xP:=by rintro _ Q _ ⟨ns,a,rfl,hb,⟨y,h⟩,q⟩;refine xK [kx (.bor (sD ns)),kx (.own (m9 a))] rfl rfl rfl ?_;delta XN;simp![↓zA (md:=[.shal]) x rfl rfl,↓Rn,↓l9,↓Go,↓vg];refine#[_,_,rfl,hb,#[(),()],?_];simp![↓vg];exact q
noncomputable abbrev TW:Str:="person matter against see tell by at who what since tellers wordings apart leans hidden strike quote"
def EY:LS:=w4 TW " "++(["ground","cut"]:LS)
theorem lU:(w4 TW " ").9=17:=by decide +kernel
noncomputable def TV:PSp where
 run:=λh Q _=>h=[]/\Q (.lst ((EY.map jk).map T.d)) []
theorem Mj:CD Ψ aF TV aJ tH:=by
 rintro _ Q _ ⟨rfl,q⟩;have h:=lU;have hl:TW.length<=200:=by decide +kernel
 refine bA [kv] ?_;delta aF;simp![↓jA];unfold EY at q;rw[QR]at q;exact#[QZ hl (),by decide +kernel,QZ (wW h) (),(),by rw[QC];exact QZ (Nat.add_le_add_right (wW h) 2) (),q]
theorem kw{E:XE}{K:TK}{a b:PX}{x:D}{n:Bool}{y:Hz}:Yi (.d x) n Ψ (.bin y a b) .nop E ρ K=jB Ψ (.bin y a b) E ρ λu _ h=>ZY u λo=>jW (.d x) n o kv λz k=>K z k h:=by cases n<;>rfl
theorem n5(x:0<=j)(h:j<=l.9):Wh (sS l) kv (kx j)=sS (l.take j.toNat):=by show QBz (sS l) kv (kx j)=_;rw[StrLaws.sliceText_to #[x,h],List.drop_zero,Int.sub_zero];rfl
theorem IV(x:0<=j)(h:j<=l.9):Wh (sS l) (kx j) kv=sS (l.drop j.toNat):=by show QBz (sS l) (kx j) kv=_;rw[StrLaws.sliceText_from #[x,h],List.take_of_length_le (by simp[sS];omega)];rfl
theorem v8(l:LN):QBm "" (l.map λc=>sS [c])=sS l:=by
 have z:QY ""=sS []:=by decide +kernel
 rw[show QBm "" (l.map λc=>sS [c])=Str.join "" (l.map λc=>sS [c]) from StrLaws.glued_eq_join _ _];induction l with
 |nil=>rfl|cons x l h =>
  cases l with|nil=>rfl|cons y r=>have e:Str.join "" ((x::y::r).map λc=>sS [c])=sS [x]++QY ""++Str.join "" ((y::r).map λc=>sS [c]):=rfl;rw[e,h,z,lM,lM];rfl
noncomputable def tV(s:Int):LN:=(Qo (2+s % 6).toNat).map λ(j:Nat)=>EH (s / 42+(j:Int) * (j:Int) * (s / 1100 % 5))
def HH(s:Int):Int:=s / 6 % (2+s % 6)
def j4(s k:Int):LN:=(tV s).take (HH s).toNat++[EH (s / 3+k)]++(tV s).drop ((HH s).toNat+1)
def iT(s k:Int):Str:=if sS (j4 s k)∈EY then sS (j4 s k++[122]) else sS (j4 s k)
theorem zS(s:Int):(tV s).9=(2+s % 6).toNat:=by unfold tV;rw[QC,qX]
theorem k5(s:Int):0<=HH s/\HH s<2+s % 6:=mB _ (by have:=mB s (show(0:Int)<6 by decide);omega)
theorem IQ(s k:Int):(j4 s k).9=(2+s % 6).toNat:=by let#[x,h]:=k5 s;unfold j4;rw[QI,QI,w6,w8,zS];simp only[QK,qK];omega
theorem b7(s k:Int):Vy (j4 s k):=λc hc=>by
 have hb:∀c∈tV s,c<128:=λc hc=>by let#[j,_,rfl]:=QN.mp hc;exact M7 _
 unfold j4 at hc;rcases Qe.mp hc with hc|hc;rcases Qe.mp hc with hc|hc
 ·exact hb c (List.mem_of_mem_take hc)
 rw[QJ.mp hc];exact M7 _;exact hb c (List.mem_of_mem_drop hc)
theorem sW(s k:Int):OkS (iT s k):=by unfold iT;split;refine af λc hc=>?_;rcases Qe.mp hc with hc|hc;exact b7 s k c hc;rw[QJ.mp hc];decide;exact af (b7 s k)
theorem GY(z:0<=k)(y:k<26)(v:0<=j)(u:j<26)(h:j4 s k=j4 s j):k=j:=by unfold j4 at h;rw[Q0,Q0]at h;have h:=QAX (List.append_cancel_left h);have x:EH (s / 3+k)=EH (s / 3+j):=List.head_eq_of_cons_eq h;have:=mB (s / 3+k) (show(0:Int)<26 by decide);have:=mB (s / 3+j) (show(0:Int)<26 by decide);unfold EH at x;omega
theorem FY(y:0<=k)(x:k<26)(u:0<=j)(z:j<26)(h:iT s k=iT s j):k=j:=by have hk:=IQ s k;have v:=IQ s j;unfold iT at h;split at h<;>split at h<;>have h:=Fi h;exact GY y x u z (QAX h);have:=aj qD h;rw[QI,Qi]at this;omega;have:=aj qD h;rw[QI,Qi]at this;omega;exact GY y x u z h
def GG:PSp where
 run:=λh Q _=>∃(s k:Int),h=[.d (.int s),.d (.int k)]/\Q (.d (.str (iT s k))) []
theorem zc(e:Ψ.sp "_law_keywords"=TV):CD Ψ UN GG fV uP:=by
 rintro _ Q _ ⟨s,k,rfl,q⟩;have i:=mB s (show(0:Int)<6 by decide);refine bA [bD (.int s),bD (.int k),kv,kv,kv,kv] ?_;delta UN;simp![↓jA];refine#[(),(),(),uB (λ(j:Nat)=>T.d (.int (j:Int))) (λ(j:Nat)=>T.d (.str (sS [EH (s / 42+(j:Int) * (j:Int) * (s / 1100 % 5))]))) (Qo (2+s % 6).toNat) [] _ (λj y R b=>?_) (by rw[qX];show 0+_<=_;omega) ?_];have y:=wC.mp y;have m:=mB (s / 1100) (show(0:Int)<5 by decide);simp![↓jA];exact#[SX.ok (.inr #[(),()]),SX.ok (.inr #[(),()]),Ff b];have f:(Qo (2+s % 6).toNat).map (λ(j:Nat)=>T.d (jk (sS [EH (s / 42+(j:Int) * (j:Int) * (s / 1100 % 5))])))=(((tV s).map λc=>sS [c]).map jk).map T.d:=by unfold tV;rw[QU,QU,QU];rfl
 rw[Qb,f,gk];refine#[_,rfl,?_,?_];have:∀l:LN,((l.map λc=>sS [c]).map λz:Str=>z.9).sum=l.length:=λl=>by
  induction l with|nil=>rfl|cons c l a=>rw[QT,QT,List.sum_cons,a,QK,OH,Qi];omega
 rw[this,zS];show _+_ * 0<=_;omega;rw[v8];let#[v,g]:=k5 s;have hb:=zS s;have u:Wh (sS (tV s)) kv (kx (s / 6 % (2+s % 6)))=sS ((tV s).take (HH s).toNat):=n5 v (by rw[hb];show HH s<=_;omega);have h:Wh (sS (tV s)) (kx (s / 6 % (2+s % 6)+1)) kv=sS ((tV s).drop (HH s+1).toNat):=IV (by show 0<=HH s+1;omega) (by rw[hb];show HH s+1<=_;omega);have e3:(HH s+1).toNat=(HH s).toNat+1:=()
 rw[e3]at h;have x:(sS (tV s)).9<=sizeLine:=by rw[OH,hb];omega
 have w:=IQ s k;have o:((tV s).take (HH s).toNat).9<=8:=by rw[w6,hb];omega
 have n:((tV s).drop ((HH s).toNat+1)).9<=8:=by rw[w8,hb];omega
 simp![↓Sm,↓zw,↓kw,↓zA (md:=[]) e rfl rfl,↓Zp];refine#[x,Ff ?_];rw[u,h,show(#[(qB [EH (s / 3+k)])]:Str)=sS [EH (s / 3+k)] from rfl,lM,lM];rw[show(tV s).take (HH s).toNat++[EH (s / 3+k)]++(tV s).drop ((HH s).toNat+1)=j4 s k from rfl];refine#[by rw[OH,OH,Qi];omega,x,by rw[OH,OH,QI,Qi];omega,#[rfl,?_]];simp![fC,UB,SA,true_or];unfold iT at q;by_cases c:sS (j4 s k)∈EY;rw[tt c]at q;rw[dT c,tt rfl];refine#[by rw[OH,w];show _+1<=_;omega,?_];delta aG;simp![↓jA];rw[show QY "z"=sS [122] by decide +kernel,lM];exact q;rw[th c]at q;rw[dF c,th QD];delta aG;simp![↓jA];exact q
def jd(t:T):LT->LT
 |u::us=>u::t::us|[]=>[t]
theorem zE{E:XE}{K:TK}{a w:PX}{f:Str}{md:List Md}{j:Nat}(h:Ψ.sp f=p)(C:p.md=.shal::.chg::md)(B:(md.all λm=>!m.isMut)=kf):jB Ψ (.call f (.acons a (.acons (.var j) w))) E ρ K=xC ρ[j]? λt=>jB Ψ a E (ρ.set j kv) λx n y=>MS x n Ψ w E md y λxs v=>XA (.shal::md) ((x,n)::xs) λts=>cO p (jd t ts) (λr g=>∃t',g=[t']/\K r kf (v.set j (kx (.own t')))) E:=by
 have W:∀(md:List Md) (w:PX),(md.all λm=>!m.isMut)=kf->vA md w=[]:=by
  intro md;induction md with
  |nil=>intro w _;cases w<;>rfl|cons m md A =>
   intro w h;rw[qa,Qg]at h;cases m with
   |chg=>cases h.1|_=>cases w with|acons a w=>exact A w h.2|_=>rfl
 show(∃g,rA (vA (Ψ.sp f).md (.acons a (.acons (.var j) w))) ρ=kx g/\(vA (Ψ.sp f).md (.acons a (.acons (.var j) w))).Nodup/\(pe Ψ (.acons a (.acons (.var j) w)) E).a (Ψ.sp f).md (clear (vA (Ψ.sp f).md (.acons a (.acons (.var j) w))) ρ) λxs y=>∃ts,lA (Ψ.sp f).md xs g=kx ts/\(Ψ.sp f).run ts (λr b=>∃v,dB (vA (Ψ.sp f).md (.acons a (.acons (.var j) w))) b y=kx v/\K r kf v) E)=_;rw[h,C];have F:vA (.shal::.chg::md) (.acons a (.acons (.var j) w))=[j]:=by show j::vA md w=[j];rw[W md w B]
 rw[F];have q:∀(r:T) (g:LT) (y:kA),(∃v,dB [j] g y=kx v/\K r kf v)=(∃t',g=[t']/\K r kf (y.set j (kx (.own t')))):=by
  intro r g y
  match g with
  |[]=>exact t3 #[λ#[_,e,k]=>(by cases e),λ#[_,e,k]=>(by cases e)]|[t]=>exact t3 #[λ#[_,e,k]=>by cases e;exact#[t,rfl,k],λ#[_,e,k]=>by cases e;exact#[_,rfl,k]]|_::_::_=>exact t3 #[λ#[_,e,k]=>(by cases e),λ#[_,e,k]=>(by cases e)]
 have X:=λ(y:kA)=>funext λr=>funext λg=>q r g y;simp only[X];have Y:∀(t x:T) (n:Bool) (xs:List (T×Bool)) (G:LT->Prop),(∃ts,lA (.shal::.chg::md) ((x,n)::(.d .none,kf)::xs) [t]=kx ts/\G ts)=XA (.shal::md) ((x,n)::xs) λts=>G (jd t ts):=by
  intro t x n xs G;show(∃ts,(match yD (nA x n) with|some u=>((lA md xs []).map (t::·)).map (u::·)|none=>kv)=kx ts/\G ts)=JE (match yD (nA x n) with|some u=>(lA md xs []).map (u::·)|none=>kv) λts=>G (jd t ts);cases yD (nA x n) with
  |none=>exact t3 #[λ#[_,e,_]=>(by cases e),λ#[_,e,_]=>(by cases e)]|some u =>
   cases lA md xs []with|none=>exact t3 #[λ#[_,e,_]=>(by cases e),λ#[_,e,_]=>(by cases e)]|some ts=>exact t3 #[λ#[_,e,k]=>by cases e;exact#[_,rfl,k],λ#[_,e,k]=>by cases e;exact#[_,rfl,k]]
 have Z:∀t,ρ[j]?=kx (kx (.own t))->rA [j] ρ=kx [t]:=λt e=>by unfold rA;rw[e];rfl
 have o:∀(x:T) (n:Bool) (y:kA) (M:List (T×Bool)->kA->Prop),MS x n Ψ (.acons (.var j) w) E (.chg::md) y M=MS x n Ψ w E md y λxs v=>M ((.d .none,kf)::xs) v:=by intro x n y M;have i:∀(y:kA) (M:List (T×Bool)->kA->Prop),((pe Ψ (.acons (.var j) w) E).a (.chg::md) y M)=(pe Ψ w E).a md y λxs v=>M ((.d .none,kf)::xs) v:=λy M=>t3 #[λh=>h.2,λh=>#[rfl,h]];unfold MS sq;simp only[i]
 have i:∀(g:LT),((pe Ψ (.acons a (.acons (.var j) w)) E).a (.shal::.chg::md) (clear [j] ρ) λxs y=>∃ts,lA (.shal::.chg::md) xs g=kx ts/\p.run ts (λr b=>∃t',b=[t']/\K r kf (y.set j (kx (.own t')))) E)=(jB Ψ a E (ρ.set j kv) λx n y=>MS x n Ψ w E md y λxs v=>∃ts,lA (.shal::.chg::md) ((x,n)::(.d .none,kf)::xs) g=kx ts/\p.run ts (λr b=>∃t',b=[t']/\K r kf (v.set j (kx (.own t')))) E):=λg=>by show(jB Ψ a E (ρ.set j kv) λx n y=>MS x n Ψ (.acons (.var j) w) E (.chg::md) y λxs v=>∃ts,lA (.shal::.chg::md) ((x,n)::xs) g=kx ts/\p.run ts (λr b=>∃t',b=[t']/\K r kf (v.set j (kx (.own t')))) E)=_;simp only[o]
 simp only[i]
 match e:ρ[j]? with
 |some (kx (.own t))=>show _=(jB Ψ a E (ρ.set j kv) λx n y=>MS x n Ψ w E md y λxs v=>XA (.shal::md) ((x,n)::xs) λts=>cO p (jd t ts) (λr g=>∃t',g=[t']/\K r kf (v.set j (kx (.own t')))) E);rw[Z t e];have:=λx n xs (y:kA)=>Y t x n xs λts=>p.run ts (λr b=>∃t',b=[t']/\K r kf (y.set j (kx (.own t')))) E;refine t3 #[λ#[_,e,_,k]=>?_,λk=>#[_,rfl,by simp,?_]];cases e;simp only[this]at k;exact k;simp only[this];exact k|some (kx (.bor t))=>exact t3 #[λ#[_,z,_]=>(by unfold rA at z;rw[e]at z;cases z),λk=>k.elim]|some kv=>exact t3 #[λ#[_,z,_]=>(by unfold rA at z;rw[e]at z;cases z),λk=>k.elim]|none=>exact t3 #[λ#[_,z,_]=>(by unfold rA at z;rw[e]at z;cases z),λk=>k.elim]
def Nx(m:Int):Int:=gI [0,0,0,m / 100 % 70] (m / 10000 % 4) 0
def Xv(m:Int):Int:=gI [1,1,1,2,1,2,3] (m / 100000 % 7) 0
def Vp(ns:LJ)(a s:Int)(j:Nat):Str×Int×Int×Int:=(iT s j,50+PC ns (a+j+1) % 50,Nx (PC ns (a+j+1)),Xv (PC ns (a+j+1)))
def PJ(ns:LJ)(a s:Int)(k:Nat):List (Str×Int×Int×Int):=(Qo k).map (Vp ns a s)
theorem Vv(m:Int):1<=Xv m:=by have h:=mB (m / 100000) (show(0:Int)<7 by decide);have:=(YB (l:=[1,1,1,2,1,2,3]) (d:=(0:Int)) h.1 h.2).2;unfold Xv;generalize gI [1,1,1,2,1,2,3] (m / 100000 % 7) (0:Int)=z at this;simp at this;omega
theorem Y0(ns:LJ)(a s:Int){k:Nat}(hk:k<=26):((PJ ns a s k).map λp=>p.1).Nodup:=by
 unfold PJ;rw[QU];refine wU _ (R:=λi j:Nat=>i≠j/\i<26/\j<26) (λi j h e=>h.1 ?_) ?_;have:=FY () () () () e;omega;refine qw (R:=λi j:Nat=>i≠j) (λy x h=>#[h,?_,?_]) QCJ
 ·have:=wC.mp y;omega
 have:=wC.mp x;omega
def HJ:PSp where
 md:=[.shal,.chg]
 run:=λh Q _=>∃(ns:LJ) (a s:Int) (k:Nat),h=[sD ns,m9 a,.d (.int s),.d (.int k)]/\(tE ns/\0<=a/\a<1000/\k<=26)/\Q (.lst (((PJ ns a s k).map xG).map T.d)) [m9 (a+k)]
def xn(ns:LJ)(a s:Int)(k j:Nat)(o5 o6 o7:Option Sl):kA:=[kx (.bor (sD ns)),oW (m9 (a+j)),bD (.int s),bD (.int k),oW (.lst (((PJ ns a s j).map xG).map T.d)),o5,o6,o7]
theorem Yv(u:Ψ.sp "_law_next"=GD)(h:Ψ.sp "_law_name"=GG){Z:PEnds}{a:Int}{k j:Nat}{o6 o7:Option Sl}(hb:tE ns/\0<=a/\a<1000/\k<=26)(w:j<k)(q:∀o5 o6 o7,Z.nx (xn ns a s k (j+1) o5 o6 o7)):pF Ψ tF Z (xn ns a s k j (bD (.int (j:Int))) o6 o7):=by
 let#[b,i,g,v]:=hb;delta xn at q ⊢;delta tF;simp![↓zE (md:=[]) u rfl rfl,↓zA (md:=[]) h rfl rfl];refine#[_,_,rfl,b,#[(),()],#[_,rfl,?_]];generalize em:PC ns (a+j+1)=m;have y:=mB (m / 10000) (show(0:Int)<4 by decide);have x:=mB (m / 100000) (show(0:Int)<7 by decide);simp_arith![↓jA];refine#[(),FB (f:=j0) (l:=[0,0,0,m / 100 % 70]) 0 y.1 y.2 ?_];simp_arith![↓zA (md:=[]) h rfl rfl];refine#[_,_,rfl,?_];simp![↓jA];refine#[(),?_];show UA (.lst ((([1,1,1,2,1,2,3]:LJ).map j0).map T.d)) _ _ _ _;rw[Rn];refine FB 0 x.1 x.2 ?_;simp![↓jA];have e:PJ ns a s (j+1)=PJ ns a s j++[Vp ns a s j]:=by unfold PJ;rw[List.range_succ,QR];rfl
 have z:(PJ ns a s j).9=j:=by unfold PJ;rw[QC,qX]
 refine#[(),by rw[QC,QC,z];omega,?_];subst em;have q:=q (bD (.int j)) (bD (.int (PC ns (a+j+1)))) (bD (.int (Nx (PC ns (a+j+1)))));rw[e,QR,QR,show a+((j+1:Nat):Int)=a+j+1 by omega]at q;exact q
theorem G0(b:Ψ.sp "_law_next"=GD)(w:Ψ.sp "_law_name"=GG):CD Ψ bI HJ AN BK:=by
 rintro _ Q _ ⟨ns,a,s,k,rfl,hb,q⟩;have g:=hb.2.2.2;refine xK [kx (.bor (sD ns)),oW (m9 a),bD (.int s),bD (.int k),kv,kv,kv,kv] rfl rfl rfl ?_;delta bI;simp![↓jA];refine#[(),(),(),?_];rw[show((k:Int)).toNat=k from rfl];refine ZB (λ(i:Nat)=>T.d (.int (i:Int))) (λr ρ=>∃j z y h,r=List.range' j (k - j)/\j<=k/\ρ=xn ns a s k j z y h) ?_ ?_ _ _ #[0,kv,kv,kv,QBC,Qs _,?_];rintro ρ ⟨j,z,y,h,e,u,rfl⟩;have e:=aj qD e;rw[WV,qK]at e;have:j=k:=()
 subst this;delta xn;simp![↓jA];exact q;rintro x r ρ N v ⟨j,z,y,h,e,u,rfl⟩;have f:=aj qD e;rw[WV,QK]at f;rw[show k - j=(k - (j+1))+1 by omega,QCK]at e;injection e with e3 e4;subst e3;exact Yv b w hb () λz y h=>v _ #[_,_,_,_,e4,(),rfl];delta xn;rw[show a+((0:Nat):Int)=a from Int.add_zero a];rfl
def Oe(w:Wd):Gs->LN->List Stp
 |_,[]=>[]|g,n::r=>(n,zn w g n,nk w g n,Zt w g n)::Oe w (EC w g n) r
theorem DS(w:Wd):∀(ns:LN) (g:Gs),(ns.foldl (EC w) g).steps=g.steps++Oe w g ns
 |[],g=>(qF _).symm|n::r,g=>by show(r.foldl (EC w) (EC w g n)).steps=_;rw[DS w r];show(g.steps++[_])++_=g.steps++(_::_);rw[Q0];rfl
def g0:Gs:=#[[],[],[],[]]
theorem DR(w:Wd)(ns:LN):(fB w ns).steps=Oe w g0 ns:=DS w ns g0
theorem az(w:Wd):GsOk w g0:=#[λ_ z=>(by cases z),Qc _,λ_ z=>(by cases z),λ_ z=>(by cases z),rfl]
end
section
variable{w:Wd}{es:List Evt}{f:Nat->Nat}(h:∀n,BA es n=BA w.es (f n))
include h
end
section
variable{n:Nat}
theorem G7{ks:List Pt}{p q:Pt}:q∈GN ks p↔q∈ks∨q=p:=by unfold GN;split;rename_i c;exact#[.inl,λh=>h.elim id λe=>e▸c];rw[Qe,QJ]
def ZZ(h:List Evt)(x m:Str)(n:Nat):Prop:=∃t y,BA h n=.see t x m y
theorem lP{y:List Evt}{x m:Str}:∀(l:LN) (ks:List Pt),(x,m)∈l.foldl (bC y) ks↔(x,m)∈ks∨∃n∈l,ZZ y x m n
 |[],ks=>#[.inl,λh=>h.elim id λ#[_,h,_]=>by cases h]|n::l,ks=>by
  show(x,m)∈l.foldl (bC y) (bC y ks n)↔_;rw[lP l];have e:(x,m)∈bC y ks n↔(x,m)∈ks∨ZZ y x m n:=by
   unfold bC ZZ;cases BA y n with|see t p z u=>show _∈GN ks (p,z)↔_;rw[G7];exact or_congr wy #[λe=>by cases e;exact#[_,_,rfl],λ#[_,_,e]=>by cases e;rfl]|tell t a b z u q=>exact#[.inl,λh=>h.elim id λ#[_,_,e]=>by cases e]
  rw[e,or_assoc];refine or_congr wy #[λh=>?_,λ#[k,hk,h]=>?_];rcases h with h|⟨k,hk,h⟩
  ·exact#[n,QF,h]
  exact#[k,QG _ hk,h];rcases QL.mp hk with rfl|hk
  ·exact .inl h
  exact .inr #[k,hk,h]
theorem AS{y:List Evt}{l:LN}{x m:Str}:(x,m)∈rB y l↔∃n∈l,ZZ y x m n:=(lP l []).trans #[λh=>h.elim (λh=>by cases h) id,.inr]
def Df(n:Nat)(x:D):Prop:=x.canLay0=kf/\x.depth<=n
theorem BW{n:Nat}:∀{l:List D},(∀x∈l,Df n x)->qi l=kf/\wQ l<=n
 |[],_=>#[rfl,Qs _]|x::l,h=>by let#[k,w]:=h x QF;let#[u,z]:=BW (l:=l) λy v=>h y (QG _ v);exact#[by show(x.canLay0&&qi l)=kf;rw[k,u];rfl,Nat.max_le.mpr #[w,z]]
theorem Jq{l:List D}(h:∀x∈l,Df n x):Df (n+1) (.list l):=#[(BW h).1,w9 (BW h).2]
theorem Bv{s:Str}(h:OkS s):Df n (.str s):=#[h,Qs _]
theorem Cv{i:Int}:Df n (.int i):=#[rfl,Qs _]
theorem Cf{x:D}(h:Df n x)(y:n<=64):FF x:=#[h.1,QZ h.2 y]
theorem iq{α:Type}{f:α->D}{l:List α}(h:∀a∈l,Df n (f a)):∀y∈l.map f,Df n y:=λy x=>by let#[a,z,rfl]:=QN.mp x;exact h a z
end
section
variable{ds es:List D}{L:Bool->Prop}{x:D}{h:fv}
theorem sw:KB h (.lst (ds.map T.d)) (.lst (es.map T.d)) L=PR h (.list ds) (.list es) L:=by show PR h (.list (ersT (ds.map T.d))) (.list (ersT (es.map T.d))) L=_;rw[JA,JA]
end
theorem A6{w:Wd}{ns x:LN}(h:oH w ns)(h':oH w x):ns=x:=h.2.trans h'.2.symm
structure StK(w:Wd)(s:Stp):Prop where
 n:s.1<w.es.9
 l:T3 w s.2.2.1
 h:OX s.2.2.2
theorem Le{w:Wd}(z:WOk w):∀(ns:LN) (g:Gs),GsOk w g->g.past.9+ns.9<=60->(∀n∈ns,n<w.es.9)->∀s∈Oe w g ns,StK w s
 |[],_,_,_,_,s,h=>by cases h|n::r,g,hg,hl,hn,s,h=>by have v:=hn n QF;have u:=BR z hg v;have hl:g.past.9+(r.9+1)<=60:=hl;have b:(EC w g n).past.9=g.past.9+1:=QI;rcases QL.mp h with rfl|h;have k:=FS (gH w.es (FV w g n) (vO w (g.past++[n])));have fl:(gH w.es (FV w g n) (vO w (g.past++[n]))).9<=(FV w g n).length:=Qu _ _;have a:(FV w g n).9<=(EC w g n).past.length:=u.tl;refine#[v,#[?_,λx y=>u.t x (QS.mp (k.mem_iff.mp y)).1],KR z _ _];show(nk w g n).9<=100;unfold nk;rw[k.length_eq];omega;exact Le z r _ u () (λx y=>hn x (QG _ y)) s h
theorem E4{w:Wd}:∀(ns:LN) (g:Gs),(Oe w g ns).map (λs=>s.1)=ns
 |[],_=>rfl|n::r,g=>aj (n::·) (E4 r _)
theorem uN{w:Wd}{ns:LN}(h:WOk w)(x:oH w ns):(fB w ns).steps.map (λs=>s.1)=ns/\(fB w ns).steps.9<=60/\∀s∈(fB w ns).steps,StK w s:=by have z:=h.el;have y:=j7 x;have e:=E4 (w:=w) ns g0;have l:=aj qD e;rw[QC]at l;rw[DR];exact#[e,(),Le h ns g0 (az _) (by show 0+_<=_;omega) (E6 x)]
noncomputable def FT(st:List Stp):LN:=match st.getLast? with
 |some s=>s.2.2.1|none=>[]
theorem JL(l:List Stp)(s:Stp):FT (l++[s])=s.2.2.1:=by unfold FT;rw[QBD]
theorem cQ(st:List Stp):st=[]∨∃l s,st=l++[s]:=by
 rcases QA4 st with h|⟨l,s,h⟩
 exact .inl h;exact .inr #[l,s,by rw[h,QA5]]
theorem CW{w:Wd}{st:List Stp}(h:∀s∈st,StK w s):T3 w (FT st):=by
 rcases cQ st with rfl|⟨l,s,rfl⟩
 exact#[Qs _,λ_ z=>by cases z];rw[JL];exact(h s (QW _ QF)).l
theorem xS{α:Type}(l:List α)(x:α):BD (l++[x]) (-1)=kx x:=by unfold BD kU;rw[th (by decide),QI,tt (by show -(((l.9+1:Nat)):Int)<=-1;omega)];show(l++[x])[((-1:Int)+((l.9+1:Nat):Int)).toNat]?=_;rw[show((-1:Int)+((l.9+1:Nat):Int)).toNat=l.9 by omega,Qv (Qc _),Nat.sub_self];rfl
def iL(w:Wd)(st:List Stp):D:=.tuple [wD w,.list (st.map gL)]
def on(w:Wd)(st:List Stp):T:=.tup [.d (wD w),.lst ((st.map gL).map T.d)]
theorem yg(w:Wd)(st:List Stp):(on w st).er=iL w st:=by show PyData.tuple [wD w,.list (ersT ((st.map gL).map T.d))]=_;rw[JA];rfl
def mQ:PSp where
 run:=λx Q _=>∃w:Wd,x=[.d (wD w)]/\WOk w/\∀h,oH w h->Q (on w (fB w h).steps) []
theorem gq{a:D}{l:LT}:zD [.d a,.lst l]=.tup [.d a,.lst l]:=rfl
theorem Uj{Ψ:PEv}(z:Ψ.sp "gone"=mL):CD Ψ oE mQ BH kG:=by rintro _ Q _ ⟨w,rfl,x,q⟩;refine bA [bD (wD w)] ?_;delta oE;simp![↓zA (md:=[]) z rfl rfl];refine#[_,rfl,x,λh y=>?_];simp![↓gq];exact#[(),q h y]
section
variable{w:Wd}{st:List Stp}{n m:Bool}{R:T->Prop}{xs:List (T×Bool)}{C:LT->Prop}{s:Stp}
theorem ML:UA (.d (iL w st)) n (.d (.int 0)) m R=R (.d (wD w)):=YA (i:=0) rfl
theorem K4:UA (.d (iL w st)) n (.d (.int 1)) m R=R (.d (.list (st.map gL))):=YA (i:=1) rfl
theorem Ew:XA [] ((on w st,kf)::xs) C=XA [] xs λts=>C (.d (iL w st)::ts):=by have e:lA [] ((on w st,kf)::xs) []=(lA [] xs []).map (.d (on w st).er::·):=rfl;unfold XA;rw[e,yg,TC]
theorem yu:UA (.d (gL s)) n (.d (.int 0)) m R=R (.d (nD s.1)):=YA (i:=0) rfl
theorem ju:UA (.d (gL s)) n (.d (.int 2)) m R=R (.d (.list (s.2.2.1.map nD))):=YA (i:=2) rfl
theorem Et:UA (.d (gL s)) n (.d (.int 3)) m R=R (.d (.list (s.2.2.2.map pr))):=YA (i:=3) rfl
end
def dO(r:Rw):D:=.tuple [.str r.1,.list (r.2.map jD)]
noncomputable def yr(y:Str×LS):D:=.tuple [.str y.1,.list (y.2.map jk)]
theorem Na(h:List Rw):ersT (h.map IF)=h.map dO:=by rw[uJ,QU];congr 1;funext r;show PyData.tuple [.str r.1,.list (ersT ((r.2.map jD).map T.d))]=_;rw[JA];rfl
section
variable{Ψ:PEv}{E:XE}{ρ:kA}{r:PT}{Z:PEnds}{i:Nat}{n:Bool}{md:List Md}{xs:List (T×Bool)}{C:LT->Prop}{ds:List D}
theorem Dm{x:List Rw}:NH Ψ E r Z i (.lst (x.map IF)) kf ρ=lB Ψ E r Z (ρ.set i (bD (.list (x.map dO)))):=by
 have e:(T.lst (x.map IF)).er=.list (x.map dO):=by show PyData.list (ersT (x.map IF))=_;rw[Na]
 unfold NH;rw[e];exact t3 #[λh=>h.2,λh=>#[rfl,h]]
theorem Aw:XA (.shal::md) ((.d (.list ds),n)::xs) C=XA md xs λts=>C (.lst (ds.map T.d)::ts):=jy (by rw[pA];simp only[yD,T.vw,HA,Q4])
theorem mq{d:D}{ts:LT}:zD [.d d,.lst ts]=.tup [.d d,.lst ts]:=rfl
end
def L9(es:VC)(sr F:LS)(x:Str)(y:Str×LS):Prop:=y.1=x/\∃h,Good (eU es F) sr x h y.2
noncomputable def J6(nd:List (Str×Int))(F:LS):LS:=(nd.filter λp=>!decide (p.1∈F)).map λp=>p.1
def v5:PSp where
 run:=λv Q _=>∃(tb:Bool) (y:VC) (h:LS) (nd:List (Str×Int)),v=[.d (eI tb (y.map pr)),.d (.tuple (h.map jk)),.d (.list (nd.map CJ))]/\(y.9<=126/\h.9<=11/\MF y h/\nd.9<=90/\(nd.map λp=>p.1).Nodup)/\∀u F z,GI y h nd u F->(∀x,x∈F↔Held y h nd x)->yn (L9 y h F) (J6 nd F) z->Q (.tup [.d (.list (u.map dO)),.lst ((z.map yr).map T.d)]) []
noncomputable def R9(x:D)(sr:LS)(nd:List (Str×Int))(h:List Rw)(o4 o5:Option Sl):kA:=[bD (x),bD (.tuple (sr.map jk)),bD (.list (nd.map CJ)),bD (.list (h.map dO)),o4,o5]
section
variable{Ψ:PEv}{Z:PEnds}{tb:Bool}{es:VC}{sr:LS}{nd:List (Str×Int)}{h:List Rw}{F:LS}{q:PT}{o4 o5:Option Sl}
theorem Yw(hl:h.9<=100)(k:pF Ψ q Z (R9 (eI tb (es.map pr)) sr nd h (bD (.list ((h.map λr=>r.1).map jk))) o5)) :
  pF Ψ (.seq (.set 4 (.comp [] ["name","chains"] (.tp [0,1]) .val %[.var 3|1] .nop (.var 0))) q) Z (R9 (eI tb (es.map pr)) sr nd h o4 o5):=by
 delta R9 at k ⊢;simp![↓jA];rw[<- fA dO h];refine uB (λr=>T.d (dO r)) (λr=>T.d (.str r.1)) h [] _ (λx z R y=>?_) (by show 0+h.9<=_;omega) ?_;delta dO;simp![↓jA];exact y;rw[Qb,fA (λr:Rw=>jk r.1),show(h.map λr=>jk r.1)=(h.map λr=>r.1).map jk by rw[QU];rfl];simp![↓jA];exact k
theorem Jw(hl:nd.9<=100)(k:pF Ψ q Z (R9 (eI tb (es.map pr)) sr nd h (bD (.list (F.map jk))) (bD (.list ((J6 nd F).map jk))))) :
  pF Ψ (.seq (.set 5 (.comp [] ["name","number"] (.tp [0,1]) .val %[.var 2|1] (.cmp .NotIn (.var 0) (.var 6)) (.var 0))) q) Z (R9 (eI tb (es.map pr)) sr nd h (bD (.list (F.map jk))) o5):=by
 delta R9 at k ⊢;simp![↓jA];rw[<- fA CJ nd];refine dA (λp=>T.d (CJ p)) (λ(p:Str×Int)=>T.d (.str p.1)) (λp=>!decide (p.1∈F)) nd [] _ (λx z R y=>?_) (by show 0+nd.9<=_;omega) ?_;let#[x,n]:=x;delta CJ;simp![↓Zm,fC,UB,SA,true_or];by_cases d:x∈F;rw[dT d]at y ⊢;exact y;rw[dF d]at y ⊢;exact y;rw[Qb,fA (λp:Str×Int=>jk p.1),show((nd.filter λp=>!decide (p.1∈F)).map λp=>jk p.1)=(J6 nd F).map jk by unfold J6;rw[QU];rfl];simp![↓jA];exact k
theorem iw(e:Ψ.sp "told_through"=IE){Q:T->LT->Prop}{z:LS}(v:es.9<=126)(u:sr.9<=11)(a:MF es sr)(hl:z.9<=100)(k:∀ys,yn (L9 es sr F) z ys->Q (.tup [.d (.list (h.map dO)),.lst ((ys.map yr).map T.d)]) []) :
  pF Ψ %[.ret (.tup %[.var 3,.comp [] ["name"] (.nm 0) .val %[.var 5|1] .nop (.tup %[.var 0,.idx (.call "told_through" %[.var 1,.var 2,.var 5,.var 0|1]) (.int 1)|1])|1])|2] (eZ Q) (R9 (eI tb (es.map pr)) sr nd h (bD (.list (F.map jk))) (bD (.list (z.map jk)))):=by
 delta R9;simp![↓jA];rw[<- fA jk z];refine bH (L9 es sr F) (λs=>T.d (.str s)) (λy=>T.d (yr y)) z [] _ (λx i R b=>?_) (by show 0+z.9<=_;omega) λys w=>?_;simp![↓kB,↓XZ,↓Aw,↓zA (md:=[.fro,.fro,.shal]) e rfl rfl];refine#[_,_,_,_,_,rfl,#[v,u,a],λg cut f=>?_];simp![↓Lh,↓Hr];exact#[(),b (x,cut) #[rfl,g,f]];rw[Qb,fA yr ys];simp![↓mq];exact#[(),k ys w]
theorem Zw(z:Ψ.sp "ground_alone"=aE)(l:es.9<=126/\sr.9<=11/\MF es sr/\nd.9<=90/\(nd.map λp=>p.1).Nodup)(k:∀h F,GI es sr nd h F->(∀x,x∈F↔Held es sr nd x)->pF Ψ q Z (R9 (eI tb (es.map pr)) sr nd h o4 o5)) :
  pF Ψ (.seq (.set 3 (.call "ground_alone" %[.var 0,.var 1,.var 2|1])) q) Z [bD (eI tb (es.map pr)),bD (.tuple (sr.map jk)),bD (.list (nd.map CJ)),kv,o4,o5]:=by
 delta R9 at k;simp![↓zA (md:=[]) z rfl rfl];refine EO l λh F g y=>?_;simp![↓Dm];exact k h F g y
end
section
variable{Ψ:PEv}{xs:List (T×Bool)}{C:LT->Prop}{st:List Stp}
theorem Rp(b:Ψ.sp "ground_alone"=aE)(a:Ψ.sp "told_through"=IE):CD Ψ iG v5 AK DI:=by rintro _ Q _ ⟨tb,f,x,nd,rfl,l,q⟩;refine bA [bD (eI tb (f.map pr)),bD (.tuple (x.map jk)),bD (.list (nd.map CJ)),kv,kv,kv] ?_;delta iG;refine Zw b l λy F g k=>?_;let#[u,z,w,i,_]:=l;have m:=g.len;have j:=g.rlen;refine Yw () ?_;rw[<- g.e];refine Jw () (iw a u z w ?_ λh v=>q y F h g k v);unfold J6;rw[QC];exact QZ (Qu _ _) ()
def lQ:PSp where
 run:=λh Q _=>∃(w:Wd) (st:List Stp),h=[.d (iL w st)]/\st.9<=60/\Q (.lst (((st.map λs=>s.1).map nD).map T.d)) []
theorem jc:CD Ψ fK lQ HP JM:=by rintro _ Q _ ⟨w,st,rfl,hl,q⟩;refine bA [bD (iL w st)] ?_;delta fK;simp![↓K4];rw[<- fA gL];refine uB (λs=>T.d (gL s)) (λs=>T.d (nD s.1)) st [] _ (λs x R h=>?_) (by show 0+_<=_;omega) ?_;simp![↓yu];exact h;rw[Qb,fA λs:Stp=>nD s.1];rw[show(st.map λs=>nD s.1)=(st.map λs=>s.1).map nD by rw[QU];rfl];exact q
def Cs(st:List Stp)(t:T):Prop:=(st=[]/\t=.lst [])∨t=.d (.list ((FT st).map nD))
def RV:PSp where
 run:=λh Q _=>∃(w:Wd) (st:List Stp),h=[.d (iL w st)]/\∀t,Cs st t->Q t []
theorem Fj:CD Ψ gK RV LP YM:=by
 rintro _ Q _ ⟨w,st,rfl,x⟩;refine bA [bD (iL w st)] ?_;delta gK;simp![↓vh,↓K4,QC];rcases cQ st with rfl|⟨l,s,rfl⟩
 refine rD (show decide (((qD ([]:List Stp):Nat):Int) > 0)≠kf by decide) ?_;exact#[(),x _ (.inl #[rfl,rfl])];have h:=x _ (.inr rfl);rw[JL]at h;refine yJ (dT (by rw[QI];show(0:Int)<((l.9+1:Nat):Int);omega)) ?_;rw[QR,show BD (l.map gL++[s].map gL) (-1)=kx (gL s) from xS _ _,sB];simp![↓ju];exact h
structure MoO(w:Wd)(st:List Stp):Prop where
 wo:WOk w
 l:st.9<=60
 s:∀s∈st,StK w s
def OV:PSp where
 run:=λh Q _=>∃(w:Wd) (st:List Stp),h=[.d (iL w st)]/\MoO w st/\Q (oI (rB w.es (st.map λs=>s.1))) []
theorem Vj(u:Ψ.sp "past_in"=lQ)(z:Ψ.sp "seen_among"=iI):CD Ψ bK OV FP eM:=by rintro _ Q _ ⟨w,st,rfl,x,q⟩;have hl:=x.l;refine bA [bD (iL w st)] ?_;delta bK;simp![↓ML,↓GL,↓zA (md:=[]) u rfl rfl,↓zA (md:=[.fro,.shal]) z rfl rfl,↓kB,↓XZ];refine#[_,_,rfl,hl,?_];simp![↓kB,↓XZ];refine#[_,_,rfl,(by rw[QC];omega),(λn y=>?_),#[rfl,q]];let#[s,h,rfl]:=QN.mp y;exact(x.s s h).n
def gZ(w:Wd)(st:List Stp)(m:Str):List Pt:=lH w.es (FT st) m
def vM(w:Wd)(st:List Stp)(m:Str):LS:=SF w (rB w.es (st.map λs=>s.1)) m
theorem Js{md:List Md}{ks:List Pt}:XA (.bor::md) ((oI ks,kf)::xs) C=XA md xs λts=>C (.d (oI ks).er::ts):=by have e:lA (.bor::md) ((oI ks,kf)::xs) []=(lA md xs []).map (.d (oI ks).er::·):=rfl;unfold XA;rw[e,TC]
theorem Ys{t:T}(h:Cs st t):XA [] ((t,kf)::xs) C=XA [] xs λts=>C (.d (.list ((FT st).map nD))::ts):=by
 have e:lA [] ((t,kf)::xs) []=(lA [] xs []).map (.d (.list ((FT st).map nD))::·):=by rcases h with⟨rfl,rfl⟩| rfl<;>rfl
 unfold XA;rw[e,TC]
def fQ:PSp where
 run:=λh Q _=>∃(w:Wd) (st:List Stp) (m:Str),h=[.d (iL w st),.d (.str m)]/\MoO w st/\Q (.d (kE (gZ w st m) (vM w st m))) []
theorem Yj(k:Ψ.sp "seers_of"=uM)(v:Ψ.sp "seen_in"=OV)(z:Ψ.sp "edges_of"=fM)(y:Ψ.sp "live_in"=RV):CD Ψ ZN fQ uV kP:=by rintro _ Q _ ⟨w,st,m,rfl,h,q⟩;have a:=h.wo.pl;have x:=CW h.s;refine bA [bD (iL w st),bD (.str m)] ?_;delta ZN;simp![↓ML,↓GL,↓zA (md:=[.fro,.bor]) k rfl rfl,↓zA (md:=[]) v rfl rfl,↓zA (md:=[]) z rfl rfl,↓zA (md:=[]) y rfl rfl,↓kB,↓XZ];refine#[_,_,rfl,h,?_];simp![↓kB,↓XZ,↓Js];refine#[w,_,_,m,rfl,#[Cq _,()],?_];simp![↓ML,↓GL,↓zA (md:=[]) z rfl rfl,↓zA (md:=[]) y rfl rfl];refine#[_,_,rfl,λt u=>?_];simp![↓Ys u];refine#[_,_,_,rfl,x.1,x.2,?_];simp![↓jA];exact#[(),q]
theorem BX{w:Wd}(h:MoO w st)(m:Str):(gZ w st m).9<=126/\(vM w st m).9<=11/\MF (gZ w st m) (vM w st m)/\(VB w).9<=90/\((VB w).map λp=>p.1).Nodup:=by have x:=CW h.s;have v:=h.wo.pl;have u:=j5 w (rB w.es (st.map λs=>s.1)) m;have z:=G8 w.es (FT st) m;have y:=x.1;refine#[by unfold gZ;omega,by unfold vM;omega,U4 h.wo x m,by unfold VB;rw[QC];omega,?_];unfold VB;rw[QU];exact h.wo.pn
theorem mF{α:Type}{body:T->(Option T->Prop)->Prop}(g f:α->T)(P:α->Prop):∀(l:List α) (h:LT) (Q:LT->Prop),(∀x∈l,∀R:Option T->Prop,R kv->(P x->R (kx (f x)))->body (g x) R)->h.9+l.9<=kb->(∀ys:List α,(∀y∈ys,P y)->ys.9<=l.9->Q (h++ys.map f))->vD body (l.map g) h Q
 |[],h,Q,_,hl,q=>by have:=q [] (λ_ z=>(nomatch z)) (Qc _);rw[wV,qF]at this;exact#[by rw[qK]at hl;omega,this]
 |x::r,h,Q,hb,hl,q=>by
  rw[QK]at hl;refine hb x QF _ ?_ λk=>#[(),?_]
  exact mF g f P r _ Q (λz u=>hb z (QG _ u)) () λys v hl=>q ys v (QB0 hl);refine mF g f P r _ Q (λz u=>hb z (QG _ u)) (by rw[QI,Qi];omega) λys v hl=>?_;have:=q (x::ys) (λy w=>(QL.mp w).elim (λe=>e▸k) (v y)) (w9 hl);rw[QT]at this;rw[Q0];exact this
noncomputable def kJ(st:List Stp):List Pt:=match st.getLast? with
 |some s=>s.2.2.2|none=>[]
theorem KL(l:List Stp)(s:Stp):kJ (l++[s])=s.2.2.2:=by unfold kJ;rw[QBD]
def Lm(st:List Stp)(t:T):Prop:=(st=[]/\t=.lst [])∨t=.d (.list ((kJ st).map pr))
def pQ:PSp where
 run:=λh Q _=>∃(w:Wd) (st:List Stp),h=[.d (iL w st)]/\∀t,Lm st t->Q t []
theorem Oj:CD Ψ pK pQ IP UM:=by
 rintro _ Q _ ⟨w,st,rfl,x⟩;refine bA [bD (iL w st)] ?_;delta pK;simp![↓vh,↓K4,QC];rcases cQ st with rfl|⟨l,s,rfl⟩
 refine rD (show decide (((qD ([]:List Stp):Nat):Int) > 0)≠kf by decide) ?_;exact#[(),x _ (.inl #[rfl,rfl])];have h:=x _ (.inr rfl);rw[KL]at h;refine yJ (dT (by rw[QI];show(0:Int)<((l.9+1:Nat):Int);omega)) ?_;rw[QR,show BD (l.map gL++[s].map gL) (-1)=kx (gL s) from xS _ _,sB];simp![↓Et];exact h
theorem fo{t:T}(z:Lm st t){W:LT->Prop}:ZL .val [(t,kf)] W=W (((kJ st).map pr).map T.d):=by rcases z with⟨rfl,rfl⟩| rfl;exact ua (ds:=[]);exact zt
noncomputable def Cn(es:List Pt)(x:Str):List Pt:=es.filter λp=>!decide (p.1=x)
theorem SW{es:List Pt}{x:Str}{p:Pt}:p∈Cn es x↔p∈es/\p.1≠x:=by unfold Cn;rw[QS,Q2,decide_eq_false_iff_not]
noncomputable def Em(es:List Pt)(sr:LS):T:=.tup [.d (.tuple (sr.map jk)),.lst ((es.map pr).map T.d)]
theorem jg(es:List Pt)(sr:LS):(Em es sr).er=YS kd es sr:=by show PyData.tuple [.tuple (sr.map jk),.list (ersT ((es.map pr).map T.d))]=_;rw[JA];rfl
def dQ:PSp where
 run:=λz Q _=>∃(h:List Pt) (y:LS) (x:Str),z=[.d (kE h y),.d (.str x)]/\h.9<=1000/\Q (Em (Cn h x) y) []
theorem dq{a:D}{l:LT}:zD [.d a,.lst l]=.tup [.d a,.lst l]:=rfl
theorem Jj:CD Ψ lE dQ XH yG:=by rintro _ Q _ ⟨y,z,x,rfl,a,q⟩;refine bA [bD (kE y z),bD (.str x)] ?_;delta lE;simp![↓gu,↓fu];rw[<- fA pr];refine dA (λp=>T.d (pr p)) (λ(p:Pt)=>T.d (pr p)) (λp=>!decide (p.1=x)) y [] _ (λp u R h=>?_) (by show 0+_<=_;omega) ?_;simp![↓HL];by_cases d:p.1=x;rw[dT d]at h ⊢;exact h;rw[dF d]at h ⊢;exact h;rw[Qb,fA pr];simp![↓dq];exact#[(),q]
end
section
variable{Ψ:PEv}{E:XE}{r:PT}{Z:PEnds}{i:Nat}{ρ:kA}{es:List Pt}{sr:LS}{xs:List (T×Bool)}{C:LT->Prop}
theorem ux:NH Ψ E r Z i (Em es sr) kf ρ=lB Ψ E r Z (ρ.set i (bD (YS kd es sr))):=by unfold NH;rw[jg];exact t3 #[λh=>h.2,λh=>#[rfl,h]]
theorem Tw:XA [] ((Em es sr,kf)::xs) C=XA [] xs λts=>C (.d (YS kd es sr)::ts):=by have e:lA [] ((Em es sr,kf)::xs) []=(lA [] xs []).map (.d (Em es sr).er::·):=rfl;unfold XA;rw[e,jg,TC]
end
section
variable{w:Wd}{st:List Stp}{m x:Str}{Ψ:PEv}{u:List (Str×LS)}{Z:PEnds}{ns:LN}{a:D}{b:List D}
def vL(w:Wd)(st:List Stp)(m x:Str):List Pt:=Cn (gZ w st m) x
theorem O7(u:MoO w st)(m x:Str):(vL w st m x).9<=126/\(vM w st m).9<=11/\MF (vL w st m x) (vM w st m)/\(VB w).9<=90/\((VB w).map λp=>p.1).Nodup:=by let#[a,b,c,d,e]:=BX u m;exact#[QZ (Qu _ _) a,b,#[c.1,λe h=>c.2 e (SW.mp h).1],d,e]
theorem EZ{K:T->LT->Prop}{E:XE}(u:MoO w st)(q:∀l:LS,(∀y,y∈l↔Held (vL w st m x) (vM w st m) (VB w) y)->l.9<=90->K (.lst ((l.map jk).map T.d)) []):cO LG [.d (wD w),.d (YS kd (vL w st m x) (vM w st m))] K E:=by let#[a,b,c,d,e]:=O7 u m x;have h:=u.wo.pl;exact#[w,kd,_,_,rfl,#[a,b,c,(),u.wo.pn],q]
def ox(w:Wd)(st:List Stp)(x m:Str)(l:LS):Prop:=∀y,y∈l↔Held (vL w st m x) (vM w st m) (VB w) y
def cM:PSp where
 run:=λh Q _=>∃(w:Wd) (st:List Stp) (x m:Str),h=[.d (iL w st),.d (.str x),.d (.str m)]/\MoO w st/\∀l,ox w st x m l->Q (.lst ((l.map jk).map T.d)) []
theorem Nj(v:Ψ.sp "web_without"=dQ)(z:Ψ.sp "web_of"=fQ)(y:Ψ.sp "holders_in"=LG):CD Ψ YC cM yE mD:=by rintro _ Q _ ⟨w,st,x,m,rfl,u,q⟩;have k:=(BX u m).1;refine bA [bD (iL w st),bD (.str x),bD (.str m)] ?_;delta YC;simp![↓ML,↓zA (md:=[]) v rfl rfl,↓zA (md:=[]) z rfl rfl,↓zA (md:=[]) y rfl rfl];refine#[_,_,_,rfl,u,?_];simp![↓jA];refine#[_,_,_,rfl,(),?_];simp![↓Tw];refine EZ u λF h fl=>?_;simp![↓jA];exact q F h
theorem Tk{y:Str}{v:LS}{Q:T->Prop}(hl:u.9<kb)(h:y∉u.map λx=>x.1)(q:Q (YR (u++[(y,v)]))):Ua (YR u) (.d (.str y)) (.lst ((v.map jk).map T.d)) Q:=by
 have e:=Of (v:=v) hl h q;have er:(T.lst ((v.map jk).map T.d)).er=.list (v.map jk):=by show PyData.list (ersT _)=_;rw[JA]
 let#[a,b,c]:=e;refine#[a,b,?_];rw[er];exact c
def Jx(w:Wd)(st:List Stp)(x:Str)(fl:List Pt):Prop:=(∀p∈fl,p∈kJ st/\¬ Held (vL w st p.2 x) (vM w st p.2) (VB w) p.1)/\fl.length<=(kJ st).9
def EV:PSp where
 run:=λh Q _=>∃(w:Wd) (st:List Stp) (x:Str),h=[.d (iL w st),.d (.str x)]/\(MoO w st/\(kJ st).9<=1000/\∀p∈kJ st,p.2∈w.ms)/\∀fl,Jx w st x fl->Q (.lst ((fl.map pr).map T.d)) []
def Rq(w:Wd)(st:List Stp)(x:Str)(u:List (Str×LS))(o3:Option Sl):kA:=[bD (iL w st),bD (.str x),oW (YR u),o3]
theorem gw(k:Ψ.sp "holders_without"=cM)(v:MoO w st)(hl:u.9<=1000)(z:m∉u.map λy=>y.1)(q:∀l,ox w st x m l->Z.nx (Rq w st x (u++[(m,l)]) (bD (.str m)))):pF Ψ rE Z (Rq w st x u (bD (.str m))):=by delta Rq at q ⊢;delta rE;simp![↓zA (md:=[]) k rfl rfl];refine#[_,_,_,_,rfl,v,λl h=>?_];simp![↓jA];refine Tk () z ?_;exact q l h
theorem Pj(X:Ψ.sp "holders_without"=cM)(s:Ψ.sp "held_in"=pQ):CD Ψ YG EV IK FI:=by
 rintro _ Q _ ⟨w,st,x,rfl,⟨n,hl,C⟩,q⟩;have F:=n.wo.ml;refine bA [bD (iL w st),bD (.str x),kv,kv] ?_;delta YG;simp![↓ML,↓GZ];rw[<- fA jk];refine ZB (λm=>T.d (.str m)) (λr f=>∃u i,u.map (λy=>y.1)++r=w.ms/\(∀y∈u,ox w st x y.1 y.2)/\f=Rq w st x u i) ?_ ?_ w.ms _ #[[],kv,rfl,λ_ z=>(nomatch z),rfl];rintro f ⟨u,i,e,g,rfl⟩;have e:u.map (λy=>y.1)=w.ms:=by rw[<- e,qF]
 delta Rq;simp![↓zA (md:=[]) s rfl rfl];refine#[_,_,rfl,λt B=>?_];simp![↓fo B];rw[<- fA pr];have G:∀m∈w.ms,∃v,(m,v)∈u:=λm k=>by rw[<- e]at k;let#[y,j,e]:=QN.mp k;cases e;exact#[y.2,j]
 refine mF (λp=>T.d (pr p)) (λ(p:Pt)=>T.d (pr p)) (λp=>p∈kJ st/\¬ Held (vL w st p.2 x) (vM w st p.2) (VB w) p.1) (kJ st) [] _ (λp h R K W=>?_) (by show 0+_<=_;omega) λY X s=>?_;simp![↓HL,↓Ke,↓Ex];refine Pf (by rw[e];exact C p h) λv hv=>?_;have hv:=g _ hv p.1;simp![fC,UB,SA,true_or];by_cases c:p.1∈v;rw[dT c];exact K;rw[dF c];exact W #[h,λz=>c (hv.mpr z)];rw[Qb,fA pr];exact q Y #[X,s];rintro m r f N E ⟨u,i,e,g,rfl⟩;have nd:=n.wo.mn;rw[<- e]at nd;have A:=aj qD e;rw[QI,QC]at A;refine gw X n () (λz=>(qP.mp nd).2.2 m z m QF rfl) λl o=>E _ #[u++[(m,l)],_,by rw[QR,Q0];exact e,λy j=>?_,rfl];rcases Qe.mp j with z|z;exact g y z;rw[QJ.mp z];exact o
theorem Me{w:Wd}:∀(l:LN) (g:Gs) (n:Nat),∃x s,Oe w g (l++[n])=x++[s]/\s.2.2.2=BE w (g.past++(l++[n])) s.2.2.1
 |[],g,n=>#[[],_,rfl,rfl]|k::l,g,n=>by let#[x,s,e,h]:=Me l (EC w g k) n;refine#[_::x,s,aj (_::·) e,?_];rw[h];show BE w ((g.past++[k])++(l++[n])) _=_;rw[Q0];rfl
theorem uY(y:ns≠[]):∃x s,(fB w ns).steps=x++[s]/\s.2.2.2=BE w ns s.2.2.1:=by
 obtain⟨l,n,rfl⟩:∃l n,ns=l++[n]:=by
  rcases QA4 ns with h|⟨l,n,h⟩
  exact ti h y;exact#[l,n,by rw[h,QA5]]
 rw[DR];exact Me l g0 n
theorem He{w:Wd}(z:WOk w):∀(ns:LN) (g:Gs),∀s∈Oe w g ns,s.2.2.2.9<=1000
 |[],_,s,y=>by cases y|n::r,g,s,y=>by
  rcases QL.mp y with rfl|y;have k:=z.pl;have v:=z.ml;show(BE w _ _).9<=1000;have:∀h:List (Str×Int×Int×Int),(h.flatMap λp=>t8 w (g.past++[n]) (nk w g n) p.1).9<=10 * h.length:=λh=>by
   induction h with
   |nil=>exact Qc _|cons p h e =>
    rw[Wc,QI,QK];have:(t8 w (g.past++[n]) (nk w g n) p.1).9<=10:=by unfold t8;rw[QC];exact QZ (Qu _ _) v
    omega
  have:=this w.ps;unfold BE;omega;exact He z r _ s y
theorem i8(y:ns≠[]):kJ (fB w ns).steps=BE w ns (FT (fB w ns).steps):=by let#[x,s,e,h]:=uY (w:=w) y;rw[e,KL,JL,h]
theorem Ek(y:WOk w)(ns:LN):(kJ (fB w ns).steps).9<=1000:=by
 by_cases c:ns=[];subst c;exact Qs _;let#[x,s,e,h]:=uY (w:=w) c;have:s∈Oe w g0 ns:=by rw[<- DR,e];exact QW _ QF
 rw[e,KL];exact He y ns g0 s this
theorem e8{p:Pt}(h:p∈kJ (fB w ns).steps):p.2∈w.ms:=by by_cases c:ns=[];subst c;cases h;rw[i8 c]at h;let#[q,_,h]:=wK.mp h;let#[m,y,rfl]:=QN.mp h;exact(QS.mp y).1
theorem AW(s:WOk w)(g:∀p∈w.ps,1<=p.2.2.2)(f:oH w ns){y:Str}(X:m∈w.ms):(y,m)∈kJ (fB w ns).steps↔Held (gZ w (fB w ns).steps m) (vM w (fB w ns).steps m) (VB w) y:=by
 let#[E,_,_]:=uN s f;by_cases c:ns=[];subst c;have j:(fB w []).steps=[]:=rfl;rw[j];refine#[λz=>(nomatch z),λz=>?_];exfalso;have C:∀x,¬ Held [] [] (VB w) x:=λx r=>by
  cases r with
  |see _ h=>cases h|@tell _ n F B _ A =>
   let#[p,v,e]:=QN.mp B;cases e;have:=g p v;let#[i,_,K,W]:=A;cases i with
   |nil=>exact ti W (by show ¬ p.2.2.2<=0;omega)|cons c i =>
    have Y:=K c QF;cases Y with|st h _=>cases h|go _ _ h=>exact nomatch (kH.mp h).1
 have o:gZ w [] m=[]:=rfl;have l:vM w [] m=[]:=List.map_eq_nil_iff.mpr (List.filter_eq_nil_iff.mpr λp _ y=>by cases u0 y);rw[o,l]at z;exact C y z;rw[i8 c];unfold gZ vM;rw[E];constructor;intro h;let#[q,_,h]:=wK.mp h;let#[k,hk,e]:=QN.mp h;cases e;exact(UR w _ _ _ _).mp (QS.mp hk).2;intro h;let#[n,f]:=XR h;let#[p,v,e]:=QN.mp f;cases e;exact wK.mpr #[p,v,QN.mpr #[m,QS.mpr #[X,(UR w _ _ _ _).mpr h],rfl]]
noncomputable abbrev Xy:=Str×List Rw×List (Str×LS)
def gt(y:Xy):D:=.tuple [.str y.1,.list (y.2.1.map dO),.list (y.2.2.map yr)]
def zx(w:Wd)(st:List Stp)(x m:Str)(y:Xy):Prop:=y.1=m/\(∀z,z∈y.2.1.map (λr=>r.1)↔Held (vL w st m x) (vM w st m) (VB w) z)/\y.2.1.9<=100
def SV:PSp where
 run:=λh Q _=>∃(w:Wd) (st:List Stp) (x m:Str),h=[.d (iL w st),.d (.str x),.d (.str m)]/\MoO w st/\∀y,zx w st x m y->Q (.d (gt y)) []
theorem Iq:(T.tup [.d a,.lst (b.map T.d)]).er=.tuple [a,.list b]:=by show PyData.tuple [a,.list (ersT (b.map T.d))]=_;rw[JA]
theorem Mw{ds:List D}{n:Bool}{Q:T->Bool->Prop}:DD .Add (.d (.tuple ds)) n (.tup [.d a,.lst (b.map T.d)]) kf Q=DD .Add (.d (.tuple ds)) n (.d (.tuple [a,.list b])) kd Q:=by unfold DD;show _=binT .Add _ (nA (.d (.tuple [a,.list b])) kd).vw Q;rw[<- Iq];rfl
theorem mk_1:zD [.d a]=.d (.tuple [a]):=rfl
theorem Gj(g:Ψ.sp "web_without"=dQ)(f:Ψ.sp "web_of"=fQ)(k:Ψ.sp "ground_by"=v5)(v:Ψ.sp "needs_of"=bM):CD Ψ lK SV MP ZM:=by rintro _ Q _ ⟨w,st,x,m,rfl,u,q⟩;have o:=(BX u m).1;have i:=u.wo.pl;refine bA [bD (iL w st),bD (.str x),bD (.str m),kv] ?_;delta lK;simp![↓zA (md:=[]) g rfl rfl,↓zA (md:=[]) f rfl rfl];refine#[_,_,_,rfl,u,?_];simp![↓jA];refine#[_,_,_,rfl,(),?_];simp![↓ux,↓On,↓Nn,↓ML,↓zA (md:=[]) k rfl rfl,↓zA (md:=[]) v rfl rfl];refine#[(),#[_,rfl,(),?_]];simp![↓jA];refine#[kd,_,_,_,rfl,(O7 u m x),λh F y a b _=>?_];have n:=a.len;have l:=a.rlen;have j:(VB w).9<=90:=(O7 u m x).2.2.2.1;simp![↓mk_1,↓Mw];exact#[by show 3<=_;omega,q (m,h,y) #[rfl,λz=>by rw[<- a.e];exact b z,by show h.9<=100;omega]]
def NV:PSp where
 run:=λh Q _=>∃(w:Wd) (x:Str),h=[.d (wD w),.d (.str x)]/\WOk w/\∀ns st fl ls,oH w ns->st=(fB w ns).steps->Jx w st x fl->yn (zx w st x) w.ms ls->Q (.tup [.lst ((fl.map pr).map T.d),.lst ((ls.map gt).map T.d)]) []
theorem mk_2{a b:LT}:zD [.lst a,.lst b]=.tup [.lst a,.lst b]:=rfl
theorem bx{E:XE}{r:PT}{i:Nat}{ρ:kA}:NH Ψ E r Z i (on w st) kf ρ=lB Ψ E r Z (ρ.set i (bD (iL w st))):=by unfold NH;rw[yg];exact t3 #[λh=>h.2,λh=>#[rfl,h]]
theorem Zj(n:Ψ.sp "last_moment"=mQ)(l:Ψ.sp "left_in"=SV)(j:Ψ.sp "fallen_in"=EV):CD Ψ KN NV bV vP:=by rintro _ Q _ ⟨w,x,rfl,h,q⟩;have o:=h.ml;refine bA [bD (wD w),bD (.str x),kv] ?_;delta KN;simp![↓zA (md:=[]) n rfl rfl];refine#[_,rfl,h,λns v=>?_];let#[_,e,k]:=uN h v;simp![↓bx,↓zA (md:=[]) j rfl rfl,↓GZ];refine#[_,_,_,rfl,#[#[h,e,k],(Ek h ns),(λp z=>e8 z)],λfl g=>?_];simp![↓GZ];rw[<- fA jk];refine bH (zx w (fB w ns).steps x) (λm=>T.d (.str m)) (λy=>T.d (gt y)) w.ms [] _ (λm r R i=>?_) (by show 0+_<=_;omega) λls z=>?_;simp![↓zA (md:=[]) l rfl rfl];refine#[_,_,_,_,rfl,#[h,e,k],λy f=>?_];simp![↓jA];exact i y f;rw[Qb,fA gt];simp![↓mk_2];exact#[(),q ns _ fl ls v rfl g z]
end
section
variable{es:List Pt}{sr F G:LS}{nd:List (Str×Int)}{x:Str}
theorem Ak{y:Str}(h:Held (Cn es x) sr nd y):Held es sr nd y:=Held.sub (λe u=>(SW.mp u).1) (λ_ z=>z) (λ_ n h=>#[n,QBS _,h]) h
theorem C2(v:∀y,y∈F↔Held (Cn es x) sr nd y)(h:Held es sr nd x):x∈F:=by refine ql λc=>c ((gU (λy u=>Ak ((v y).mp u)) (λy n u i=>(v y).mpr (.see u i)) (λy k u w m=>?_) x).mpr h);let#[q,a,b,l]:=m;refine w ((v y).mpr (.tell F u (λz g=>(v z).mp g) #[q,a,λd o=>Chn.sub (λe j=>?_) (λ_ z=>z) (b d o),l]));let#[p,f]:=kH.mp j;exact kH.mpr #[SW.mpr #[p,λe=>c (e▸f)],f]
end
theorem Kf{w:Wd}(g:WOk w){p:Str×Int×Int×Int}(v:p∈w.ps):(p.1,p.2.2.2)∈VB w/\∀k,(p.1,k)∈VB w->k=p.2.2.2:=by
 refine#[QN.mpr #[p,v,rfl],λk hk=>?_];let#[q,u,e]:=QN.mp hk;have key:∀l:List (Str×Int×Int×Int),(l.map λp=>p.1).Nodup->p∈l->q∈l->q.1=p.1->q=p:=by
  intro l;induction l with
  |nil=>exact λ_ z=>(nomatch z)
  |cons a l f =>
   intro h v u e;let#[b,i]:=Qh.mp h;rcases QL.mp v with y|y;rcases QL.mp u with x|x
   ·rw[y,x]
   exact(b (QN.mpr #[q,x,by rw[<- y];exact e])).elim;rcases QL.mp u with x|x
   ·exact(b (QN.mpr #[p,y,by rw[<- x];exact e.symm])).elim
   exact f i y x e
 injection e with e1 e2;rw[<- e2,key w.ps g.pn v u e1]
def Ro(x m:Str):Str×Str×Str:=("see",x,m)
noncomputable def e3:Evt->Str×Str×Str
 | .see _ p m _=>("see",p,m)|.tell _ a b _ _ _=>("tell",a,b)
section
variable{e:Evt}{n m:Bool}{R:T->Prop}
theorem Hn:UA (.d (fE e)) n (.d (.int 0)) m R=R (.d (.str (e3 e).1)):=by
 cases e with|see t p h w=>exact YA (i:=0) rfl|tell t a b h w q=>exact YA (i:=0) rfl
theorem At:UA (.d (fE e)) n (.d (.int 2)) m R=R (.d (.str (e3 e).2.1)):=by
 cases e with|see t p h w=>exact YA (i:=2) rfl|tell t a b h w q=>exact YA (i:=2) rfl
theorem Tt:UA (.d (fE e)) n (.d (.int 3)) m R=R (.d (.str (e3 e).2.2)):=by
 cases e with|see t p h w=>exact YA (i:=3) rfl|tell t a b h w q=>exact YA (i:=3) rfl
end
theorem X5{w:Wd}{ns:LN}(g:WOk w)(u:oH w ns){p:Str×Int×Int×Int}(l:p∈w.ps){m:Str}:(w.es.any λe=>decide (e3 e=Ro p.1 m))=kf↔p.1∈vM w (fB w ns).steps m:=by
 let#[X,_,_]:=uN g u;unfold vM SF;rw[X,wJ,QN];constructor;rintro⟨e,o,h⟩;have h:=u0 h;cases e with|see t y k x=>cases h;let#[i,f,e]:=List.mem_iff_getElem.mp o;refine#[p,QS.mpr #[l,dT (AS.mpr #[i,u.1.mem_iff.mpr (wC.mpr (by rw[QC];exact f)),t,x,?_])],rfl];unfold BA;rw[Qq f,e];rfl|tell t a b k x q=>exact ti (show QY "tell"=QY "see" from aj qk h) (by decide)
 rintro⟨q,j,e⟩;let#[Y,s]:=QS.mp j;let#[n,z,t,x,r]:=AS.mp (u0 s);have v:=E6 u n z;refine#[BA w.es n,?_,dT ?_];unfold BA;rw[Qq v];exact wf v;rw[r,<- e];rfl
theorem Kc{st:List Stp}{t:T}(z:Lm st t)(h:OX (kJ st)){a b:Str}{L:Bool->Prop}(x:OkS a)(hb:OkS b)(q:L (!decide ((a,b)∈kJ st))):KB .NotIn (.d (.tuple [.str a,.str b])) (nA t kf) L:=by
 have e:nA t kf=.d (.list ((kJ st).map pr)):=by rcases z with⟨rfl,rfl⟩| rfl;rfl;rfl
 rw[e];exact LY h x hb q
def UZ(w:Wd)(st:List Stp)(x m:Str)(l:LS):Prop:=(∀y∈l,¬ Held (vL w st m y) (vM w st m) (VB w) x)/\l.9<=11
def PV:PSp where
 run:=λh Q _=>∃(w:Wd) (st:List Stp) (x m:Str),h=[.d (iL w st),.d (.str x),.d (.str m)]/\(MoO w st/\OX (kJ st)/\OkS x/\OkS m)/\∀l,UZ w st x m l->Q (.lst ((l.map jk).map T.d)) []
theorem Dj{Ψ:PEv}(r:Ψ.sp "held_in"=pQ)(o:Ψ.sp "needs_of"=bM)(n:Ψ.sp "holders_without"=cM):CD Ψ uI PV TN UK:=by
 rintro _ Q _ ⟨w,st,x,m,rfl,⟨h,g,e,i⟩,q⟩;have X:=h.wo.pl;have a:(VB w).9=w.ps.length:=by unfold VB;rw[QC]
 refine bA [bD (iL w st),bD (.str x),bD (.str m),kv] ?_;delta uI;simp![↓zA (md:=[]) r rfl rfl];refine#[(),#[_,_,rfl,λt f=>?_]];simp![↓jA];refine Kc f g e i ?_;by_cases c:(x,m)∈kJ st;rw[dT c];simp![↓ML,↓zA (md:=[]) o rfl rfl];refine#[_,rfl,(),?_];simp![↓jA];rw[<- fA CJ];refine uB (λp=>T.d (CJ p)) (λp=>T.d (.str p.1)) (VB w) [] _ (λp Z R j=>?_) (by show 0+_<=_;omega) ?_;delta CJ;simp![↓jA];exact j;rw[Qb,fA λp:Str×Int=>jk p.1,show((VB w).map λp=>jk p.1)=((VB w).map λp=>p.1).map jk by rw[QU];rfl];have b:((VB w).map λp=>p.1).9=w.ps.length:=by rw[QC,a]
 generalize (VB w).map (λp=>p.1)=ns at b ⊢;simp![↓jA];rw[<- fA jk];refine mF (λy=>T.d (.str y)) (λ(y:Str)=>T.d (.str y)) (λy=>¬ Held (vL w st m y) (vM w st m) (VB w) x) ns [] _ (λy Y R k v=>?_) (by show 0+_<=_;omega) λu s W=>?_;simp![↓zA (md:=[]) n rfl rfl];refine#[_,_,_,_,rfl,h,λl hl=>?_];simp![fC,UB,SA,true_or];by_cases d:x∈l;rw[dT d];exact k;rw[dF d];exact v λz=>d ((hl x).mpr z);rw[Qb,fA jk];exact q u #[s,()];rw[dF c];simp![↓jA];exact#[(),q [] #[λ_ z=>(nomatch z),by decide]]
def nQ:PSp where
 run:=λy Q _=>∃(w:Wd) (x m:Str),y=[.d (wD w),.d (.str x),.d (.str m)]/\(WOk w/\OkS x/\OkS m)/\∀h st l,oH w h->st=(fB w h).steps->UZ w st x m l->Q (.lst ((l.map jk).map T.d)) []
theorem Sf{w:Wd}(x:WOk w)(ns:LN):OX (kJ (fB w ns).steps):=λy h=>by by_cases c:ns=[];subst c;cases h;rw[i8 c]at h;exact KR x _ _ y h
theorem Cj{Ψ:PEv}(a:Ψ.sp "leans_in"=PV)(k:Ψ.sp "last_moment"=mQ):CD Ψ xI nQ SN ZK:=by rintro _ Q _ ⟨w,x,m,rfl,⟨h,u,v⟩,q⟩;refine bA [bD (wD w),bD (.str x),bD (.str m)] ?_;delta xI;simp![↓zA (md:=[]) a rfl rfl,↓zA (md:=[]) k rfl rfl];refine#[_,rfl,h,λy z=>?_];let#[_,e,b]:=uN h z;simp![↓Ew];refine#[_,_,_,_,rfl,#[#[h,e,b],Sf h y,u,v],λl hl=>?_];simp![↓jA];exact q y _ l z rfl hl
noncomputable abbrev U9:=Str×LJ
noncomputable def LF(ys:List U9):T:=.dct kd (ys.map λy=>.str y.1) (ys.map λy=>.lst ((y.2.map j0).map T.d))
structure MayO(w:Wd)(c:Nat)(ys:List U9):Prop where
 ks:(ys.map λy=>y.1)=w.ms
 el:∀y∈ys,y.2.9<=c/\∀i∈y.2,0<=i/\i<(w.ps.9:Int)
theorem Hc{ys:List U9}{f:Str}(h:f∈ys.map λy=>y.1):∃i v,cA (ys.map λy=>jk y.1) (.str f)=kx i/\ys[i]?=kx (f,v):=by
 cases e:cA (ys.map λy=>jk y.1) (.str f) with
 |none=>let#[y,u,x]:=QN.mp h;exact ti (QN.mpr #[y,u,aj jk x]) (FA.mp e)|some k =>
  have x:=aC e;rw[QX]at x;cases z:ys[k]? with|none=>rw[z]at x;cases x|some y=>rw[z]at x;have x:jk y.1=.str f:=Qp x;injection x with x;let#[y,v]:=y;cases x;exact#[k,v,rfl,z]
section
variable{ys:List U9}{f:Str}{i:Nat}{v:LJ}
theorem gR{m:Bool}{R:T->Prop}(e:cA (ys.map λy=>jk y.1) (.str f)=kx i)(z:ys[i]?=kx (f,v))(q:R (.lst ((v.map j0).map T.d))):UA (LF ys) kd (.d (.str f)) m R :=
 .inr #[kd,_,_,i,_,rfl,#[_,rfl],e,by rw[QX,z];rfl,q]
theorem OY{Q:T->(T->T)->Prop}(e:cA (ys.map λy=>jk y.1) (.str f)=kx i)(z:ys[i]?=kx (f,v))(q:Q (.lst ((v.map j0).map T.d)) λs=>.dct kd (ys.map λy=>.str y.1) ((ys.map λy=>T.lst ((y.2.map j0).map T.d)).set i s)):Xa (.d (.str f)) (LF ys) Q :=
 #[kd,_,_,i,_,rfl,#[_,rfl],e,by rw[QX,z];rfl,q]
theorem PY{p:Int}(z:ys[i]?=kx (f,v)):T.dct kd (ys.map λy=>.str y.1) ((ys.map λy=>T.lst ((y.2.map j0).map T.d)).set i (.lst ((v.map j0).map T.d++[.d (.int p)])))=LF (ys.set i (f,v++[p])):=by
 unfold LF;have x:(ys.set i (f,v++[p])).map (λy=>jk y.1)=ys.map λy=>jk y.1:=by rw[QCA];exact qO λj=>by rw[qW];split;rename_i e;subst e;split;rw[QX,z];rfl;rename_i h;rw[Qz ()];rfl
 rw[x,QCA];congr 2;show T.lst _=T.lst ((((v++[p]).map j0)).map T.d);rw[QR,QR];rfl
theorem RY{w:Wd}{c:Nat}{p:Int}(h:MayO w c ys)(z:ys[i]?=kx (f,v))(b:0<=p)(a:p<(w.ps.9:Int)):MayO w (c+1) (ys.set i (f,v++[p])):=by
 refine#[?_,λy k=>?_];rw[<- h.ks,QCA];exact qO λj=>by rw[qW];split;rename_i e;subst e;split;rw[QX,z];rfl;rw[Qz ()];rfl
 rcases List.mem_or_eq_of_mem_set k with k|rfl
 ·exact#[QB0 (h.el y k).1,(h.el y k).2]
 let#[l,g]:=h.el _ (Qw z);refine#[by rw[QI,Qi];exact w9 l,λx u=>?_];rcases Qe.mp u with u|u;exact g x u;rw[QJ.mp u];exact#[b,a]
end
section
variable{Ψ:PEv}{E:XE}{ρ:kA}{K:TK}{ys:List U9}{Q:T->LT->Prop}{t:T}{Z:PEnds}{w:Wd}{n k p a s:Int}{c i j:Nat}{f o:Str}{o10 o11 o9 o7:Option Sl}{ns:LJ}
theorem CY(l:LJ):FF (.list (l.map j0)):=Cf (Jq (n:=0) (iq λa _=>Cv)) (by decide)
theorem dr{l:LJ}{L:Bool->Prop}(q:L (decide (l=[]))):KB .Eq (.lst ((l.map j0).map T.d)) (nA (.lst []) kf) L:=by
 show PR .Eq (.list (ersT ((l.map j0).map T.d))) (.list []) L;rw[JA];refine#[CY l,CY [],?_];cases l with|nil=>exact q|cons a l=>exact q
noncomputable def vN:Evt->Bool
 | .see _ _ _ _=>kf|.tell _ _ _ _ _ _=>kd
theorem Bm{b:PX}:z5 (LF ys) kd Ψ b E ρ K=jB Ψ b E (lockA ρ) λy m _=>K y m ρ:=rfl
def EF:PSp where
 md:=[.fro,.fro,.fro,.fro,.chg]
 run:=λx Q _=>∃(w:Wd) (n k:Int) (c:Nat) (ys:List U9),x=[.d (.int n),.d (.int k),.d (.list (w.ps.map xG)),.d (.list (w.ms.map jk)),LF ys]/\((0<=n/\0<=k/\k<=1000)/\(2<=w.ps.9/\w.ps.9<=11/\(w.ps.map λp=>p.1).Nodup)/\(1<=w.ms.9/\w.ms.9<=10)/\c<=1000/\MayO w c ys)/\∀e h,fL w e->MayO w (c+1) h->((∀y∈ys,y.2=[])->vN e=kf)->Q (.d (fE e)) [LF h]
theorem L8{u:T}{a b c d:Option Sl}{σ:kA}:(eJ 4 Q).rt t (a::b::c::d::kx (.own u)::σ)=Q t [u]:=rfl
def Bn(w:Wd)(n k:Int)(ys:List U9)(f o:Str)(t p:Int)(o10 o11:Option Sl):kA:=[bD (.int n),bD (.int k),bD (.list (w.ps.map xG)),bD (.list (w.ms.map jk)),oW (LF ys),bD (.int w.ps.9),bD (.str f),bD (.int t),bD (.str o),bD (.int p),o10,o11]
theorem ol{t:Int}{v:LJ}(X:Z.rt=(eJ 4 Q).rt)(m:MayO w c ys)(A:c<=1000)(W:cA (ys.map λy=>jk y.1) (.str f)=kx i)(z:ys[i]?=kx (f,v))(Y:f∈w.ms)(r:OkS o)(b:0<=p)(u:p<(w.ps.9:Int))
  (q:∀e h,fL w e->MayO w (c+1) h->vN e=kf->Q (.d (fE e)) [LF h]):pF Ψ %[.pap 4 (.var 6) (.var 9),.ret (.tup %[.str "see",.var 7,.idx (.idx (.var 2) (.var 9)) (.int 0),.var 6,.var 8|1])|2] Z (Bn w n k ys f o t p o10 o11):=by
 have hv:v.9<=c:=(m.el _ (Qw z)).1;delta Bn;simp![↓jA];refine OY W z #[_,rfl,?_];simp![↓jA];refine#[by rw[QC,QC];omega,?_];rw[show(T.d (j0 p)).er=.int p from rfl,PY z];refine FB (f:=xG) (l:=w.ps) (#[#[]],0,0,0) b u ?_;have g:=(YB (l:=w.ps) (d:=(#[#[]],0,0,0)) b u).2;generalize gI w.ps p (#[#[]],0,0,0)=x at g ⊢;simp![↓LL,X,↓L8];exact#[(),q (.see t x.1 f o) _ #[#[x,g,rfl],Y,r] (RY m z b u) rfl]
theorem Oq(pn:(w.ps.map λp=>p.1).Nodup){q:Int}(b:0<=p)(u:p<(w.ps.9:Int))(z:0<=q)(y:q<(w.ps.9:Int))(n:p≠q){d:Str×Int×Int×Int}:(gI w.ps p d).1≠(gI w.ps q d).1:=λe=>by
 have h:∀i:Int,0<=i->i<(w.ps.9:Int)->(w.ps.map λp=>p.1)[i.toNat]?=kx (gI w.ps i d).1:=λi g x=>by let#[v,m,l]:=uS (xs:=w.ps) g x;unfold gI;rw[m,QX,l];rfl
 have x:=h p b u;rw[e,<- h q z y]at x;have:=(List.getElem?_inj (i:=p.toNat) (j:=q.toNat) (by rw[QC];omega) pn).mp x;omega
theorem Xd{t:Int}{v:LJ}(A:MayO w c ys)(S:c<=1000)(M:cA (ys.map λy=>jk y.1) (.str f)=kx i)(m:ys[i]?=kx (f,v))(L:f∈w.ms)(B:OkS o)(Y:0<=p)(X:p<(w.ps.9:Int))(pn:(w.ps.map λp=>p.1).Nodup)(p2:2<=w.ps.9)(G:w.ps.9<=11)
  (q:∀e b,fL w e->MayO w (c+1) b->Q (.d (fE e)) [LF b]):pF Ψ eF (eJ 4 Q) (Bn w n k ys f o t p o10 o11):=by
 have hv:v.9<=c:=(A.el _ (Qw m)).1;have N:=mB (n / 1000000) (show 0<(w.ps.9:Int) - 1 by omega);have u:=mB (p+1+n / 1000000 % ((w.ps.9:Int) - 1)) (show 0<(w.ps.9:Int) by omega);have P:=mB (n / 360) (show(0:Int)<3 by decide);have W:p≠(p+1+n / 1000000 % ((w.ps.9:Int) - 1)) % w.ps.length:=by generalize n / 1000000 % ((w.ps.9:Int) - 1)=r at N;rcases Int.lt_or_le (p+1+r) w.ps.9 with h|h;rw[QB1 () h];omega;rw[<- Int.sub_emod_right,QB1 () ()];omega
 delta Bn;delta eF;simp![↓jA];generalize (p+1+n / 1000000 % ((w.ps.9:Int) - 1)) % w.ps.9=r at u W ⊢;refine#[(),(),OY M m #[_,rfl,by rw[QC,QC];omega,(),(),?_]];rw[show(T.d (j0 r)).er=.int r from rfl];simp only[PY m];refine uB (λj:Nat=>T.d (.int (j:Int))) (λj:Nat=>T.d (.str (gI w.ps ((n / 100000000+j) % w.ps.9) (#[#[]],0,0,0)).1)) (Qo (n / 360 % 3).toNat) [] _ (λj O R J=>?_) (by rw[qX];show 0+_<=_;omega) ?_;have g:=mB (n / 100000000+j) (show 0<(w.ps.9:Int) by omega);simp![↓jA];refine#[(),FB (f:=xG) (l:=w.ps) (#[#[]],0,0,0) g.1 g.2 ?_];simp![↓LL];exact J;have z:∀x∈(Qo (n / 360 % 3).toNat).map (λj:Nat=>(gI w.ps ((n / 100000000+j) % w.ps.9) (#[#[]],0,0,0)).1),oe w x:=λx I=>by let#[j,_,rfl]:=QN.mp I;have g:=mB (n / 100000000+j) (show 0<(w.ps.9:Int) by omega);exact#[_,(YB (l:=w.ps) (d:=(#[#[]],0,0,0)) g.1 g.2).2,rfl]
 rw[Qb,fA (λj:Nat=>jk (gI w.ps ((n / 100000000+j) % w.ps.9) (#[#[]],0,0,0)).1),show((Qo (n / 360 % 3).toNat).map λj:Nat=>jk (gI w.ps ((n / 100000000+j) % w.ps.9) (#[#[]],0,0,0)).1)=((Qo (n / 360 % 3).toNat).map λj:Nat=>(gI w.ps ((n / 100000000+j) % w.ps.9) (#[#[]],0,0,0)).1).map jk by rw[QU];rfl];generalize (Qo (n / 360 % 3).toNat).map (λj:Nat=>(gI w.ps ((n / 100000000+j) % w.ps.9) (#[#[]],0,0,0)).1)=bl at z ⊢;rw[i7];simp_arith![↓jA];refine FB (f:=xG) (l:=w.ps) (#[#[]],0,0,0) Y X ?_;simp![↓LL];refine FB (f:=xG) (l:=w.ps) (#[#[]],0,0,0) u.1 u.2 ?_;simp![↓LL,↓L8];have F:=(YB (l:=w.ps) (d:=(#[#[]],0,0,0)) Y X).2;have C:=(YB (l:=w.ps) (d:=(#[#[]],0,0,0)) u.1 u.2).2;exact#[(),q (.tell t _ _ f o bl) _ #[#[_,F,rfl],#[_,C,rfl],L,Oq pn Y X u.1 u.2 W,B,z] (RY A m u.1 u.2)]
theorem M6(b:Ψ.sp "_law_name"=GG):CD Ψ oK EF PP XM:=by
 rintro _ Q _ ⟨w,n,k,c,ys,rfl,⟨⟨n0,k0,k1⟩,⟨P,C,O⟩,⟨m1,R⟩,L,X⟩,q⟩;refine xK [bD (.int n),bD (.int k),bD (.list (w.ps.map xG)),bD (.list (w.ms.map jk)),oW (LF ys),kv,kv,kv,kv,kv,kv,kv] rfl rfl rfl ?_;have dm:=mB n (show 0<(w.ms.9:Int) by omega);have J:=mB (n / 2) (show(0:Int)<4 by decide);delta oK;simp_arith![QC,↓zA (md:=[]) b rfl rfl];refine#[(),FB (f:=jk) (l:=w.ms) #[#[]] dm.1 dm.2 ?_];have Y:=(YB (l:=w.ms) (d:=(#[#[]]:Str)) dm.1 dm.2).2;generalize gI w.ms (n % w.ms.9) #[#[]]=f at Y ⊢;refine#[SX.ok (.inl #[(),()]),(),FB (f:=j0) (l:=[0,0,0,8]) 0 J.1 J.2 ?_];simp![↓zA (md:=[]) b rfl rfl];generalize (if 3 * k - gI [0,0,0,8] (n / 2 % 4) 0 > 0 then 3 * k - gI [0,0,0,8] (n / 2 % 4) 0 else 0)=t;refine#[_,_,rfl,?_];have B:=sW (n / 100 % 1000000000) 7;generalize iT (n / 100 % 1000000000) 7=o at B ⊢;simp![↓jA];have r:=mB (n / 10000) (show 0<(w.ps.9:Int) by omega);refine#[(),?_];generalize n / 10000 % (w.ps.9:Int)=p at r ⊢;let#[i,v,m,u]:=Hc (f:=f) (by rw[X.ks];exact Y);simp![↓Vm,↓Bm];refine gR m u ?_;have hv:=X.el _ (Qw u);have x:=ol (Ψ:=Ψ) (Z:=eJ 4 Q) (Q:=Q) (n:=n) (k:=k) (t:=t) (o10:=kv) (o11:=kv) rfl X L m u Y B r.1 r.2 λe y b H S=>q e y b H λ_=>S;unfold Bn at x;revert x;simp![↓jA];intro x;refine#[(),dr ?_];by_cases A:v=[];rw[dT A];exact x;rw[dF A];refine rD QD ?_;by_cases N:n / 8 % 5=0;rw[dT N];exact x;rw[dF N];refine rD QD ?_;have h:=λ(I:Int) (h0:0<=I) (b:I < (w.ps.9:Int))=>Xd (Ψ:=Ψ) (Q:=Q) (n:=n) (k:=k) (t:=t) (o10:=kv) (o11:=kv) X L m u Y B h0 b O P C λe y g1 g2=>q e y g1 g2 λg=>(A (g _ (Qw u))).elim;unfold Bn at h;by_cases M:0<n / 40 % 9;rw[dT M,tt rfl];simp![↓Bm];refine gR m u ?_;simp![↓Bm];refine gR m u ?_;simp![QC];have F:0<(v.9:Int):=by have:v.9≠0:=λz=>A (wc.mp z);omega
 have W:=mB (n / 10000) F;refine#[F,FB (f:=j0) (l:=v) 0 W.1 W.2 ?_];have G:=hv.2 _ (YB (l:=v) (d:=(0:Int)) W.1 W.2).2;exact h _ G.1 G.2;rw[dF M];exact rD QD (h p r.1 r.2)
noncomputable abbrev Jn:List Md:=[.fro,.fro,.fro,.fro,.chg]
theorem re{a b c d:PX}{p:PSp}(h:Ψ.sp f=p)(g:p.md=Jn)(l:ρ[j]?=kx (kx (.own t)))
  (q:BJ Ψ %[a,b,c,d,.var j|1] E Jn (ρ.set j kv) λxs x=>∃ts,lA Jn xs [t]=kx ts/\p.run ts (λr z=>∃t',z=[t']/\K r kf (x.set j (kx (.own t')))) E):jB Ψ (.call f %[a,b,c,d,.var j|1]) E ρ K:=by
 have v:∀x:kA,(λ(r:T) (z:LT)=>∃y,dB [j] z x=kx y/\K r kf y)=λr z=>∃t',z=[t']/\K r kf (x.set j (kx (.own t'))):=by
  intro x;funext r z
  match z with
  |[]=>exact t3 #[λ#[_,e,k]=>(by cases e),λ#[_,e,k]=>(by cases e)]|[t]=>exact t3 #[λ#[_,e,k]=>by cases e;exact#[t,rfl,k],λ#[_,e,k]=>by cases e;exact#[_,rfl,k]]|_::_::_=>exact t3 #[λ#[_,e,k]=>(by cases e),λ#[_,e,k]=>(by cases e)]
 show ∃z,rA (vA (Ψ.sp f).md %[a,b,c,d,.var j|1]) ρ=kx z/\(vA (Ψ.sp f).md %[a,b,c,d,.var j|1]).Nodup/\(pe Ψ %[a,b,c,d,.var j|1] E).a (Ψ.sp f).md (clear (vA (Ψ.sp f).md %[a,b,c,d,.var j|1]) ρ) λxs x=>∃ts,lA (Ψ.sp f).md xs z=kx ts/\(Ψ.sp f).run ts (λr u=>∃y,dB (vA (Ψ.sp f).md %[a,b,c,d,.var j|1]) u x=kx y/\K r kf y) E;rw[h,g];refine#[[t],?_,Qh.mpr #[λm=>(by cases m),Qx],?_];show(match ρ[j]? with|some (kx (.own t))=>(rA [] ρ).map (t::·)|_=>kv)=_;rw[l];rfl;show(pe Ψ %[a,b,c,d,.var j|1] E).a Jn (ρ.set j kv) λxs x=>∃ts,lA Jn xs [t]=kx ts/\p.run ts (λr u=>∃y,dB [j] u x=kx y/\K r kf y) E;simp only[v];exact q
theorem N9{y:PX}{md:List Md}{M:List (T×Bool)->kA->Prop}:BJ Ψ (.acons (.var j) y) E (.chg::md) ρ M=BJ Ψ y E md ρ λxs x=>M ((.d .none,kf)::xs) x:=t3 #[λh=>h.2,λh=>#[rfl,h]]
theorem bw{a b c d:D}{k l m n:Bool}:lA Jn [(.d a,k),(.d b,l),(.d c,m),(.d d,n),(.d .none,kf)] [t]=kx [.d a,.d b,.d c,.d d,t]:=by cases k<;>cases l<;>cases m<;>cases n<;>rfl
def Oh(ns:LJ)(a s n:Int)(h:List (Str×Int×Int×Int))(x:LS)(y:List Pt)(o7 o8 o9:Option Sl):kA:=[kx (.bor (sD ns)),oW (m9 a),bD (.int s),bD (.int n),bD (.list (h.map xG)),bD (.list (x.map jk)),oW (.lst ((y.map pr).map T.d)),o7,o8,o9,kv,kv,kv,kv]
theorem ou(G:Ψ.sp "_law_next"=GD){A:List (Str×Int×Int×Int)}{h:LS}{u:List Pt}{j:Int}(hb:tE ns)(I:0<=a)(M:a<1000)(B:∀m∈h,OkS m)(Y:0<=j)(J:j<k)(L:u.9<=50)(W:∀p∈u,OkS p.1/\OkS p.2)
  (q:∀z o9,z.9<=u.9+1->(∀p∈z,OkS p.1/\OkS p.2)->Z.nx (Oh ns (a+1) s n A h z (bD (.int j)) (bD (.int k)) o9)):pF Ψ tG Z (Oh ns a s n A h u (bD (.int j)) (bD (.int k)) o9):=by
 delta Oh at q ⊢;delta tG;simp![↓zE (md:=[]) G rfl rfl];refine#[_,_,rfl,hb,#[I,()],#[_,rfl,?_]];generalize PC ns (a+1)=m;simp_arith![QC];by_cases b:k<(h.9:Int);refine yJ (dT b) ?_;by_cases C:m % 5<2;refine yJ (dT C) ?_;have X:=B _ (YB (l:=h) (d:=#[#[]]) Y ()).2;have ok:=B _ (YB (l:=h) (d:=#[#[]]) () b).2;refine FB (f:=jk) #[#[]] Y () (FB (f:=jk) #[#[]] () b #[(),FB (f:=jk) #[#[]] () b (FB (f:=jk) #[#[]] Y () #[(),(),?_])]);generalize gI h j #[#[]]=x at X ⊢;generalize gI h k #[#[]]=y at ok ⊢;have r:=mB (m / 5) (show(0:Int)<2 by decide);refine#[rfl,?_];show UA (.lst ((([(x,y),(y,x)]:List Pt).map pr).map T.d)) kf _ _ _;rw[Rn];refine FB (f:=pr) (l:=[(x,y),(y,x)]) (x,y) r.1 r.2 ?_;have e:=(YB (l:=([(x,y),(y,x)]:List Pt)) (d:=(x,y)) r.1 r.2).2;generalize gI ([(x,y),(y,x)]:List Pt) (m / 5 % 2) (x,y)=g at e ⊢;have F:OkS g.1/\OkS g.2:=by rcases QL.mp e with rfl|e;exact#[X,ok];rw[QJ.mp e];exact#[ok,X]
 simp![↓jA];refine#[by rw[QC,QC];omega,?_];have q:=q (u++[g]) (bD (.int m)) (by rw[QI,Qi];omega) λp v=>by rcases Qe.mp v with v|v;exact W p v;rw[QJ.mp v];exact F
 rw[QR,QR]at q;exact q;rw[dF C];exact rD QD (q u _ () W);rw[dF b];exact rD QD (q u _ () W)
theorem Gc{Q:T->Prop}(hl:ys.9<1000)(h:f∉ys.map λy=>y.1)(q:Q (LF (ys++[(f,[])]))):ft (.str f) (LF ys) Q:=by refine#[_,_,rfl,#[f,rfl],by rw[QC];omega,FA.mpr λz=>h ?_,?_];let#[y,x,e]:=QN.mp z;injection e with e;exact QN.mpr #[y,x,e];unfold LF at q;rw[QR,QR]at q;exact q
def Im(ns:LJ)(a s n:Int)(w:Wd)(ys:List U9)(o7 o9 o11 h:Option Sl):kA:=[kx (.bor (sD ns)),oW (m9 a),bD (.int s),bD (.int n),bD (.list (w.ps.map xG)),bD (.list (w.ms.map jk)),oW (.lst ((w.ag.map pr).map T.d)),o7,kv,o9,oW (LF ys),o11,h,kv]
theorem su(r:Ψ.sp "_law_next"=GD)(m:Ψ.sp "_law_event"=EF){j:Int}{x:Option Sl}(hb:tE ns)(B:0<=a)(C:a<1000)(l:0<=j)(g:j<=1000)(p2:2<=w.ps.9)(z:w.ps.9<=11)(pn:(w.ps.map λp=>p.1).Nodup)(b:1<=w.ms.9)(u:w.ms.9<=10)(A:c<=1000)(v:MayO w c ys)
  (q:∀e h,fL w e->MayO w (c+1) h->((∀y∈ys,y.2=[])->vN e=kf)->K (.d (fE e)) kf (bD (.int j)::Im ns (a+1) s n w h o7 o9 o11 x)) :
  jB Ψ (.call "_law_event" %[.call "_law_next" %[.var 1,.var 2|1],.var 0,.var 5,.var 6,.var 11|1]) (λ_=>False) (bD (.int j)::Im ns a s n w ys o7 o9 o11 x) K:=by
 delta Im;refine re (t:=LF ys) m rfl rfl ?_;simp![↓kB,↓N9,↓zE (md:=[]) r rfl rfl];refine#[_,_,rfl,hb,#[B,()],#[_,rfl,_,bw,w,_,j,c,ys,rfl,#[#[Dd _ _,l,g],#[p2,z,pn],#[b,u],A,v],λe h W Y X=>#[_,rfl,?_]]];exact q e h W Y X
theorem Sq{l:List Evt}{e:Evt}(h:fL w e):fL #[w.ps,w.ms,w.ag,l] e:=by cases e<;>exact h
def xM:PSp where
 md:=[.shal]
 run:=λh Q _=>∃ns:LJ,h=[sD ns]/\tE ns/\∀w:Wd,WOk w->(∀p∈w.ps,1<=p.2.2.2)->2<=w.ps.9->(∃e r,w.es=e::r/\vN e=kf)->Q (.d (wD w)) []
structure W0(w:Wd):Prop where
 p2:2<=w.ps.9
 p5:w.ps.9<=11
 pn:(w.ps.map λp=>p.1).Nodup
 po:∀p∈w.ps,OkS p.1
 p1:∀p∈w.ps,1<=p.2.2.2
 m1:1<=w.ms.9
 m3:w.ms.9<=10
 mn:w.ms.Nodup
 mo:∀m∈w.ms,OkS m
 ao:∀p∈w.ag,OkS p.1/\OkS p.2
 al:w.ag.9<=100
theorem W0.ok(h:W0 w){es:List Evt}(hl:es.9<=60)(x:∀e∈es,fL w e):WOk #[w.ps,w.ms,w.ag,es]:=
 #[h.ao,h.al,h.p5,h.pn,h.po,h.m3,h.mo,h.mn,hl,λe z=>Sq (x e z)]
theorem Ph(G:Ψ.sp "_law_next"=GD)(F:Ψ.sp "_law_event"=EF){cnt:Int}{o8:Option Sl}(hb:tE ns)(H:0<=a)(S:a<=100)(R:1<=cnt)(P:cnt<=60)(g:W0 w)(b:MayO w 0 ys)
  (q:∀es,es.9<=60->(∀e∈es,fL w e)->(∃e r,es=e::r/\vN e=kf)->Q (.d (wD #[w.ps,w.ms,w.ag,es])) []) :
  pF Ψ %[.set 13 (.eff (.comp [kd,kd,kd,kd,kd,kd,kd,kd,kf] ["_law_k"] (.nm 0) .rng1 %[.var 12|1] .nop (.call "_law_event" %[.call "_law_next" %[.var 1,.var 2|1],.var 0,.var 5,.var 6,.var 11|1]))),.frz [6] (.ret (.tup %[.var 4,.var 5,.var 6,.var 13|1]))|2] (eZ Q) [kx (.bor (sD ns)),oW (m9 a),bD (.int s),bD (.int n),bD (.list (w.ps.map xG)),bD (.list (w.ms.map jk)),oW (.lst ((w.ag.map pr).map T.d)),o7,o8,o9,oW (LF ys),o11,bD (.int cnt),kv]:=by
 simp![↓jA];refine#[(),(),?_];refine aP (λi:Nat=>T.d (.int (i:Int))) (λr u ρ=>∃(j:Nat) (es:List Evt) (ys:List U9),r=List.range' j (cnt.toNat - j)/\j<=cnt.toNat/\u=es.map fE/\es.9=j/\(∀e∈es,fL w e)/\MayO w j ys/\(0<j->∃e r,es=e::r/\vN e=kf)/\ρ=Im ns (a+j) s n w ys o7 o9 o11 (bD (.int cnt))) ?_ ?_ _ [] _ #[0,[],ys,QBC,Qs _,rfl,rfl,λ_ z=>(nomatch z),b,λz=>ti z (qj 0),?_];rintro u ρ ⟨j,es,ys,e,B,rfl,X,m,b,l,rfl⟩;have e:=aj qD e;rw[WV,qK]at e;have:j=cnt.toNat:=()
 refine#[by rw[QC];omega,?_];delta Im;simp![↓jA];rw[show(T.lst ((w.ag.map pr).map T.d)).er=.list (w.ag.map pr) by show PyData.list (ersT _)=_;rw[JA]];exact#[(),q es () m (l ())];rintro x r u ρ N C ⟨j,es,ys,e,B,rfl,X,m,b,l,rfl⟩;have M:=aj qD e;rw[WV,QK]at M;rw[show cnt.toNat - j=(cnt.toNat - (j+1))+1 by omega,QCK]at e;injection e with e3 e4;subst e3;refine#[by rw[QC];omega,su G F hb () () () () g.p2 g.p5 g.pn g.m1 g.m3 (c:=x) () b λe v L J I=>#[rfl,C _ _ #[x+1,es++[e],v,e4,(),by rw[QR];rfl,by rw[QI,X];rfl,λy h=>?_,J,λ_=>?_,?_]]];rcases Qe.mp h with h|h
 ·exact m y h
 rw[QJ.mp h];exact L;rcases Nat.eq_zero_or_pos x with z|z
 ·subst z
  rw[wc.mp X];exact#[e,[],rfl,I λy h=>wc.mp (Nat.le_zero.mp (b.el y h).1)]
 let#[O,A,W,Y]:=l z;rw[W];exact#[O,A++[e],rfl,Y];show Im ns (a+x+1) s n w v o7 o9 o11 _=_;rw[show a+((x+1:Nat):Int)=a+x+1 by omega];rw[show a+((0:Nat):Int)=a from Int.add_zero a];rfl
def lu(ns:LJ)(a s n:Int)(h:List (Str×Int×Int×Int))(x:LS)(y:List Pt)(ys:List U9)(o7 o8 o9 o11:Option Sl):kA:=[kx (.bor (sD ns)),oW (m9 a),bD (.int s),bD (.int n),bD (.list (h.map xG)),bD (.list (x.map jk)),oW (.lst ((y.map pr).map T.d)),o7,o8,o9,oW (LF ys),o11,kv,kv]
theorem Lc(s:Int){k:Nat}(hk:k<=10):((Qo k).map λj:Nat=>iT s (10+j)).Nodup:=by
 refine wU _ (R:=λi j:Nat=>i≠j/\i<10/\j<10) (λi j h e=>h.1 ?_) ?_;have:=FY () () () () e;omega;refine qw (R:=λi j:Nat=>i≠j) (λy x h=>#[h,?_,?_]) QCJ
 ·have:=wC.mp y;omega
 have:=wC.mp x;omega
theorem D6(h1:Ψ.sp "_law_draw"=MG)(W:Ψ.sp "_law_next"=GD)(I:Ψ.sp "_law_people"=HJ)(P:Ψ.sp "_law_name"=GG)(h5:Ψ.sp "_law_event"=EF):CD Ψ mK xM NP KM:=by
 rintro _ Q _ ⟨ns,rfl,hb,q⟩;refine bA [kx (.bor (sD ns)),kv,kv,kv,kv,kv,kv,kv,kv,kv,kv,kv,kv,kv] ?_;delta mK;simp![↓zA (md:=[.shal]) h1 rfl rfl,↓zE (md:=[]) W rfl rfl,↓zE (md:=[]) I rfl rfl];refine#[(),#[_,_,rfl,hb,#[(),()],?_]];simp![↓zE (md:=[]) W rfl rfl,↓zE (md:=[]) I rfl rfl];refine#[_,0,rfl,hb,#[(),()],#[_,rfl,?_]];generalize PC ns 0 % 1000000000000=s;generalize PC ns (0+1)=n;have d4:=mB n (show(0:Int)<4 by decide);have u:=mB (n / 4) (show(0:Int)<4 by decide);obtain⟨k,ek⟩:∃k:Nat,2+n % 4=(k:Int):=#[(2+n % 4).toNat,()]
 simp_arith![↓zE (md:=[]) I rfl rfl,ek];refine#[_,0+1,_,k,rfl,#[hb,(),(),()],#[_,rfl,?_]];have H:(PJ ns (0+1) s k).9=k:=by unfold PJ;rw[QC,qX]
 have O:=Y0 ns (0+1) s (k:=k) ();have g:∀p∈PJ ns (0+1) s k,OkS p.1/\1<=p.2.2.2:=λp h=>by let#[j,_,rfl]:=QN.mp h;exact#[sW _ _,Vv _]
 generalize PJ ns (0+1) s k=ps at H O g ⊢;simp_arith![↓zA (md:=[]) P rfl rfl];refine#[(),FB (f:=j0) (l:=[1,2,3,3]) 0 u.1 u.2 ?_];have Y:=(YB (l:=[1,2,3,3]) (d:=(0:Int)) u.1 u.2).2;have Y:1<=gI [1,2,3,3] (n / 4 % 4) (0:Int)/\gI [1,2,3,3] (n / 4 % 4) (0:Int)<=3:=by generalize gI [1,2,3,3] (n / 4 % 4) (0:Int)=z at Y;simp at Y;omega
 generalize gI [1,2,3,3] (n / 4 % 4) (0:Int)=mc at Y ⊢;simp![↓jA];refine#[(),(),uB (λj:Nat=>T.d (.int (j:Int))) (λj:Nat=>T.d (.str (iT s (10+j)))) (Qo mc.toNat) [] _ (λj hj R hR=>?_) (by rw[qX];show 0+_<=_;omega) ?_];simp![↓zA (md:=[]) P rfl rfl];refine#[_,_,rfl,?_];simp![↓jA];exact hR;have X:=Lc s (k:=mc.toNat) ();have ml:((Qo mc.toNat).map λj:Nat=>iT s (10+j)).9=mc.toNat:=by rw[QC,qX]
 have C:∀m∈(Qo mc.toNat).map (λj:Nat=>iT s (10+j)),OkS m:=λm hm=>by let#[j,_,rfl]:=QN.mp hm;exact sW _ _
 rw[Qb,fA (λj:Nat=>jk (iT s (10+j))),show((Qo mc.toNat).map λj:Nat=>jk (iT s (10+j)))=((Qo mc.toNat).map λj:Nat=>iT s (10+j)).map jk by rw[QU];rfl];generalize (Qo mc.toNat).map (λj:Nat=>iT s (10+j))=ms at X ml C ⊢;simp![↓jA];refine#[(),(),(),(),(),rfl,?_];show ZL .val [(.lst ((([(0,1),(0,2),(1,2)]:List (Int×Int)).map λp=>PyData.tuple [.int p.1,.int p.2]).map T.d),kf)] _;rw[ua,<- fA λp:Int×Int=>PyData.tuple [.int p.1,.int p.2]];refine ZB (λp:Int×Int=>T.d (.tuple [.int p.1,.int p.2])) (λr ρ=>∃(i:Nat) (x:List Pt) (o7 o8 o9:Option Sl),i+r.9=3/\(∀p∈r,0<=p.1/\p.1<p.2)/\x.9<=i/\(∀p∈x,OkS p.1/\OkS p.2)/\ρ=Oh ns (0+1+k+i) s n ps ms x o7 o8 o9) ?_ ?_ _ _ #[0,[],kv,kv,kv,rfl,by decide,Qc 0,λ_ z=>(nomatch z),?_];rintro ρ ⟨i,x,o7,o8,o9,F,_,al,J,rfl⟩;delta Oh;simp![↓jA];rw[<- fA jk];refine ZB (λm=>T.d (.str m)) (λr ρ=>∃(ys:List U9) (o7 o8 o9 o11:Option Sl),(ys.map λy=>y.1)++r=ms/\(∀y∈ys,y.2=[])/\ρ=lu ns (0+1+k+i) s n ps ms x ys o7 o8 o9 o11) ?_ ?_ _ _ #[[],_,_,_,_,rfl,λ_ z=>(nomatch z),rfl];rintro ρ ⟨ys,o7,o8,o9,o11,v,A,rfl⟩;rw[qF]at v;have d9:=mB (n / 100) (show(0:Int)<9 by decide);rw[qK]at F;have M:W0 #[ps,ms,x,[]]:=#[by show 2<=ps.9;omega,by show ps.9<=11;omega,O,λp h=>(g p h).1,λp h=>(g p h).2,by show 1<=ms.9;omega,by show ms.9<=10;omega,X,C,J,by show x.9<=100;omega]
 have B:=λo7 o8 o9 o11=>Ph (Ψ:=Ψ) (Q:=Q) (w:=#[ps,ms,x,[]]) (s:=s) (n:=n) (o7:=o7) (o8:=o8) (o9:=o9) (o11:=o11) (a:=0+1+k+i) (cnt:=4+n / 100 % 9) (ys:=ys) W h5 hb () () () () M #[v,λy b=>by rw[A y b];exact#[Qc 0,λ_ z=>(nomatch z)]] λes el he hs=>q _ (M.ok el he) (λp h=>(g p h).2) (by show 2<=ps.9;omega) hs;delta lu;revert B;simp![↓jA];intro B;exact B _ _ _ _;rintro m r ρ N G ⟨ys,o7,o8,o9,o11,v,A,rfl⟩;have S:=aj qD v;rw[QI,QC]at S;have nn:m∉ys.map λy=>y.1:=λz=>by rw[<- v]at X;exact(qP.mp X).2.2 m z m QF rfl
 delta lu;delta RK;simp![↓jA];refine#[by decide,_,rfl,Gc () nn ?_];exact G _ #[ys++[(m,[])],_,_,_,_,by rw[QR,Q0];exact v,λy b=>(Qe.mp b).elim (A y) λz=>by rw[QJ.mp z],rfl];rintro p r ρ N G ⟨i,x,o7,o8,o9,F,h,al,J,rfl⟩;rw[QK]at F;have e:=h p QF;show PK (.tp [7,8]) (.d (.tuple [.int p.1,.int p.2])) (Oh ns (0+1+k+i) s n ps ms x o7 o8 o9) _;rw[FZ];exact ou W hb () () C e.1 e.2 () J λL o9' g1 g2=>G _ #[i+1,L,_,_,_,(),λy b=>h y (QG _ b),(),g2,by rw[show(0:Int)+1+k+((i+1:Nat):Int)=0+1+k+i+1 by omega]];delta Oh;rw[show(0:Int)+1+k+((0:Nat):Int)=0+1+k by omega];rfl
def lL:PSp where
 run:=λh Q _=>∃(w:Wd) (m:Str),h=[.d (wD w),.d (.str m)]/\WOk w/\∀l:LS,(∀x∈l,(w.es.any λe=>decide (e3 e=Ro x m))=kf/\oe w x)->Q (.lst ((l.map jk).map T.d)) []
theorem Ab:CD Ψ nK lL OP VM:=by
 rintro _ Q _ ⟨w,m,rfl,g,q⟩;have B:=g.el;have A:=g.pl;refine bA [bD (wD w),bD (.str m),kv] ?_;delta nK;simp![↓GL];rw[<- fA fE];refine dA (λe=>T.d (fE e)) (λe=>T.d (.str (e3 e).2.1)) (λe=>decide ((e3 e).1="see")&&decide ((e3 e).2.2=m)) w.es [] _ (λe y R h=>?_) (by show 0+_<=_;omega) ?_;simp![↓t9,↓Hn,↓At,↓Tt];by_cases c:(e3 e).1="see";rw[dT c]at h ⊢;by_cases d:(e3 e).2.2=m;rw[dT d]at h ⊢;exact h;rw[dF d]at h ⊢;exact h;rw[dF c]at h ⊢;exact h;rw[Qb,fA λe:Evt=>jk (e3 e).2.1];generalize eL:w.es.filter (λe=>decide ((e3 e).1="see")&&decide ((e3 e).2.2=m))=L;have Y:∀e∈L,e∈w.es/\(e3 e).1="see"/\(e3 e).2.2=m:=λe y=>by rw[<- eL]at y;let#[b,z]:=QS.mp y;let#[z,v]:=xA z;exact#[b,u0 z,u0 v]
 rw[show(L.map λe=>jk (e3 e).2.1)=(L.map λe=>(e3 e).2.1).map jk by rw[QU];rfl];simp![↓eV];rw[<- fA xG];refine dA (λp=>T.d (xG p)) (λ(p:Str×Int×Int×Int)=>T.d (.str p.1)) (λp=>decide (p.1∈L.map λe=>(e3 e).2.1)) w.ps [] _ (λp u R h=>?_) (by show 0+_<=_;omega) ?_;simp![↓LL,fC,UB,SA,true_or];by_cases c:p.1∈L.map λe=>(e3 e).2.1;rw[dT c]at h ⊢;exact h;rw[dF c]at h ⊢;exact h;rw[Qb,fA λp:Str×Int×Int×Int=>jk p.1,show ∀l:List (Str×Int×Int×Int),(l.map λp=>jk p.1)=(l.map λp=>p.1).map jk from λl=>by rw[QU];rfl];refine q _ λx r=>?_;let#[p,u,rfl]:=QN.mp r;let#[u,X]:=QS.mp u;let#[e,y,W]:=QN.mp (u0 X);let#[b,z,v]:=Y e y;refine#[wJ.mpr #[e,b,dT ?_],p,u,rfl];rw[<- W,<- v];show e3 e=((QY "see":Str),(e3 e).2.1,(e3 e).2.2);exact QCL z rfl
theorem lw(es:List Pt)(sr:LS)(nd:List (Str×Int)):∃F:LS,∀y,y∈F↔Held es sr nd y:=by
 classical
 refine#[(nd.map λp=>p.1).filter λy=>decide (Held es sr nd y),λy=>?_];rw[QS,Az];exact#[λh=>h.2,λh=>#[by let#[n,e]:=XR h;exact QN.mpr #[_,e,rfl],h]]
end
section
variable{w:Wd}{st:List Stp}{x m:Str}{l:LS}
theorem z7(h:UZ w st x m l)(u:Held (gZ w st m) (vM w st m) (VB w) x):x∉l:=λz=>by let#[F,y]:=lw (vL w st m x) (vM w st m) (VB w);exact h.1 x z ((y x).mp (C2 y u))
theorem TZ{n:Int}(h:UZ w st x m l)(hs:x∈vM w st m)(z:(x,n)∈VB w):l=[]:=by
 cases l with|nil=>rfl|cons y r=>exact(h.1 y QF (.see z hs)).elim
theorem Xi(h:∀e∈gZ w st m,e.1≠x):vL w st m x=gZ w st m :=
 List.filter_eq_self.mpr λp y=>by rw[dF (h p y)];rfl
end
theorem uX{w:Wd}{ns:LN}(h:WOk w)(i:∀p∈w.ps,1<=p.2.2.2)(u:oH w ns)(hs:∃e r,w.es=e::r/\vN e=kf):kJ (fB w ns).steps≠[]:=by
 let#[e,r,l,hs]:=hs;have v:e∈w.es:=by rw[l];exact QF
 cases e with|tell t a b m k q=>cases hs|see t x m k=>let#[#[p,y,j],g,_]:=h.eo _ v;subst j;have f:=(X5 (m:=m) h u y).mp (wJ.mpr #[_,v,dT rfl]);have:=(AW h i u g).mpr (.see (Kf h y).1 f);exact λz=>by rw[z]at this;cases this
theorem Kd{w:Wd}{ns:LN}{x:Str}{fl:List Pt}(y:WOk w)(u:∀p∈w.ps,1<=p.2.2.2)(z:oH w ns)(h:Jx w (fB w ns).steps x fl)(hs:∀m,∀e∈gZ w (fB w ns).steps m,e.1≠x):fl=[]:=by
 cases fl with|nil=>rfl|cons p r=>let#[a,b]:=h.1 p QF;rw[Xi (hs p.2)]at b;exact(b ((AW y u z (e8 a)).mp a)).elim
theorem Gr{l:List Stp}{s:Stp}:BD ((l++[s]).map gL) (-1)=kx (gL s):=by rw[QR];exact xS _ _
theorem jt{i j k l:Nat}{x y z u:D}{ρ:kA}{P:kA->Prop}:PK (.tp [i,j,k,l]) (.d (.tuple [x,y,z,u])) ρ P=P ((((ρ.set i (bD x)).set j (bD y)).set k (bD z)).set l (bD u)):=sB
structure LwO(w:Wd)(st:List Stp):Prop where
 wo:WOk w
 hp:∀p∈w.ps,1<=p.2.2.2
 so:∃ns,oH w ns/\st=(fB w ns).steps
 ne:0<((kJ st).9:Int)
def lS(x:LJ)(w:Wd)(st:List Stp)(h o3 o6 o7 o8 o9:Option Sl):kA:=[kx (.bor (sD x)),bD (wD w),h,o3,bD (.list ((FT st).map nD)),bD (.list ((kJ st).map pr)),o6,o7,o8,o9,kv,kv]
theorem PM:FF (.list []):=G6 (hs:=[]) λ_ z=>(by cases z)
theorem u9{l:LS}{L:Bool->Prop}(h:∀x∈l,OkS x)(q:L (decide (l=[]))):KB .Eq (.d (.list (l.map jk))) (nA (.lst []) kf) L:=by
 have e:Qt (.list (l.map jk)) (.list [])=decide (l=[]):=by
  cases l with|nil=>exact QBE _ PM.1|cons a r=>simp[Qt,PyData.eqvAll]
 rw[<- e]at q;exact#[Cf (n:=1) (Jq (iq λx y=>Bv (h x y))) (by decide),PM,q]
theorem Pl{L:Bool->Prop}(q:L kd):KB .NotEq (.d (.list [])) (nA (.lst []) kf) L:=#[PM,PM,by show L (!PyData.eqv (.list []) (.list []));rw[QBE _ PM.1];exact q]
section
variable{Ψ:PEv}{Z:PEnds}{is:LJ}{w:Wd}{st:List Stp}{y o3 o6 o7 o8 o9:Option Sl}
theorem Gv(B:Ψ.sp "_law_draw"=MG)(A:Ψ.sp "leans_of"=nQ)(K:Ψ.sp "_law_seers"=lL){k:Int}(hb:tE is)(h:LwO w st)(I:0<=k)(G:k<=10)(q:∀o7 o8 o9,Z.nx (lS is w st y o3 (bD (.int k)) o7 o8 o9)):pF Ψ vS Z (lS is w st y o3 (bD (.int k)) o7 o8 o9):=by
 have z:=h.wo;let#[ns,j,u]:=h.so;have b:=mB (PC is (700+k)) h.ne;have a:=(YB (l:=kJ st) (d:=((#[#[]],#[#[]]):Pt)) b.1 b.2).2;delta lS at q ⊢;delta vS;simp![↓zA (md:=[.shal]) B rfl rfl,QC];refine#[_,_,rfl,hb,#[(),()],?_];simp![QC];refine#[h.ne,FB (f:=pr) (l:=kJ st) ((#[#[]],#[#[]]):Pt) b.1 b.2 ?_];generalize gI (kJ st) (PC is (700+k) % (kJ st).9) ((#[#[]],#[#[]]):Pt)=p at a ⊢;let#[x,m]:=p;have X:=e8 (w:=w) (ns:=ns) (p:=(x,m)) (by rw[<- u];exact a);have r:=(AW z h.hp j X).mp (by rw[<- u];exact a);have o:=Sf z ns (x,m) (by rw[<- u];exact a);rw[<- u]at r;show PK (.tp [7,8]) (.d (.tuple [.str x,.str m])) _ _;rw[FZ];simp![↓zA (md:=[]) A rfl rfl];refine#[_,_,_,rfl,#[z,o.1,o.2],λs g l i e hl=>?_];cases A6 j i;rw[<- u]at e;subst e;have F:=z7 hl r;simp![↓Vm,↓i9,↓zA (md:=[]) K rfl rfl,fC,UB,SA,true_or,dF F];refine#[_,_,rfl,z,λY n=>?_];simp![fC,UB,SA,true_or];have q:=q (bD (.str x)) (bD (.str m)) (bD (.list (l.map jk)));by_cases c:x∈Y;rw[tt (dT c)];let#[C,p,v,e]:=n x c;have W:x∈vM w g m:=by subst e;rw[u];exact(X5 z j v).mp C
 have E:=TZ hl W (by rw[<- e];exact(Kf z v).1);subst E;exact#[(),Pl q];rw[th (by rw[dF c];exact QD)];exact q
end
theorem il{w:Wd}{st:List Stp}{m:Str}{e:Pt}(h:e∈gZ w st m):∃n∈FT st,(FD (BA w.es n)).1=e.1:=by let#[n,x,rfl]:=QN.mp h;exact#[n,(QS.mp x).1,rfl]
theorem Lj{Ψ:PEv}(O:Ψ.sp "_law_world"=xM)(B:Ψ.sp "gone"=mL)(h3:Ψ.sp "_law_draw"=MG)(h4:Ψ.sp "leans_of"=nQ)(h5:Ψ.sp "_law_seers"=lL)(h6:Ψ.sp "struck"=NV):CD Ψ f9 uT lh j6:=by
 rintro _ Q _ ⟨X,hl,hb,rfl,q⟩;refine bA [kx (.bor (.lst ((X.map j0).map T.d))),kv,kv,kv,kv,kv,kv,kv,kv,kv,kv,kv] ?_;delta f9;simp![↓zA (md:=[.shal]) O rfl rfl];refine#[_,rfl,#[hl,hb],λw y F w2 w3=>?_];simp![↓zA (md:=[]) B rfl rfl];refine#[_,rfl,y,λA h=>?_];have Y:=uX y F h w3;have so:∃v,oH w v/\(fB w A).steps=(fB w v).steps:=#[A,h,rfl]
 let#[_,g1,g2]:=uN y h;have P:=λ(x:Str) (fl:List Pt)=>Kd (x:=x) (fl:=fl) y F h;have G:=CW g2;generalize es:(fB w A).steps=st at *;obtain⟨l,s,e⟩:∃l s,st=l++[s]:=(cQ st).resolve_left λz=>Y (by rw[z];rfl);have e1:BD (st.map gL) (-1)=kx (gL s):=by rw[e];exact Gr
 have H:s.2.2.1=FT st:=by rw[e,JL]
 have S:s.2.2.2=kJ st:=by rw[e,KL]
 clear e;simp![↓jA];rw[e1,sB];show PK (.tp [2,3,4,5]) (.d (.tuple [nD s.1,.bool s.2.1,.list (s.2.2.1.map nD),.list (s.2.2.2.map pr)])) _ _;rw[jt,H,S];have M:0<((kJ st).9:Int):=by have:=QBV.mpr Y;omega
 have lo:LwO w st:=#[y,F,#[A,h,es.symm],M]
 have lvl:=G.1;have pl:=y.pl;simp![↓jA];refine ZB (λi:Nat=>T.d (.int (i:Int))) (λr E=>(∀i∈r,i<=10)/\∃k K W Z,E=lS X w st (bD (nD s.1)) (bD (.bool s.2.1)) k K W Z) ?_ ?_ _ _ #[by decide,_,_,_,_,rfl];rintro E ⟨_,k,K,W,Z,rfl⟩;show lB _ _ _ _ (lS X w st _ _ (EI k) K W Z);generalize EI k=k;delta lS;simp![↓GL];rw[<- fA nD (FT st)];refine dA (λn=>T.d (nD n)) (λn=>T.d (.str (FD (BA w.es n)).1)) (λn=>decide ((e3 (BA w.es n)).1="tell")) (FT st) [] _ (λn h R u=>?_) (by show 0+_<=_;omega) ?_;let#[n1,n2]:=G.2 n h;simp![↓GL,↓JS n1,↓Hn,↓Y4 n2];split at u;rename_i c;rw[tt c];exact u;rename_i c;rw[th c];exact u;rw[Qb,fA λn=>jk (FD (BA w.es n)).1,show ∀l:LN,(l.map λn=>jk (FD (BA w.es n)).1)=(l.map λn=>(FD (BA w.es n)).1).map jk from λl=>by rw[QU];rfl];have ht:∀n∈FT st,(FD (BA w.es n)).1∈((FT st).filter λn=>decide ((e3 (BA w.es n)).1="tell")).map λn=>(FD (BA w.es n)).1:=λn h=>QN.mpr #[n,QS.mpr #[h,by let#[_,t,a,b,m,wd,q,e]:=G.2 n h;rw[e];exact dT rfl],rfl];generalize ((FT st).filter λn=>decide ((e3 (BA w.es n)).1="tell")).map (λn=>(FD (BA w.es n)).1)=tl at ht ⊢;simp![↓eV];rw[<- fA xG];refine dA (λp=>T.d (xG p)) (λ(p:Str×Int×Int×Int)=>T.d (.str p.1)) (λp=>!decide (p.1∈tl)) w.ps [] _ (λp hp R u=>?_) (by show 0+_<=_;omega) ?_;simp![↓LL,fC,UB,SA,true_or];by_cases c:p.1∈tl;rw[dT c]at u ⊢;exact u;rw[dF c]at u ⊢;exact u;rw[Qb,fA λp:Str×Int×Int×Int=>jk p.1,show ∀l:List (Str×Int×Int×Int),(l.map λp=>jk p.1)=(l.map λp=>p.1).map jk from λl=>by rw[QU];rfl];have J:∀x∈(w.ps.filter λp=>!decide (p.1∈tl)).map (λp=>p.1),OkS x/\∀m,∀e∈gZ w st m,e.1≠x:=λx I=>by let#[p,hp,rfl]:=QN.mp I;let#[O,B]:=QS.mp hp;refine#[y.po p O,λm e he z=>?_];let#[n,h,H]:=il he;have:=ht n h;rw[H,z]at this;rw[dT this]at B;cases B
 generalize (w.ps.filter λp=>!decide (p.1∈tl)).map (λp=>p.1)=sl at J ⊢;simp![↓sw];refine#[(),u9 (λx I=>(J x I).1) ?_];by_cases c:sl=[];rw[dT c];exact q;have o:0<(sl.9:Int):=by have:=QBV.mpr c;omega
 have C:=mB (PC X 702) o;rw[dF c];simp![↓zA (md:=[]) h6 rfl rfl,↓zA (md:=[.shal]) h3 rfl rfl];refine#[_,_,rfl,#[hl,hb],#[(),()],?_];simp![QC];refine#[o,FB (f:=jk) (l:=sl) #[#[]] C.1 C.2 ?_];have hg:=J _ (YB (l:=sl) (d:=#[#[]]) C.1 C.2).2;generalize gI sl (PC X 702 % sl.9) #[#[]]=x at hg ⊢;refine#[_,_,rfl,y,λv st' fl ls L e hf _=>?_];cases A6 h L;rw[es]at e;subst e;have:=P x fl hf hg.2;subst this;refine#[rfl,?_];simp![↓Lh,↓l9];exact#[(),u9 (l:=[]) (λ_ z=>(nomatch z)) q];rintro i r E N hN ⟨g,k,K,W,Z,rfl⟩;exact Gv h3 h4 h5 #[hl,hb] lo () (by have:=g i QF;omega) λ_ _ _=>hN _ #[λj hj=>g j (QG _ hj),_,_,_,_,rfl]
end L2.L3.K52
namespace L2.L3
open PySem PySem.Spec PyProof.Rows L2.L3.Q
section
variable{K:QA}{x:Str}{st:gp}
theorem kX{h:x0}:∀(y:List ko),(Vt y h).In h
 |[],a,o,e=>nomatch e
 |b::y,a,o,e=>by
  unfold Vt at e;rw[WF]at e;cases c:h.get? b with
  |none=>rw[c]at e;exact kX y a o e|some z =>
   rw[c]at e;have e:QCN a ((b,z)::Vt y h)=kx o:=e;rw[we]at e;cases d:a==b with|true=>rw[d]at e;cases e;rw[beq_iff_eq.mp d];exact c|false=>rw[d]at e;exact kX y a o e
theorem xl{q:Str}{f:ko}{y:gl}{w:kn}{v:Option ko}{z:Array (Option kn)}(hl:K.lookup f=kx #[w,v,.func y,z])(h:Xn y (Wf K y.code q&&wM K (.ref f))=Xn (qp x q (uD st) (JC st) (NA st) .none .none .none .none kv .none .none) kf):∃y,Fun K x q st f y:=by let#[Y,X,s,r,p,o,n,m,l,j,i,g,e,b,a]:=y;unfold Xn at h;injection h with h1 h2;injection h2 with h2 h3;injection h1 with b1 h1;injection h1 with b2 h1;injection h1 with b3 h1;injection h1 with b4 b5;injection h2 with c1 h2;injection h2 with c2 h2;injection h2 with c3 c4;let#[u,k]:=Wq.mp h3;simp only at b1 b2 b3 b4 b5 c1 c2 c3 c4 u;subst b1 b2 b3 b4 b5 c1 c2 c3 c4;exact#[_,ul hl u k]
theorem V5(h:vX K x=pU x st)(y:(pU x st).isSome=kf):DZ K x st:=by
 have z:pU x st=kx (Xn (qp x x (uD st) (JC st) (NA st) .none .none .none .none kv .none .none) kf):=by cases st<;>first|rfl|cases y
 rw[z]at h;unfold vX at h;split at h;rename_i f hf;split at h;rename_i hl;let#[u,F]:=xl hl (Qp h);exact#[f,u,hf,F];cases h;cases h
theorem La(h:pW K x=kf):qm K vx x=kx none:=by unfold pW at h;split at h;assumption;cases h
theorem K5{i:Int}(h:Ah K x=kx i):MN K x (.int i):=by
 unfold Ah at h;split at h;rename_i u hu;cases u with|int j t=>cases h;exact#[_,_,hu,rfl,λ_=>.int i]|_=>cases h
 cases h
theorem BS:∀{us:LW}{xs:LS},us.map Fo=xs.map kx->us.map HN=xs.map λy=>kx (.str y)
 |[],[],_=>rfl|[],_::_,h=>by cases h|_::_,[],h=>by cases h|u::us,x::xs,h=>by
  injection h with h1 h2;rw[QT,QT,BS h2];cases u with|str z t=>cases h1;rfl|_=>cases h1
theorem AZ{xs:LS}(h:Ih K x=kx (xs.map kx))(y:xs.9<=kb):MN K x (.tuple (xs.map jk)):=by unfold Ih at h;split at h;rename_i f hf;split at h;rename_i t od its n osl hl;split at h;rename_i et;subst et;injection h with h;exact D4 (its:=its.toList) hf (by simpa using hl) (BS h) y;cases h;cases h;cases h
theorem go_of(e:seen K=due):lG K tA=true:=(W6 (W6 (W6 (W6 e).2).2).2).2
end
section
variable{K:QA}{h:x0}{mg:Str->Option kn}{T:ko}
theorem nU(e:lG K T=kf)(X:K.In h)(G:h.Ns vx mg):(∃f k w v z c,mg "going_order"=kx (.ref f)/\K.lookup f=kx #[k,w,.func v,z]/\v.code=.ref c/\QAh K c T=kf)/\(∀y:x0,K.In y->y.BuiltinsAt mg T)/\K.lookup T=kv/\vx≠T:=by
 let#[u,e]:=xA e;let#[x,e]:=xA e;let#[e3,a]:=xA e;refine#[?_,?_,QAN.mp e3,bne_iff_ne.mp a];split at u
 ·rename_i f hf
  split at u;rename_i k w v z hl;split at u;rename_i c hc;exact#[f,k,w,v,z,c,WU X G hf,hl,hc,u];cases u;cases u
 cases u;intro y Y;split at x;rename_i b hb;split at x;rename_i t d z hl;let#[m,x]:=xA x;let#[l,x]:=xA x;let#[j,x]:=xA x;let#[i,g]:=xA x;exact#[b,_,WU X G hb,bne_iff_ne.mp j,bne_iff_ne.mp i,bne_iff_ne.mp g,Y _ _ hl,by rw[beq_iff_eq.mp m],by rw[beq_iff_eq.mp l],rfl];cases x;cases x
theorem zl(e:lG K T=kf)(X:K.In h)(G:h.Ns vx mg):∃v c,(∀x:x0,K.In x->∀P q,DP mg x P q->P=T/\q=v)/\QAh K c T=kf/\K.lookup T=none:=by let#[#[f,I,F,C,w,c,p,n,m,y],_,l,_]:=nU e X G;refine#[C.qualname++".<locals>.<lambda>",c,λx Y P q t=>?_,y,l];let#[M,o,B,N,A,W,Z,s,#[L,E,_,_,_,_,_,_,_,j,_,i,g,_],r]:=t;cases p.symm.trans A;have z:=W.symm.trans (Y _ _ n);cases z;cases Z;cases m.symm.trans s;let#[J,u,_,_,_,_,_,_,_,b,_,a,k,_]:=W7 Y y;cases j.symm.trans b;cases i.symm.trans a;cases g.symm.trans k;exact#[rfl,r]
end
theorem walk_seen{l:PySem.W.OpenLaw}{k:Nat}{q:vu}{loose:LS}{XP:(Str->Option kn)->x0->Prop}{YP:x2->x0->Prop}{d:DefRec}{x:Str}{Fs:QA->Prop}{T:ko}
  (hn:l.most=kx 63) (C:d.params.defaults=[]) (S:Room k ll) (hY:∀(w:x2) (h:x0),YP w h->∃K:QA,K.In h/\Fs K/\h.get? T=kx (QBK #[])) (B:∀K,Fs K->lG K T=kf)
  (F:∀(w:x2) (mg:Str->Option kn) (p:ko) (h:x0) (K:QA),K.In h->Fs K->lG K T=kf->h.Ns vx mg->mg d.name=kx (.ref p) ->
   ∃E:gl,(∀(s:kt) (u:kn),lb s E #[[u],[]] [(x,u)]) /\
    ∀y:x0,K.In y->y.Ns vx mg->FnOk l.prog w K mg y i4 k p E [x] (lift K uT)) :
  PySem.W.WalkO q loose XP YP l.row.toRowW d [] (λf vs=>PySem.call f vs):=by
 intro w L J mg mb G Y p o pm cd doc dV kV ho hd hcd M A hg args I as j n R Z hlo;obtain rfl:dV=.none:=PySem.W.Dflts.none M C;obtain rfl:kV=.none:=PySem.W.Dflts.noKw M;let#[a,vs,P,rfl,rfl,m,i,v]:=Att.script_of hn j Z;let#[K,X,fs,Q]:=hY w _ Y;have N:=B K fs;let#[tq,c,g1,g2,g3]:=zl N X G.T.g;let#[E,hb,hF]:=F w mg p _ K X fs N G.T.g A;refine PySem.W.enter_call (QB4 (S7 g1 ((W7 X g2).tab Q) g3 X G.T.g G.T.b G.T.builtins G.T.nolimit hg m i (QZ v (by decide)) S hF hb (λH hO hS=>Kk _ H a P v (ve n) hS) λH e O=>λz=>z) λr O hq=>?_);let#[rfl,h2,h3,h4]:=hq;exact#[.inl #[.bool kf,.bool kf,[],rfl,λ_=>rfl,.bool kf,Att.post_true l _,λ_=>#[List.Pairwise.nil,λ_ hm=>(nomatch hm)]],h2,h3,h4]
end L2.L3
namespace L2.L3.K52
open PySem PySem.Spec PyProof.Rows L2 L2.L3 L2.L3.Q
def Nw:Nat->(LW->Prop)->Prop
 |0,p=>p []|n+1,p=>∀u,Nw n λh=>p (u::h)
theorem Vx:∀{n:Nat}{p:LW->Prop},Nw n p->∀us:LW,us.9=n->p us
 |0,_,h,us,e=>by rw[wc.mp e];exact h|_+1,_,_,[],e=>nomatch e
 |_+1,_,h,u::us,e=>Vx (h u) us (Nat.succ.inj e)
def Kz(x q:Str)(st:gp)(u:LS):Prop:=∀(kV h v:kn) (k:Option ko) (y w:kn),Nw u.9 λz=>c5 (qp x q (uD st) (JC st) (NA st) .none kV h v k y w) #[z,[]]=p7 (u.zip z)
noncomputable def jn:List (Str×D):=tT.map (λp=>(p.1,.tuple (p.2.map jk)))++sT.map λp=>(p.1,.int p.2)
structure Cx(K:QA)(h:x0)(mg:Str->Option kn):Prop where
 X:K.In h
 G:h.Ns vx mg
 V:∀p∈jn,MN K p.1 p.2
 N:∀y∈nT,qm K vx y=kx kv
 D:∀p∈fT,DZ K p.1 (top p.2)
theorem FE{α:Type}{d:α}:∀{l:List α}{i:Nat},QCX i l.9=kf->l.getD i d∈l
 |[],_,h=>nomatch h
 |_::_,0,_=>.head _|_::_,_+1,h=>.tail _ (FE (Nat.blt_eq.mpr (wg (Nat.blt_eq.mp h))))
theorem Gf{α:Type}{l:List (Str×α)}{p:Str×α}(nd:(l.map qk).Nodup)(h:p∈l):l.lookup p.1=kx p.2:=by
 induction l with|nil=>cases h|cons a l y=>let#[x,s]:=a;rw[QT,Qh]at nd;rw[we];rcases QL.mp h with rfl|h;rw[beq_self_eq_true];have v:p.1∈l.map qk:=QBR h;have u:(p.1==x)=false:=beq_eq_false_iff_ne.mpr λz=>nd.1 (by rw[<- z];exact v);rw[u];exact y nd.2 h
def Jf:LS:=fT.map qk
def fx(i:Nat):Str×Nat:=fT.getD i ("",0)
def tbl(r:List PSp):PEv:=De (Jf.zip r) jn
theorem US{r:List PSp}(i:Nat)(h:QCX i jn.length=true:=by rfl):(tbl r).va (jn.getD i ("",.none)).1=kx (jn.getD i ("",.none)).2:=Gf (ZE (by kernel_rfl)) (FE h)
theorem Oo{r:List PSp}(nd:TJ ((Jf.zip r).map qk)=kf)(i:Nat)(h:QCX i (Jf.zip r).9=kf):(tbl r).sp ((Jf.zip r).getD i ("",bn)).1=((Jf.zip r).getD i ("",bn)).2:=by show(QCN _ _).getD bn=_;rw[Gf (ZE nd) (FE h)];rfl
noncomputable def nB(n:Need)(fs:LS):Bool:=n.fn.all (λx=>fs.contains x)&&((n.va.all λx=>(jn.map qk).contains x)&&n.no.all (λx=>nT.contains x))
section
variable{P:vu}{w:x2}{K:QA}{h base:x0}{mg:Str->Option kn}{r v:List PSp}{R:PSp}{u:LS}{k:Nat}{b:PT}{n:Need}{N z:LS}
theorem hv(C:Cx K h mg)(A:∀g∈u,CG P w K mg base (tbl r) k g)(i:Nat)(zC:GA n b N z (top (fx i).2)=kf)
  (body:∀ts Q E,R.run ts Q E->ts.9=z.9/\lB (tbl r) (λ_=>False) b (iC R z.9 Q) (EA N R.md ts)) (o:(tbl v).sp (fx i).1=R) (hc:EJ (BB 0 R.md z.9) b=true:=by kernel_rfl)
  (hb:Kz (fx i).1 (fx i).1 (top (fx i).2) z:=by(repeat intro _);rfl)
  (x:nB n u=true:=by kernel_rfl) (l:QCX i fT.length=true:=by rfl):CG P w K mg base (tbl v) (k+1) (fx i).1:=by
 let#[s,x]:=xA x;let#[q,p]:=xA x;exact Y8 C.X C.G (C.D _ (FE l)) zC hc (λa b c d e f=>Vx (hb a b c d e f)) (λg m=>A g (vQ s g m)) (IX C.X C.G C.V q) (λy j=>C.N y (vQ p y j)) body o
theorem hc(A:∀g∈u,CG P w K mg base (tbl r) k g){x:Str}(Z:CG P w K mg base (tbl r) (k+1) x):∀g∈x::u,CG P w K mg base (tbl r) (k+1) g:=by intro g y;rcases QL.mp y with rfl|y;exact Z;exact(A g y).mono (wY _)
theorem hl(C:Cx K h mg)(A:∀g∈u,CG P w K mg base (tbl r) k g){x q:Str}{st:gp}{f:ko}{e:gl}(F:Fun K x q st f e)(zC:GA n b N z st=kf)
  (body:∀ts Q E,R.run ts Q E->ts.9=z.9/\lB (tbl r) (λ_=>False) b (iC R z.9 Q) (EA N R.md ts)) (hc:EJ (BB 0 R.md z.9) b=true:=by kernel_rfl) (a:nB n u=true:=by kernel_rfl):FnOk P w K mg base i4 (k+1) f e z (lift K R):=by
 let#[o,a]:=xA a;let#[m,l]:=xA a;exact V8 F zC hc (λg j=>A g (vQ o g j)) (IX C.X C.G C.V m) (λy i=>QAE C.X C.G (C.N y (vQ l y i))) body
theorem cx_of(X:K.In h)(G:h.Ns vx mg)(e:seen K=due)(m:(fT.all λp=>(pU p.1 (top p.2)).isSome)=kf)(l:(tT.all λp=>decide (p.2.9<=1000))=kf):Cx K h mg:=by injection e with i e;injection e with g e;injection e with e3 e;injection e with f _;have i:=We.mp i;have g:=We.mp g;have e3:=We.mp e3;have f:=We.mp f;refine#[X,G,λp x=>?_,λy j=>La (f y j),λp x=>V5 (i p x) (qH.mp m p x)];rcases Qe.mp x with x|x;let#[q,a,rfl]:=QN.mp x;have:=u0 (qH.mp l q a);exact AZ (g q a) ();let#[q,a,rfl]:=QN.mp x;exact K5 (e3 q a)
end
section
variable{P:vu}{w:x2}{h:x0}{mg:Str->Option kn}
def vn:List PSp:=[MG,GD,TV,GG,HJ,EF,xM,Dp,sQ,gQ,dM,bY,iI,TF,HG,fM,uM,OG,KI,JI,AF,oQ,NG,YI,rQ,ZI,IE,aE,bM,LG,HD,mL,pQ,dQ,RV,lQ,OV,fQ,cM,PV,mQ,nQ,lL,v5,SV,EV,NV,uT]
theorem eA(i:Nat)(h:QCX i (Jf.zip vn).9=true:=by rfl):(tbl vn).sp ((Jf.zip vn).getD i ("",bn)).1=((Jf.zip vn).getD i ("",bn)).2:=Oo (by kernel_rfl) i h
theorem tz{K:QA}{x:x0}{k:Nat}(C:Cx K h mg)(q:lG K tA=kf)(v:K.In x)(m:x.Ns vx mg):CG P w K mg x (tbl vn) (k+1) "going_order":=by let#[f,M,p,#[#[J,I,kV,B,F,R,b,Q,i,rfl,lk,a],n]]:=C.D (fx 7) (FE rfl);let#[#[O,l,j,A,e,c,g,W,Z,Y],s,L,r]:=nU q C.X C.G;cases(WU C.X C.G p).symm.trans g;cases lk.symm.trans W;cases(show b=.ref c from Z);have z:=λy (o:nT.contains y=kf)=>QAE C.X C.G (C.N y (Q9.mp o));exact zd v m g lk a n (W7 v Y) (s x v) r (z _ (by kernel_rfl)) (z _ (by kernel_rfl)) (z _ (by kernel_rfl)) (λE hl=>by let#[u,rfl]:=QAv.mp hl;rfl) (eA 7)
theorem all{K:QA}{v:ko}(C:Cx K h mg)(b:lG K tA=kf)(y:mg "law"=kx (.ref v)) :
  ∃z:gl,(∀(s:kt) (u:kn),lb s z #[[u],[]] [("_law_script",u)])/\∀x:x0,K.In x->x.Ns vx mg->FnOk P w K mg x i4 48 v z ["_law_script"] (lift K uT):=by
 refine Vk C.X C.G (C.D (fx 47) (FE rfl)) rfl y (eA 47) (λ_ _ _ _ _ _ e hl=>by let#[u,rfl]:=QAv.mp hl;rfl) λx a k f z F _=>?_;have A:∀g∈([]:LS),CG P w K mg x (tbl vn) 0 g:=nofun;have A:=hc A (hv C A 0 Y3 cc (eA 0));have A:=hc A (hv C A 1 u3 (yc (eA 0)) (eA 1));have A:=hc A (hv C A 2 JO Mj (eA 2));have A:=hc A (hv C A 3 J3 (zc (eA 2)) (eA 3));have A:=hc A (hv C A 4 LU (G0 (eA 1) (eA 3)) (eA 4));have A:=hc A (hv C A 5 JX (M6 (eA 3)) (eA 5));have A:=hc A (hv C A 6 eX (D6 (eA 0) (eA 1) (eA 4) (eA 3) (eA 5)) (eA 6));have A:=hc A (tz C b a k);have A:=hc A (hv C A 8 iN Sj (eA 8));have A:=hc A (hv C A 9 rX Ib (eA 9));have A:=hc A (hv C A 10 NU L6 (eA 10));have A:=hc A (hv C A 11 MU (Pp (eA 9) (eA 10) (eA 8)) (eA 11));have A:=hc A (hv C A 12 eO Eb (eA 12));have A:=hc A (hv C A 13 sN (C6 (eA 12) (eA 8)) (eA 13));have A:=hc A (hv C A 14 iO kc (eA 14));have A:=hc A (hv C A 15 OU Rj (eA 15));have A:=hc A (hv C A 16 CU Kj (eA 16));have A:=hc A (hv C A 17 ZX fc (eA 17));have A:=hc A (hv C A 18 PU (gc (eA 17)) (eA 18));have A:=hc A (hv C A 19 DU (C0 (eA 18) (eA 17) (US 0) (US 1)) (eA 19));have A:=hc A (hv C A 20 dJ (F6 (US 0)) (eA 20));have A:=hc A (hv C A 21 TR (Hj (US 0)) (eA 21));have A:=hc A (hv C A 22 aN L0 (eA 22));have A:=hc A (hv C A 23 VO (N6 (eA 22)) (eA 23));have A:=hc A (hv C A 24 KO bc (eA 24));have A:=hc A (hv C A 25 cL (O6 (eA 19) (eA 20) (eA 21) (eA 23) (eA 24) (US 0)) (eA 25));have A:=hc A (hv C A 26 uL (Tb (eA 25)) (eA 26));have A:=hc A (hv C A 27 bL (P6 (eA 26)) (eA 27));have A:=hc A (hv C A 28 FU Xj (eA 28));have A:=hc A (hv C A 29 YO (vc (eA 27) (eA 28)) (eA 29));have A:=hc A (hv C A 30 ZO (xc (eA 12) (eA 16) (eA 15) (eA 29)) (eA 30));have A:=hc A (hv C A 31 Td (uc (eA 7) (eA 11) (eA 13) (eA 14) (eA 30)) (eA 31));have A:=hc A (hv C A 32 YX Oj (eA 32));have A:=hc A (hv C A 33 tN Jj (eA 33));have A:=hc A (hv C A 34 tX Fj (eA 34));have A:=hc A (hv C A 35 sX jc (eA 35));have A:=hc A (hv C A 36 pX (Vj (eA 35) (eA 12)) (eA 36));have A:=hc A (hv C A 37 v3 (Yj (eA 16) (eA 36) (eA 15) (eA 34)) (eA 37));have A:=hc A (hv C A 38 zI (Nj (eA 33) (eA 37) (eA 29)) (eA 38));have A:=hc A (hv C A 39 HU (Dj (eA 32) (eA 28) (eA 38)) (eA 39));have A:=hc A (hv C A 40 eN (Uj (eA 31)) (eA 40));have A:=hc A (hv C A 41 GU (Cj (eA 39) (eA 40)) (eA 41));have A:=hc A (hv C A 42 iX Ab (eA 42));have A:=hc A (hv C A 43 ER (Rp (eA 27) (eA 26)) (eA 43));have A:=hc A (hv C A 44 aX (Gj (eA 33) (eA 37) (eA 43) (eA 28)) (eA 44));have A:=hc A (hv C A 45 IR (Pj (eA 38) (eA 32)) (eA 45));have A:=hc A (hv C A 46 x3 (Zj (eA 40) (eA 44) (eA 45)) (eA 46));exact hl C A F Hl (Lj (eA 6) (eA 31) (eA 0) (eA 41) (eA 42) (eA 46))
def hk:PySem.W.Hook:=#[YZ×Option Obj,ob,λ_=>(due,kx (QBK #[])),λ_ h=>∃K:QA,K.In h/\seen K=due/\h.get? tA=kx (QBK #[]),λ_ _ e=>#[_,kX _,(W6 e).1,(W6 e).2],λ_ _ _ #[K,X,e,t] k=>#[K,X.keeps k,e,k _ _ t]]
end
end L2.L3.K52
open PySem PySem.W PyProof.Rows
set_option maxRecDepth 100000 in
set_option maxHeartbeats 0 in
theorem PySem.Challenge.cw_quoteweave_k52_nobody_leans_on_oneself_holds : PySem.Challenge.rw_quoteweave_k52_nobody_leans_on_oneself.Holds := by
 refine holds_law L2.L3.Q.ws λy=>?_;refine holds_open (q:=L2.L3.Q.qv) (loose:=[]) (Xt:=L2.L3.Q.xt) (XP:=XL L2.L3.Q.qv []) (Yf:=Hook.obs L2.L3.K52.hk) (Ya:=Hook.val L2.L3.K52.hk) (YP:=Hook.says L2.L3.K52.hk) (N:=3234) L2.L3.Q.lf (Hook.of L2.L3.K52.hk) (Hook.keeps L2.L3.K52.hk) (λs e=>xl_of s (Wq.mp e).1) XL.keeps (by rfl) (by rfl) (by rfl) (λs e=>recFacts_of (Wq.mp e).2) (by rfl) (by first|assumption|decide +kernel) (by decide +kernel) ⟨rfl,rfl,rfl,rfl,rfl,by decide +kernel⟩ ?hw ?hc
 case hw=>w_witness2
 case hc=>exact L2.L3.walk_seen (l:=Qy) (k:=48) (x:="_law_script") (Fs:=λK=>L2.L3.Q.seen K=L2.L3.Q.due) rfl rfl ⟨rfl,by decide,by decide⟩ (λw h Y=>Y) (λK e=>L2.L3.go_of e) λw u v h K X e z G m=>L2.L3.K52.all (L2.L3.K52.cx_of X G e (by kernel_rfl) (by kernel_rfl)) z m
