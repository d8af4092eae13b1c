import PyProof.Rows.All
import Wide.All
import OpenK.AllK
import Wide.FinOn
import Lean
import PyProof.EqAt
import PyProof.EqKinds
import PyProof.TupleCall
import PySem.Challenge.RW_quoteweave_k48_whole_moments
noncomputable section
set_option Elab.async false
set_option linter.all false
set_option compiler.extract_closed false
set_option bootstrap.genMatcherCode false
set_option genInjectivity false
set_option genSizeOf false
set_option maxRecDepth 100000
set_option maxHeartbeats 4000000
open PySem.W renaming Frag->QA,nsIn->qq,fnOf->qr,keepIn->wO,mg_of->We,codeIn->Wq,WData->QAC,codeHd_of_K->QAO,mg_none_of->QAU,methodObj->QAk,codeHdIn->QA0,cellsFrom_some->QA5,tabObj->QBb
open List renaming length_map->QC,mem_cons_self->QD,mem_cons_of_mem->QE,length_append->QI,mem_singleton->QJ,mem_cons->QK,length_cons->QM,size_toArray->QN,map_append->QO,mem_map->QR,mem_append_right->QU,map_map->QW,map_cons->QX,mem_filter->QZ,getElem?_map->Qa,nil_append->Qf,mem_append->Qg,getElem?_eq_getElem->Qh,getElem?_eq_some_iff->Qi,nodup_cons->Qj,getElem?_eq_none->Qk,mem_append_left->Qn,range->Qo,nodup_nil->Qq,length_filter_le->Qs,length_range->Qw,isEmpty_iff->Qx,getElem?_append_right->Qy,contains_iff_mem->Q2,append_assoc->Q8,all_eq_true->Q9,filter_sublist->qD,length_singleton->qF,toArray->qG,append_nil->qJ,length_take->qK,getElem?_append_left->qL,mem_of_getElem?->qN,length->qO,getElem?_set_ne->qT,mem_range->qU,ext_getElem?->qX,nodup_append->qZ,getD_eq_getElem?_getD->qf,getElem?_set_self->qg,getElem?_range->ql,all_cons->qp,length_replicate->qt,getElem?_set->wE,foldl_append->wG,length_set->wH,find?_cons->wJ,map_congr_left->wK,length_dropLast->wR,length_nil->wV,reverse_cons->wY,getElem?_cons_succ->wc,getElem?_replicate->we,length_reverse->wf,lookup_cons->wk,mem_flatMap->wm,pairwise_cons->wu,map_nil->ww,any_cons->WB,flatMap_cons->WD,map_fst_zip->WI,map_snd_zip->WJ,any_eq_true->WK,getElem_mem->WL,not_mem_nil->WM,filter_cons->WN,filterMap_cons->WO,set->Wf,map_inj_right->Wg,drop_eq_nil_of_le->Wk,filter_eq_nil_iff->Wl,pairwise_map->Wo,map_inj_left->Wp,mem_iff_getElem?->Ww,map_reverse->W4,getElem?_modify->W6,forIn_cons->QAD,foldl_cons->QAJ,mem_map_of_mem->QAK,filter_map->QAM,zip_cons_cons->QAT,length_zipIdx->QAW,replicate->QAa,drop_eq_getElem_cons->QAf,pairwise_iff_getElem->QAi,getLast?_eq_getElem?->QAj,length_erase_of_mem->QAn,getElem?_cons_zero->QAr,cons_append->QAz,length_drop->QA3,length_pos_of_mem->QBA,length_eq_one_iff->QBB,modify_succ_cons->QBC,modify_zero_cons->QBD,of_mem_zip->QBF,eq_nil_or_concat->QBN,concat_eq_append->QBO,mem_zipIdx->QBP,mem_erase_of_ne->QBW,forIn_nil->QBY,mergeSort_perm->QBi,set_cons_zero->QBj,set_cons_succ->QBk,mem_filterMap->QBs,filter_append->QB0,mapM_toArray->QB9,getElem?_inj->QCC,any_map->QCL,nodup_range->QCT,mem_reverse->QCU,lookup->QCW,map_id->QCd,getD->QCl
open PySem.PyData renaming str->j0,int->j1
open PySem.Value renaming none->j2,ref->kx
open PySem renaming wpAny_bind->QF,wpAny_pure->QL,sizeLine_eq->Q6,wpAny_loadPart'->qE,wpAny_newObj_type->qM,mem_of_lookup->qP,wpAny_call_entry->qR,wpAny_callSpecial?_slot->qd,Spec->qj,wpAny_holding->qm,wpAny_typeNameOfWhole_itemiter->qu,wpAny_mono->qw,wpAny_Call_Name_kw->qy,wpAny_typeNameOfWhole_keyiter->q0,wpAny_dictEntries->wC,wpAny_setField_rec->wN,wpAny_truthy_bool->wW,wpAny_passesOwn->wX,wpAny_dictEpoch->w8,wpAny_field->WP,wpAny_isOneOf_itemiter->Wj,wpAny_notOrdered_dict->Wt,wpAny_isInstance->Wx,wpAny_attempt->QAB,wpAny_execs_nil->QAE,codeAny_builtin->QAG,wpAny_seqItems->QAZ,wpAny_setField->QAd,wpAny_fieldsOf->QAe,wpAny_pyIter_list->QAm,seqIndex_of->QAt,wpAny_Call_method0_late->QAu,plainId_quiet->QAv,wpAny_newList->QAw,wpAny_eqBool_int->QA2,wpAny_specialOf->QBE,wpAny_isOneOf_keyiter->QBJ,builtinLookup_eq_fast->QBL,wpAny_Name->QBQ,wpAny_loadName_local->QBR,wpAny_newFunctionEnv->QBS,wpAny_pyIter_revIter->QBV,wpAny_newTuple->QBZ,wpAny_loadName_free->QBc,wpAny_Tuple_spliced->QBd,evalArgs_none->QBe,wpAny_setItem_pairs->QBf,wpAny_Constant_int->QBq,wpAny_standAt->QBr,wpAny_handled->QBv,wpAny_pyIter_tuple->QBw,call_reversed_list->QBx,wpAny_assign_Name->QB1,slot_list_getitem->QB3,call_meets->QB4,wpAny_rule->QB6,wpAny_pyIter_slot->QB7,wpAny_pyIter_enum->QCB,codeAny_mono->QCG,seqIndex_neg->QCH,wpAny_typeOf->QCI,wpAny_pyHash_str->QCN,wpAny_execs_cons->QCO,wpAny_of_eq->QCY,wpAny_throw->QCZ,wpAny_letGo->QCa,storedH_new->QCb,typeIs_str->QCh,Str->QCk
open Bool renaming false_ne_true->QG,and_eq_true->Qb,false_eq_true->Qu,not_eq_true'->Q4,eq_iff_iff->qA,not_false->wn,true_and->WU,or_eq_true->Wa,and_eq_true_iff->W8,not_true->W9,false_and->QAX,false_or->QAs,and_false->QBX,and_true->QBl,or_false->QBm,or_true->QCE,true_or->QCF
open PySem.Heap renaming get?_push_of_some->QH,get?_push_size->QS,lt_size->QY,SameBut->qY,get?_update_self->wM,size_push->WF,get?_update_other->Wh,ExtBut->QAF,get?_push_cases->QBU,size_update->QCS,IsList->QCX
open Nat renaming le_refl->QT,le_trans->QV,ne_of_lt->Qm,lt_of_lt_of_le->Qp,zero_le->Qv,lt_irrefl->qS,le_succ->wI,lt_of_succ_lt_succ->wq,ne_of_gt->wv,le_of_eq->wy,lt_trans->wz,lt_succ_of_lt->WC,le_of_not_lt->WG,le_of_lt->WR,lt_of_le_of_lt->WV,zero_add->Wr,min_le_right->W5,le_add_right->QA4,lt_or_ge->QBG,sub_self->QBM,lt_succ_self->QCM,succ_le_succ->QCQ,blt->QCj
open PySem.Str renaming ofString->Qc
open False renaming elim->Qd
open Option.some renaming inj->Ql,injEq->Qr
open PySem.PyData renaming eqv->Qt,strOk->wB,canLayAll0->wZ,depthAll->w4,canLay0->QAc,depth->QBH,noConfusion->QBu
open Array renaming length_toList->Qz,perm_iff_toList_perm->qH,getElem?_toList->wx,toList_inj->WH,getD_eq_getD_getElem?->QAL,getElem?_eq_some_iff->QAR,getElem?_eq_getElem->QAg,getElem?_eq_none->QA7,forIn_toList->QBn,getD->QB8
open PySem.Challenge renaming pw_quoteweave_k48_whole_moments->Q0,rw_quoteweave_k48_whole_moments->qC
open Option renaming map_some->Q1,map_none->wa,getD_some->Wz,isNone_iff_eq_none->QAh,isSome_map->QAl,getD_none->QCP
open PySem.Obj renaming mapSeq->Q3,data_mapFields->WY,isFreed_of_fields->QBI,data_mapDictKeys->QBT,cls_mapFields->QB5
open PySem.Heap.SameBut renaming update->Q5
open Ne renaming symm->Q7
open PySem.Builtin.Str renaming occurrences->qB
open PySem.Paired renaming length->qI
open PyProof.Rows renaming callWith_type1->qQ,subscriptTail_builtinR->qh,listUpdate_at->WZ,get?_update_seq->QAH,boot_reversed->QAQ,slot_tuple_getitem->QAS,boot_list->QA9,seqEpoch_at->QBg,getItem_tuple->QBt,sortedAll_old->QBy,Subscript_->QB2,listItems_at->QCJ,sortedAll_at->QCK
open PySem.Builtin.SmallTypes renaming nextOf->qV
open PySem.F renaming slot_dict_itemiterator_next->qW,slot_dict_keyiterator_next->qb,slot_tuple_iterator_next->qe,args_tuple_iterator_next_1->WT,entry_tuple_iterator_next->WX,plainAttrs_list->Wb,args_dict_itemiterator_next_1->Wm,entry_dict_itemiterator_next->Ws,args_dict_keyiterator_next_1->Wv,entry_dict_keyiterator_next->W0,slot_dict_getitem->QAb,plainAttrs_dict->QAy,slot_dict_items_iter->QA6,plain_list_iadd->QCD,slot_dict_iter->QCR
open Int renaming toNat_natCast->qa,lt_irrefl->wj,le_trans->QAV,emod_eq_of_lt->QAq,natCast_nonneg->QBz,le_refl->QCe,toNat->QCf
open LawfulBEq renaming eq_of_beq->qi
open PySem.SeqAt renaming EqAt->qk
open Prod renaming fst->qz,snd->QCV,ext->QCi
open Lean.Parser.Tactic renaming tacticSeq->wA
open PySem.Calls renaming spliced_cons->wL,spliced_nil->WA,callWith_builtin->Wi,Name_function_global->QAP
open PySem.Builtin.Dict_items renaming addrOf->wP,ownsTuple->QAA
open Classical renaming byContradiction->wQ
open List.Pairwise renaming imp_of_mem->wb,map->Wn
open PySem.W.WData renaming weightAll->wg,weight->W7
open PySem.Txt renaming slice->w6
open PySem.Builtin.List renaming listExtendWith->w9,listTooLong->WS,listUpdate->QAx,listItems->QA8
open PySem.Around renaming under_plainId->WE,in1_units->QA1
open Iff renaming rfl->WQ
open PySem.Builtin.Range renaming rangeSize->WW,small->QBh
open List.cons renaming injEq->Wc
open PySem.Builtin.Dict renaming showsAll->Wu
open PySem.Builtin.Int renaming intBits->QAI
open Prod.mk renaming inj->QAN
open PySem.Builtin.Tuple renaming tupleHashOf->QAY
open List.Perm renaming eq_of_pairwise->QAo,refl->QBa,of_eq->QCg
open PySem.StrLaws renaming sliceText->QAp
open Array.Perm renaming refl->QBK
open PySem.SeqAt.EqAt renaming int_str->QBo,str_int->QBp
open PyProof.Rows.SortSt renaming mk'->QCA
open StateT renaming run_pure->QCc
theorem dF{p:Prop}[Decidable p](h:¬p):decide p=false:=_root_.decide_eq_false h
theorem dT{p:Prop}[Decidable p](h:p):decide p=true:=_root_.decide_eq_true h
abbrev TB:=List (PySem.Addr×PySem.Obj)
abbrev mC:=PySem.Value -> PySem.Shared -> Prop
abbrev eB:=PySem.Addr -> Prop
abbrev rC:=List (QCk×QCk)
open Option renaming some->jr,none->kv
open Bool renaming true->kf,false->kd
open PySem renaming Value->kb,sizeLine->kn,Shared->kt,wpAny->ku,Addr->ko,model->k0,mainGlobals->k4,Program->k5,compareOp->vx,Heap->vu,starEach->xk,World->xb,Paired->x0,Around->x2,PyData->y1,sysModules->zl,FuncData->gV,Stmt->gl,cLine->gp,bootBuiltins->g6,eval->g7,Operator->hZ,Scope->hB,foldedSetIterable->hE,assignEach->hQ,rawInt->h7,firstArgMember->h8,binaryOp->fy,entryOfKey->fk,sliceBounds->fv,backTo->fb,NameKind->fm,codeAmong->f5,attributeBase->DC,CmpOp->dy,letOwnedTupleGo->dt,typeNameOfWhole->d3,recursionLimit->bb,DictEntry->b8,builtinsNs->c0,call->Er,IsItemIter->ej,atKey->eH,assign->ef,bindArgs->ew,ReadsAll->lj,spliced->lv,swapsWith->lb,Keyword->ll,relabel->ln,valueAt->lp,behindInMarks->lr,pyIter->la,closureFor->li,IntMulOk->l0,BindsTo->l4,callerA->l5,eqIsQuiet->l8,TriplesOk->mx,pyNext->me,typeLookup_type->mm,codeAny->mu,bindL->mA,bindC->mi,typeLookup->nj,PlainAttrs->nc,wpAny_notIn_of->nL,newExc->nP,newTuple->nt,dictSetDefault->ni,revObj->n7,assignInOrder->P0,rangeSize_one->pd,intBits_le_64->pc,evalPart_none->pL,call_list_seq->pR,comprehension->pu,IsItemIterOut->p0,Comprehension->p5,Arguments->p6,PassesOwn->p7,cellsFrom->p8,Const->RB,holding->Rt,UnaryOp->rk,getItem->rn,storedH->ri,IsRange->ro,HeapKind->sh,field->sn,raiseNew->tj
open Pure renaming pure->tv
open PyProof.Rows renaming seqObj->th,oneType'->tt,StrsAre->ti,sortedS->t3,AllBare->u0,envOfC->Ar,pairsOf->aj,subscriptTail->ax,IntsAre->ak,entry_list_sort->ah,slot_list_sort->ab,IsTup->ac,failedOf->ai
theorem a8.{u}{c:Prop}{d:Decidable c}(h:¬c){α:Sort u}{t e:α}:ite c t e=e:=_root_.if_neg h
theorem a9.{u}{c:Prop}{d:Decidable c}(h:c){α:Sort u}{t e:α}:ite c t e=t:=_root_.if_pos h
theorem im{a b:Prop}(h:a)(k:¬a):b:=_root_.absurd h k
theorem ir{a b:Prop}(h:a<->b):a=b:=_root_.propext h
theorem ii{p:Prop}[Decidable p](h:decide p=true):p:=_root_.of_decide_eq_true h
theorem i0{p:Prop}[Decidable p]:decide p=true<->p:=_root_.decide_eq_true_iff
theorem i3.{u,v}{α:Sort u}{β:Sort v}{a b:α}(f:α->β)(h:a=b):f a=f b:=_root_.congrArg f h
local macro_rules | `($x.$i:fieldIdx)=>if i.raw.isFieldIdx?==some 9 then `(($x).length) else Lean.Macro.throwUnsupported
set_option hygiene false in
local macro_rules
 | `(#[$xs,*])=>if xs.getElems.isEmpty then Lean.Macro.throwUnsupported else `(⟨$xs,*⟩)
 | `(())=>`(by omega)
open Lean Parser.Tactic in
def zzp:Nat->Syntax->MacroM (TSyntax `rcasesPat)
 | 0,_=>Macro.throwUnsupported
 | n+1,s=>match s with
  | `(#[$xs,*])=>do
   let a<-xs.getElems.mapM λx=>do let p<-zzp n x;`(rcasesPatLo| $p:rcasesPat)
   `(rcasesPat| ⟨$a,*⟩)
  | `(_)=>`(rcasesPat| _)
  | `($x:ident)=>`(rcasesPat| $x:ident)
  | _=>Macro.throwUnsupported
local macro_rules | `(tactic| let $p:term:=$e:term)=>do `(tactic| obtain $(<-zzp 9 p):rcasesPat:=$e)
set_option hygiene false in
local macro_rules | `(tactic| omega)=>do
 let f:=λ(s:String)=>(s.splitOn " ").toArray.map λx=>Lean.mkIdent x.toName
 let a<-(f "L2.szA L2.szB L2.szC L2.unA Nat.le_trans Nat.lt_of_le_of_lt").mapM λx=>`(wA| exact $x (by assumption) (by decide))
 let b<-(f "Nat.lt_of_lt_of_le Nat.lt_of_le_of_lt Nat.le_trans").mapM λx=>`(wA| exact $x (by assumption) (by assumption))
 let c<-(f "Nat.le_of_lt Nat.ne_of_lt Nat.ne_of_gt Nat.lt_succ_of_lt Nat.le_of_lt_succ L2.prA").mapM λx=>`(wA| exact $x (by assumption))
 let d<-(f "Nat.le_refl Nat.le_succ Nat.zero_le Nat.succ_pos").mapM λx=>`(wA| exact $x _)
 `(tactic| first|decide|assumption|exact L2.szL (by decide) $[| $a]* $[| $b]* $[| $c]* $[| $d]*|lia|omega (config:={})|(have:=PySem.sizeLine_eq;first|lia|omega (config:={})))
set_option hygiene false in
local macro_rules
 | `(%[ $xs,*|1 ])=>do
  let mut r<-`(PX.anil)
  for x in xs.getElems.reverse do r<-`(PX.acons $x $r)
  return r
 | `(%[ $xs,*|2 ])=>do
  let mut r<-`(PT.nil)
  for x in xs.getElems.reverse do r<-`(PT.seq $x $r)
  return r
def zza:="jA Ah ji Ma Ih yi ki Th La Eh zi Sh Ui Eu Oh Mi Di Iu Hi jb Ph Pi Ri Rh Gi Ha vv Fi CV BV Ea Oi Ni UV Li Ci Ia Xh Ga au tu Uh Si vb GV HV vi Ku fi Oa Pa Ji Vu si ui xi Na jAI jAM jAJ jAL jAK Su Ru jAF jAH jAG tz oz pz Az Rz Tz Pz Nu Xz jAO jAN gZ Rs Ss Nz Mz Lz Hz Gz Fz Dz Cz Bz Uz Hu Gu Yi Jz iz Yz Xu Ki Oz Dy Z0 bv aa Mh Lh Dh Fh Hh Gh js Ir Jh eh nh Nt Ot ju lz zu da ca ph ba ga jO oh Iy nz Rg Ur Xr Sg Ry Cb t5 Yp Lv zz vz Kq Ay Sy Op Lp Gp Tp Rf Nh lh zB reduceIte"
def zzb:="KH UE DF YS T.isD lockA zG lock kill VN Tg.ix xC sY vP AS isMut gX frzAt sX yf AC.eq_1 AC.eq_2 lN.eq_1 lN.eq_2 lN.eq_3 lN.eq_4 X8 V8 K8 xJ.eq_1 List.modify_succ_cons List.modify_zero_cons Option.map_some List.length_cons List.length_nil List.getElem?_cons_zero List.getElem?_cons_succ List.cons_append List.nil_append List.set_cons_zero List.set_cons_succ Nat.reduceAdd Nat.reduceSub Nat.zero_add Bool.and_true Bool.true_and Bool.not_true Bool.not_false Bool.or_true Bool.true_or Bool.or_false Bool.false_or Bool.and_false Bool.false_and if_true if_false Bool.false_eq_true true_and and_true false_implies ne_eq reduceCtorEq not_false_eq_true not_true_eq_false implies_true forall_const Int.reduceLT Int.reduceLE Int.reducePow Int.reduceNeg Nat.reducePow and_self eq_self Option.some.injEq Sl.own.injEq Sl.bor.injEq and_assoc decide_true decide_false"
set_option hygiene false in
local macro_rules | `(tactic| simp! [$ls,*])=>do
 let a<-(zza.splitOn " ").toArray.mapM λx=>`(Lean.Parser.Tactic.simpLemma| ↓ $(Lean.mkIdent x.toName):ident)
 let b<-(zzb.splitOn " ").toArray.mapM λx=>`(Lean.Parser.Tactic.simpLemma| $(Lean.mkIdent x.toName):ident)
 `(tactic| simp only [$ls,*,$a,*,$b,*])
set_option hygiene false in
local macro_rules | `(tactic| simp_arith! [$ls,*])=>do
 let a<-(zza.splitOn " ").toArray.mapM λx=>`(Lean.Parser.Tactic.simpLemma| ↓ $(Lean.mkIdent x.toName):ident)
 let b<-(zzb.splitOn " ").toArray.mapM λx=>`(Lean.Parser.Tactic.simpLemma| $(Lean.mkIdent x.toName):ident)
 `(tactic| simp -implicitDefEqProofs only [$ls,*,$a,*,$b,*])
abbrev LS:=List QCk
abbrev LN:=List Nat
abbrev LJ:=List Int
abbrev LW:=List PySem.Value
namespace L2.L3.Q
open PySem PySem.W PySem.Spec PyProof.Rows
noncomputable def Xv(x:List ko)(h:vu):QA:=x.filterMap λa=>(h.get? a).map λo=>(a,o)
noncomputable abbrev Dv:=(Str×Str×p6×FuncBody×hB)×(ko×List (Str×ko)×kb×ko)×Bool
noncomputable def To(h:gV)(b:Bool):Dv:=((h.name,h.qualname,h.params,h.body,h.scope),(h.globals,h.closure,h.defaults,h.builtins),b)
def aX(K:QA)(x:Str):Option Dv:=match qq K k4 x with
 |some (jr (.ref f))=>(match K.lookup f with
  |some #[_,_,.func fd,_]=>jr (To fd (Wq K fd.code x&&wO K (.ref f)))|_=>kv)
 |_=>kv
def MU(x:Str)(st:gl):Option Dv:=match st with
 | .FunctionDef _ a b _ _ _ sc _ _ _=>jr (To (qr x x a b sc .none .none .none .none kv .none .none) kf)|_=>kv
def lq:kb->Option Str
 | .str z _=>jr z|_=>kv
noncomputable def fj(K:QA)(x:Str):Option (List (Option Str)):=match qq K k4 x with
 |some (jr (.ref f))=>(match K.lookup f with
  |some #[.type t,_,.seq its _,_]=>if t="tuple" then jr (its.toList.map lq) else kv|_=>kv)
 |_=>kv
def cx:kb->Option Int
 | .int i _=>jr i|_=>kv
noncomputable def xj(K:QA)(x:Str):Option Int:=match qq K k4 x with
 |some (jr u)=>cx u|_=>kv
noncomputable def MW(K:QA)(x:Str):Bool:=match qq K k4 x with
 |some kv=>kf|_=>kd
noncomputable def uG(K:QA)(T:ko):Bool:=(match qq K k4 "going_order" with
 |some (jr (.ref f))=>(match K.lookup f with
  |some #[_,_,.func fd,_]=>(match fd.code with
   | .ref c=>QA0 K c T|_=>kd)
  |_=>kd)
 |_=>kd)&&((match qq K k4 "__builtins__" with
 |some (jr (.ref b))=>(match K.lookup b with
  |some #[.type t,jr d,.plain,_]=>t == "module" && (d==c0&&(b != c0&&(b != k4&&b != T)))|_=>kd)
 |_=>kd)&&((K.lookup T).isNone&&k4 != T))
def top(i:Nat):Stmt:=Q0.main.body.getD i (.Pass #[0,0,0,0])
noncomputable def fT:List (Str×Nat):=([("_law_mixed",45),("_law_cell_at",44),("_law_letters",46),("_law_spelt",47),("_law_words",48),("_law_person",49),("_law_folded",53),("_law_quote",51),("_law_event",52),("_law_against",50),("_law_world",54),("going_order",17),("has_against",23),("rank_of",21),("floor_of",22),("is_taken",20),("seen_among",25),("wrong_among",24),("live_among",26),("edges_of",29),("seers_of",28),("add_way",6),("add_name",5),("rooms_of",4),("points_reached",7),("lay_chain",8),("name_behind",10),("chain_from",9),("full_names",11),("apart_chains",3),("told_through",15),("ground_alone",14),("needs_of",31),("holders_in",30),("held_among",27),("gone",18),("since_in",42),("last_moment",33),("since_of",40),("_law_times",55),("_law_holders",56),("live_in",35),("past_in",34),("seen_in",36),("web_of",37),("ground_by",13),("ground_in",41),("ground_of",39),("until_time",19),("law",57)]:List (String×Nat)).map λp=>(Qc p.1,p.2)
def tT:List (Str×LS):=[("BEGIN",["","begin"])]
def sT:List (Str×Int):=[("WIDE",2)]
noncomputable def nT:LS:=(["any","enumerate","len","list","min","range","reversed","sorted","tuple"]:List String).map Qc
noncomputable def qv:Program:={ Q0 with main:={ Q0.main with body:=[1,2,3,4,5,6,7,8,9,10,11,13,14,15,17,18,19,20,21,22,23,24,25,26,27,28,29,30,31,33,34,35,36,37,39,40,41,42,44,45,46,47,48,49,50,51,52,53,54,55,56,57].map top } }
def tA:Addr:=89
noncomputable abbrev IZ:=List (Option Dv)×List (Option (List (Option Str)))×List (Option Int)×List Bool×Bool
def seen(K:Frag):IZ:=(fT.map λp=>aX K p.1,tT.map λp=>fj K p.1,sT.map λp=>xj K p.1,nT.map (MW K),uG K tA)
def due:IZ:=(fT.map λp=>MU p.1 (top p.2),tT.map λp=>jr (p.2.map jr),sT.map λp=>jr p.2,nT.map λ_=>kf,kf)
def fr(s:kt):Frag:=Xv ((Qo 320).filter λa=>a != tA) s.1
def xt(s:kt):Bool:=xlAt qv [] s&&recOk (RowW.records qC.row.toRowW) s
def ob(s:kt):IZ×Option Obj:=(seen (fr s),s.1.get? tA)
theorem lf:LeftO Q0 qv [] xt ob (λ_=>(due,jr (tabObj #[]))) 3226:=by intro w;kernel_rfl
theorem ws:qC.wellSaid=true:=by kernel_rfl
end L2.L3.Q
namespace L2
open PySem PySem.Spec PyProof.Rows
section
variable{n m:Nat}
theorem szL(h:n<=16777216):n<=sizeLine:=by rw[Q6];exact h
theorem jAV(h:n<16777216):n<sizeLine:=by rw[Q6];exact h
theorem jAW(h:n<=m)(k:m<=16777216):n<=sizeLine:=szL (QV h k)
theorem jAj(h:n<=m)(k:m<16777216):n<sizeLine:=jAV (WV h k)
theorem jAi(h:n<=m)(k:m<=16777216):0+n<=sizeLine:=by rw[Wr];exact jAW h k
theorem jAh{k c:Nat}(h:n+k<c)(l:m<=k):n+m<c:=WV (Nat.add_le_add_left l n) h
theorem jAk(h:m<n):n - 1<n:=by cases n with|zero=>exact(nomatch h)|succ n=>exact QCM n
end
open PySem.SeqAt
inductive NK where
 |s (x:Str)|t (xs:List NK)
noncomputable instance:DecidableEq NK:=λ_ _=>Classical.propDecidable _
mutual
def E4(h:vu):NK->kb->Prop
 | .s x,v=>∃t,v=.str x t|.t ks,v=>∃a y,v=.ref a/\h.IsTuple a y/\NKvs h ks y.toList
def NKvs(h:vu):List NK->LW->Prop
 |[],vs=>vs=[]|k::ks,vs=>∃v r,vs=v::r/\E4 h k v/\NKvs h ks r
end
mutual
def t8:NK->Nat
 | .s _=>0|.t h=>nkds h+1
def nkds:List NK->Nat
 |[]=>0|k::ks=>max (t8 k) (nkds ks)
end
mutual
def Ew(w:xb):NK->Int
 | .s x=>hashStr w x|.t h=>reduceHash (QAY (nkhs w h))
def nkhs(w:xb):List NK->LJ
 |[]=>[]|k::ks=>Ew w k::nkhs w ks
end
mutual
def Mo:NK->Nat
 | .s _=>1|.t h=>nkts h+1
def nkts:List NK->Nat
 |[]=>0|k::ks=>Mo k+nkts ks
end
theorem eY{h:vu}{a:ko}{xs x:Array kb}(p:h.IsTuple a xs)(q:h.IsTuple a x):xs=x:=by let#[o,e,_,n,d]:=p;let#[u,y,_,v,z]:=q;cases e.symm.trans y;cases d.symm.trans z;rfl
mutual
theorem e8{h:vu}:∀{k l:NK}{v:kb},E4 h k v->E4 h l v->k=l
 | .s x,.s y,v,#[t,e],#[u,e']=>by subst e;cases e';rfl|.s x,.t ls,v,#[t,e],#[_,_,e',_]=>by subst e;cases e'|.t ks,.s y,v,#[_,_,e,_],#[_,e']=>by subst e;cases e'|.t ks,.t ls,v,#[a,its,e,p,q],#[b,jts,e',p',q']=>by subst e;cases e';cases eY p p';rw[nks_inj q q']
theorem nks_inj{h:vu}:∀{ks ls:List NK}{vs:LW},NKvs h ks vs->NKvs h ls vs->ks=ls
 |[],[],_,_,_=>rfl|[],_::_,_,e,#[_,_,e',_]=>by cases(show _=[] from e).symm.trans e'|_::_,[],_,#[_,_,e',_],e=>by cases(show _=[] from e).symm.trans e'|k::ks,l::ls,_,#[v,r,e,p,q],#[v',r',e',p',q']=>by cases e.symm.trans e';rw[e8 p p',nks_inj q q']
end
mutual
theorem jU{h h':vu}(k:∀a its,h.IsTuple a its->h'.IsTuple a its):∀{x:NK}{v:kb},E4 h x v->E4 h' x v
 | .s x,v,e=>e|.t ks,v,#[a,its,e,p,q]=>#[a,its,e,k a its p,nks_keeps k q]
theorem nks_keeps{h h':vu}(k:∀a its,h.IsTuple a its->h'.IsTuple a its):∀{xs:List NK}{vs:LW},NKvs h xs vs->NKvs h' xs vs
 |[],_,e=>e|x::xs,_,#[v,r,e,p,q]=>#[v,r,e,jU k p,nks_keeps k q]
end
section
variable{prog:k5}{w:xb}{E:mC}
mutual
theorem dZ:∀(k:NK) (v:kb) (A:x2) (s:kt) (Q:Int->kt->Prop),E4 s.1 k v->A.units+t8 k<gp->Q (Ew w k) { s with toks:=s.toks+Mo k }->ku (k0 prog w) A (pyHash v) Q E s
 | .s x,v,A,s,Q,#[t,e],_,q=>by subst e;exact QCN q|.t ks,v,A,s,Q,#[a,its,e,#[o,ho,hc,n,hd],hi],h,q=>by subst e;have h:A.units+(nkds ks+1)<cLine:=h;refine PySem.W.pyHash_slot (T:="tuple") #[o,ho,hc] F.slot_tuple_hash F.entry_tuple_hash (F.args_tuple_hash_1 _) (beq_builtin_none _) (.inr ()) ?_;show ku _ _ (Builtin.Tuple.tupleItemsOf (.ref a) >>= _) _ _ s;refine QF (wpAny_tupleItemsOf ho hd ?_);refine QF ?_;rw[<- QBn];refine nk_loop ks its.toList A.in1 s #[] _ hi (by rw[QA1];omega) λb hb=>?_;show ku _ _ (retInt (QAY b.toList)) _ _ _;rw[hb];exact QF (wpAny_mkInt (QL #[_,_,rfl,by rw[Nat.add_assoc];exact q]))
theorem nk_loop:∀(ks:List NK) (vs:LW) (A:x2) (s:kt) (b:Array Int) (Q:Array Int->kt->Prop),NKvs s.1 ks vs->A.units+nkds ks<gp ->
  (∀y,y.toList=b.toList++nkhs w ks->Q y { s with toks:=s.toks+nkts ks }) ->
  ku (k0 prog w) A (forIn vs b λx r=>do let h <- pyHash x;tv PUnit.unit;tv (ForInStep.yield (r.push h))) Q E s
 |[],vs,A,s,b,Q,e,_,q=>by subst e;exact QL (q b (qJ _).symm)|k::ks,vs,A,s,b,Q,#[v,r,e,p,p'],z,q=>by subst e;have z:A.units+max (t8 k) (nkds ks)<cLine:=z;rw[QAD];refine QF (QF (dZ k v A s _ p () ?_));refine QF (QL (QL ?_));refine nk_loop ks r A _ _ Q p' () λy hb=>?_;have e:s.toks+Mo k+nkts ks=s.toks+(Mo k+nkts ks):=Nat.add_assoc _ _ _;have:=q y (by rw[hb,Array.toList_push,Q8];rfl);show Q y { s with toks:=s.toks+Mo k+nkts ks };rw[e];exact this
end
end
theorem jo{ks ls:List NK}{n m:Nat}(x:n=ks.9)(y:m=ls.9):((Qo (min n m)).all (λj=>decide (ks[j]?=ls[j]?))&&n==m)=decide (NK.t ks=NK.t ls):=by subst x y;rw[qA,i0,Qb,Q9,beq_iff_eq];constructor;rintro⟨z,v⟩;congr 1;refine qX λj=>?_;by_cases u:j<ks.9;exact ii (z j (qU.mpr ()));rw[Qk (),Qk ()];intro h;injection h with h;subst h;exact#[λ_ _=>dT rfl,rfl]
theorem sR{h:vu}:∀{ks:List NK}{vs:LW},NKvs h ks vs->vs.9=ks.9
 |[],_,e=>by cases(show _=[] from e);rfl|_::_,_,#[v,r,e,_,q]=>by rw[e,QM,QM,sR q]
mutual
theorem Hg:∀(k l:NK) (v u:kb) (A:x2) (s:kt),E4 s.1 k v->E4 s.1 l u->A.units+t8 k<gp->EqAt A s v u (decide (k=l))
 | .s x,.s y,v,u,A,s,#[t,e],#[t',e'],_=>by
  subst e e';have:=EqAt.str_str (A:=A) (s:=s) x t y t';have z:(x==y)=decide (NK.s x=NK.s y):=by rw[qA,i0,beq_iff_eq];exact#[λh=>h▸rfl,λh=>by injection h]
  rw[<- z];exact this
 | .s x,.t ls,v,u,A,s,#[t,e],#[b,jts,e',p,_],f=>by subst e e';rw[dF λh=>by cases h];exact EqAt.str_tuple x t p ()|.t ks,.s y,v,u,A,s,#[a,its,e,p,_],#[t,e'],f=>by subst e e';rw[dF λh=>by cases h];exact EqAt.tuple_str y t p ()|.t ks,.t ls,v,u,A,s,#[a,its,e,p,q],#[b,jts,e',p',q'],f=>by subst e e';by_cases w:a=b;subst w;cases eY p p';rw[nks_inj q q',dT rfl];exact EqAt.same _;have f:A.units+(nkds ks+1)<cLine:=f;refine EqAt.of_refs w ?_;have i:=sR q;have g:=sR q';rw[Qz]at i g;rw[<- jo i g];refine RcAt.tuples p p' () λj n m=>?_;have:=nks_eq ks ls its.toList jts.toList A.in1 s q q' (by rw[QA1];omega) j (by rw[Qz];exact n) (by rw[Qz];exact m);simpa using this
theorem nks_eq:∀(ks ls:List NK) (vs us:LW) (A:x2) (s:kt),NKvs s.1 ks vs->NKvs s.1 ls us->A.units+nkds ks<gp->∀j (y:j<vs.9) (x:j<us.9),EqAt A s vs[j] us[j] (decide (ks[j]?=ls[j]?))
 |[],_,vs,us,A,s,e,_,_,j,y,_=>by cases(show vs=[] from e);cases y|_::_,[],vs,us,A,s,_,e,_,j,_,x=>by cases(show us=[] from e);cases x|k::ks,l::ls,_,_,A,s,#[v,r,e,p,q],#[v',r',e',p',q'],u,j,y,x=>by
  subst e e';have u:A.units+max (t8 k) (nkds ks)<cLine:=u;cases j with|zero=>have:=Hg k l v v' A s p p' ();have z:decide (k=l)=decide ((k::ks)[0]?=(l::ls)[0]?):=decide_eq_decide.mpr #[λh=>by rw[h];rfl,λh=>Ql h];rw[<- z];exact this|succ j=>exact nks_eq ks ls r r' A s q q' () j (wq y) (wq x)
end
section
variable{prog:k5}{w:xb}{A:x2}{E:mC}{s:kt}
mutual
theorem IT:∀(k:NK) (v:kb) (n:Nat) (Q:Bool->kt->Prop),E4 s.1 k v->t8 k<=n->Q kf s->ku (k0 prog w) A (l8 n v) Q E s
 | .s x,v,n,Q,#[t,e],_,q=>by subst e;rw[eqIsQuiet_byValue _ rfl];exact QL q|.t ks,v,n,Q,#[a,its,e,#[o,ho,hc,m,hd],hi],g,q=>by
  subst e;have g:nkds ks+1<=n:=g;obtain⟨n,rfl⟩:∃m,n=m+1:=#[n - 1,()]
  have i:s.TypeIs (.ref a) "tuple":=#[o,ho,hc]
  unfold l8;refine QF (QBE i F.slot_tuple_eq.lookup ?_);show ku _ _ (isInstance (.ref a) (.type "tuple") >>= _) _ _ s;refine QF (Wx i isSubtype_tuple_tuple ?_);simp only[W9,Qu,if_false];refine QF (QAZ ho hd ?_);refine QF ?_;show ku _ _ (forIn its _ _) _ _ s;rw[<- QBn];refine wpAny_forIn_list _ (λh r z=>r.1=kv/\z=s/\∀v∈h,∀Q:Bool->kt->Prop,Q kf s->ku (k0 prog w) A (l8 n v) Q E s) _ ?_ ?_ _ _ #[rfl,rfl,nks_quiet ks its.toList n hi ()];rintro v h r z ⟨f,rfl,y⟩;refine QF (y v QD _ ?_);simp only[W9,Qu,if_false];exact QL #[rfl,rfl,λu b=>y u (QE _ b)];rintro⟨j,l⟩ z ⟨f,rfl,_⟩;cases(show j=kv from f);exact QL q
theorem nks_quiet:∀(ks:List NK) (vs:LW) (n:Nat),NKvs s.1 ks vs->nkds ks<=n->∀v∈vs,∀Q:Bool->kt->Prop,Q kf s->ku (k0 prog w) A (l8 n v) Q E s
 |[],vs,n,e,_,v,hv,Q,q=>by cases(show vs=[] from e);cases hv|k::ks,vs,n,#[x,r,e,p,p'],h,v,hv,Q,q=>by subst e;have h:max (t8 k) (nkds ks)<=n:=h;rcases QK.mp hv with rfl|hv;exact IT k v n Q p () q;exact nks_quiet ks r n p' () v hv Q q
end
end
section
variable{H:Hp}{a b:ko}{o:HO}
def EE(prog:k5)(w:xb):sh prog w NK where
 is:=λh k a=>E4 h k (.ref a)/\t8 k<=6
 hash:=Ew w
 draws:=Mo
 room:=λA=>A.units+8<gp
 inj:=λy u=>e8 y.1 u.1
 keeps:=λ{h m k a d o p q} x j l i=>#[jU (λb f #[ob,e,c,n,v]=>#[ob,(i.2 b λz=>by subst z;cases e.symm.trans j;cases l.symm.trans v).trans e,c,n,v]) x.1,x.2]
 pyHash:=λg hk h=>dZ _ _ _ _ _ hk.1 (by have:=hk.2;omega) h
 eqBool:=λg y u h=>Hg _ _ _ _ _ _ y.1 u.1 (by have:=y.2;omega) _ _ _ _ h
 quiet:=λhk h=>IT _ _ _ _ hk.1 (by have:=hk.2;omega) h
noncomputable abbrev Key:=Sum Int Str
noncomputable def BP:Key->kb->Bool
 | .inl k,v=>Value.isInt k v|.inr x,v=>Value.isStrOf x v
noncomputable def bx(w:xb):Key->Int
 | .inl k=>hashInt k|.inr x=>hashStr w x
theorem AA:∀{k:Key}{v:kb},BP k v=kf->(∃i t,k=Sum.inl i/\v=Value.int i t)∨(∃x t,k=Sum.inr x/\v=Value.str x t)
 | .inl i,v,h=>by let#[t,e]:=Value.isInt_shape (k:=i) (v:=v) h;exact .inl #[i,t,rfl,e]|.inr x,v,h=>by let#[t,e]:=Value.isStrOf_shape (x:=x) (v:=v) h;exact .inr #[x,t,rfl,e]
theorem G3(i:Int)(t:Tok):BP (.inl i) (.int i t)=true:=by simp[BP,Value.isInt]
theorem C3(x:Str)(t:Tok):BP (.inr x) (.str x t)=true:=by simp[BP,Value.isStrOf]
theorem lm(a b:Int):decide ((Sum.inl a:Key)=Sum.inl b)=(a==b):=by by_cases e:a=b;subst e;simp;have h:¬ (Sum.inl a:Key)=Sum.inl b:=λq=>e (Sum.inl.inj q);rw[dF h];exact(beq_eq_false_iff_ne.mpr e).symm
theorem um(a b:Str):decide ((Sum.inr a:Key)=Sum.inr b)=decide (a=b):=by by_cases e:a=b;subst e;simp;have h:¬ (Sum.inr a:Key)=Sum.inr b:=λq=>e (Sum.inr.inj q);rw[dF h,dF e]
theorem gm(a:Int)(b:Str):decide ((Sum.inl a:Key)=Sum.inr b)=false:=dF (λq=>nomatch q)
theorem cm(a:Str)(b:Int):decide ((Sum.inr a:Key)=Sum.inl b)=false:=dF (λq=>nomatch q)
def ND(prog:k5)(w:xb):PySem.KeyKind prog w Key where
 is:=BP
 hash:=bx w
 inj:=λv a b f hb=>by
  rcases AA f with⟨i,t,rfl,rfl⟩| ⟨x,t,rfl,rfl⟩
  rcases AA hb with⟨j,u,rfl,e⟩| ⟨y,u,rfl,e⟩
  ·injection e with e1 _;rw[e1]
  exact nomatch e;rcases AA hb with⟨j,u,rfl,e⟩| ⟨y,u,rfl,e⟩
  ·exact nomatch e
  injection e with e1 _;rw[e1]
 byValue:=λk v h=>by rcases AA h with⟨i,t,rfl,rfl⟩| ⟨x,t,rfl,rfl⟩<;>rfl
 pyHash:=λhv h=>by
  rcases AA hv with⟨i,t,rfl,rfl⟩| ⟨x,t,rfl,rfl⟩
  exact wpAny_pyHash_int h;exact QCN h
 eqBool:=λz hv h=>by
  rcases AA z with⟨i,t,rfl,rfl⟩| ⟨x,t,rfl,rfl⟩
  rcases AA hv with⟨j,u,rfl,rfl⟩| ⟨y,u,rfl,rfl⟩
  ·rw[lm]at h;exact QA2 h
  rw[gm]at h;exact QBo i t y u _ _ _ _ h;rcases AA hv with⟨j,u,rfl,rfl⟩| ⟨y,u,rfl,rfl⟩
  ·rw[cm]at h;exact QBp x t j u _ _ _ _ h
  rw[um]at h;exact wpAny_eqBool_str h
 «strs»:=λk x t v h=>by
  rcases AA h with⟨i,u,rfl,e⟩| ⟨y,u,rfl,e⟩
  exact nomatch e;injection e with e1 _;subst e1;cases v<;>rfl
theorem gU(prog:k5)(w:xb)(i:Int)(t:Tok):(ND prog w).is (.inl i) (.int i t)=true:=G3 i t
theorem fU(prog:k5)(w:xb)(x:Str)(t:Tok):(ND prog w).is (.inr x) (.str x t)=true:=C3 x t
set_option genInjectivity true in
inductive V where
 |non|bl (b:Bool)|int (i:Int)|str (x:Str)|byt (b:Array UInt8)|flt (b:UInt64)|ref (a:ko)|ty (n:String)
 deriving DecidableEq
abbrev LV:=List V
def JA:V->kb->Prop
 | .non,u=>u=j2|.bl b,u=>u=Value.bool b|.int i,u=>∃t,u=Value.int i t|.str x,u=>∃t,u=Value.str x t|.byt b,u=>∃t,u=Value.bytes b t|.flt b,u=>∃t,u=Value.float b t|.ref a,u=>u=kx a|.ty n,u=>u=Value.type n
noncomputable abbrev oA:LV->LW->Prop:=x0 JA
theorem oA.length{xs:LV}{us:LW}(r:oA xs us):xs.9=us.length:=qI r
theorem oA.get:∀{xs:LV}{us:LW}{i:Nat}{x:V},oA xs us->xs[i]?=jr x->∃u,us[i]?=jr u/\JA x u
 |_,_,_,_,.nil,e=>by simp at e|_,_,0,_,.cons r _,e=>by simp at e;subst e;exact#[_,rfl,r]|_,_,i+1,x,.cons _ t,e=>by let#[u,y,h]:=oA.get (i:=i) (x:=x) t (by simpa using e);exact#[u,by simpa using y,h]
theorem oA.set{x:V}{u:kb}(r:JA x u):∀{xs:LV}{us:LW}(i:Nat),oA xs us->oA (xs.set i x) (us.set i u)
 |_,_,_,.nil=>.nil|_,_,0,.cons _ t=>.cons r t|_,_,i+1,.cons q t=>.cons q (oA.set r i t)
theorem oA.append:∀{xs h:LV}{us ws:LW},oA xs us->oA h ws->oA (xs++h) (us++ws)
 |_,_,_,_,.nil,s=>s|_,_,_,_,.cons r t,s=>.cons r (oA.append t s)
theorem oA.take:∀{xs:LV}{us:LW}(n:Nat),oA xs us->oA (xs.take n) (us.take n)
 |_,_,0,_=>.nil|_,_,_+1,.nil=>.nil|_,_,n+1,.cons r t=>.cons r (oA.take n t)
theorem oA.drop:∀{xs:LV}{us:LW}(n:Nat),oA xs us->oA (xs.drop n) (us.drop n)
 |_,_,0,r=>r|_,_,_+1,.nil=>.nil|_,_,n+1,.cons _ t=>oA.drop n t
def mY:Option V->Option kb->Prop
 |some v,jr u=>JA v u|none,kv=>True|_,_=>False
def KV{h:Type}:List (h×V)->List (h×kb)->Prop:=x0 λ(p:h×V) (q:h×kb)=>p.1=q.1/\JA p.2 q.2
def kV:Key->V
 | .inl i=>.int i|.inr x=>.str x
inductive HO where
 |lst (xs:LV)
 |tup (xs:LV)
 |dK (kvs:List (Key×V))|dT (ep:Nat) (kvs:List (NK×ko×V))
 |set (S:Int->Bool) (n:Nat)
 |ins (C dx:ko) (fs:List (Str×V))
 |own (x:ko)
 |xd (fs:List (Str×V))
 |met (f x:ko)
 |rng (lo hi:Int)
 |frz (o:Obj) (u:HO)
 |tbl (q:Str)
 |ext (φ:vu->Prop)
noncomputable abbrev Hp:=ko->Option HO
noncomputable def CA(H:Hp)(a:ko)(o:HO):Hp:=λb=>if b=a then jr o else H b
theorem YA:CA H a o a=jr o:=by unfold CA;rw[a9 rfl]
theorem uA(h:b≠a):CA H a o b=H b:=by unfold CA;rw[a8 h]
theorem Pb{u:HO}:CA (CA H a o) a u=CA H a u:=by funext b;unfold CA;split<;>rfl
theorem iA(h:H a=jr o)(h':H b=kv):a≠b:=by intro e;subst e;rw[h]at h';cases h'
end
section
variable(P:k5)(w:xb)
def uB(H:Hp)(h:vu)(a:ko):HO->Prop
 | .lst k=>k.9<=kn/\∃(z:LW) (n:Nat),oA k z/\h.get? a=jr { cls:=.type "list",data:=.seq z.toArray n }|.tup k=>k.9<=kn/\∃z:LW,oA k z/\ac h a z.toArray|.dK y=>y.9<=kn/\(a==zl)=kd/\∃m,KV y m/\h.DictOf (ND P w) a m|.dT K y=>y.9<=kn/\(a==zl)=kd/\∃k:List (NK×ko×kb),
   x0 (λ(p:NK×ko×V) (q:NK×ko×kb)=>p.1=q.1/\p.2.1=q.2.1/\JA p.2.2 q.2.2) y k /\
   ∃o X,h.get? a=jr o/\o.ExactDict/\o.data=.dict X K/\X.toList=k.map (fk (EE P w))/\(k.map (·.1)).Nodup
 | .set S n=>h.SetOf (intKind P w) a S n|.ins C e fs=>H e=jr (.own a)/\fs.9<=1000/\e≠a/\h.get? a=jr (PySem.W.instObj C e) /\
   ∃b,h.Ns1 e b/\(∀f,mY (fs.lookup f) (b f))/\PySem.Within b (fs.map (·.1))
 | .own _=>∃o,h.get? a=jr o|.xd fs=>∃b,h.Ns1 a b/\∀f,mY (fs.lookup f) (b f)|.rng Y Z=>∃t u v,h.get? a=jr { cls:=.type "range",data:=.fields (qG [.int Y t,.int Z u,.int 1 v]) }|.frz o u=>h.get? a=jr o/\uB H h a u|.tbl q=>∃i,h.get? a=jr { cls:=.none,data:=.fields i }/\mx i.toList/\∀j l,f5 j i.toList=jr l->∃c,l=.ref c/\H c=jr (.own a)/\h.CodeRec l q|.met f x=>h.get? a=jr (QAk (.ref f) (.ref x))|.ext g=>g h/\(∃o,h.get? a=jr o)/\∀s r:vu,g s->(∀o,s.get? a=jr o->r.get? a=jr o)->g r
def eO(H:Hp)(h:vu):Prop:=∀a o,H a=jr o->uB P w H h a o
end
section
variable{P:k5}{w:xb}{H i:Hp}{h h':vu}{a:ko}{o:HO}
theorem uB.lt(x:uB P w H h a o):a<h.1.size:=by
 cases o with|lst v=>let#[_,_,_,_,e]:=x;exact QY e|tup v=>let#[_,_,_,p]:=x;exact p.lt|dK z=>let#[_,_,_,_,o,_,_,e,_]:=x;exact QY e|dT j z=>let#[_,_,_,_,o,_,e,_]:=x;exact QY e|set S n=>let#[o,_,_,_,e,_]:=x;exact QY e|ins C l fs=>let#[_,_,_,e,_]:=x;exact QY e|own y=>let#[_,e]:=x;exact QY e|xd fs=>let#[_,#[_,_,_,e,_],_]:=x;exact QY e|rng b g=>let#[_,_,_,e]:=x;exact QY e|frz ob u=>let#[e,_]:=x;exact QY e|tbl q=>let#[_,e,_]:=x;exact QY e|met f y=>exact QY (show h.get? a=jr _ from x)|ext k=>let#[_,#[_,e],_]:=x;exact QY e
theorem Paired.mapP{α z:Type}{F G:α->z->Prop}:∀{y:List α}{x:List z},x0 F y x->(∀a b,F a b->G a b)->x0 G y x
 |_,_,.nil,_=>.nil|_,_,.cons r t,f=>.cons (f _ _ r) (Paired.mapP t f)
theorem uB.stay(x:uB P w H h a o)(k:∀b u,(b=a∨H b=jr (.own a))->h.get? b=jr u->h'.get? b=jr u)
  (K:∀b,H b=jr (.own a)->i b=jr (.own a)) (O:∀b xs,H b=jr (.tup xs)->i b=jr (.tup xs)):uB P w i h' a o:=by
 induction o with|lst xs=>let#[z,m,n,r,e]:=x;exact#[z,m,n,r,k _ _ (.inl rfl) e]|tup xs=>let#[z,m,r,ob,e,c]:=x;exact#[z,m,r,ob,k _ _ (.inl rfl) e,c]|dK W=>let#[z,y,s,r,ob,j,l,e,c]:=x;exact#[z,y,s,r,ob,j,l,k _ _ (.inl rfl) e,c]|dT l W=>let#[z,y,xs,r,ob,j,e,c]:=x;exact#[z,y,xs,r,ob,j,k _ _ (.inl rfl) e,c]|set S n=>let#[ob,j,l,t,e,c]:=x;exact#[ob,j,l,t,k _ _ (.inl rfl) e,c]|ins C R fs=>let#[d,z,F,e,Z,#[Y,j,l,J,c],r]:=x;exact#[K _ d,z,F,k _ _ (.inl rfl) e,Z,#[Y,j,l,k _ _ (.inr d) J,c],r]|own y=>let#[ob,e]:=x;exact#[ob,k _ _ (.inl rfl) e]|xd fs=>let#[Z,#[Y,j,l,e,c],r]:=x;exact#[Z,#[Y,j,l,k _ _ (.inl rfl) e,c],r]|rng N Q=>let#[t,u,v,e]:=x;exact#[t,u,v,k _ _ (.inl rfl) e]|frz ob u G=>let#[e,q]:=x;exact#[k _ _ (.inl rfl) e,G q]|tbl q=>let#[E,e,t,f]:=x;refine#[E,k _ _ (.inl rfl) e,t,λX L g=>?_];let#[c,rfl,o,c1,ob,s,B,A,I,r]:=f X L g;cases A;exact#[c,rfl,K _ o,c,ob,s,B,rfl,k _ _ (.inr o) I,r]|met f y=>have e:h.get? a=jr (QAk (.ref f) (.ref y)):=x;show h'.get? a=jr (QAk (.ref f) (.ref y));exact k a _ (.inl rfl) e|ext M=>let#[p,#[o,e],st]:=x;exact#[st _ _ p λo q=>k _ _ (.inl rfl) q,#[o,k _ _ (.inl rfl) e],st]
theorem eO.lt(x:eO P w H h)(e:H a=jr o):a<h.1.size:=(x a o e).lt
theorem eO.fresh(x:eO P w H h)(e:h.1.size<=a):H a=none:=by
 cases q:H a with|none=>rfl|some u=>exact im (Qp (x.lt q) e) (qS _)
theorem eO.kept(x:eO P w H h)(k:∀b u,h.get? b=jr u->h'.get? b=jr u):eO P w H h':=λa o e =>
 (x a o e).stay (λb u _ q=>k b u q) (λ_ q=>q) λ_ _ q=>q
theorem eO.laid(x:eO P w H h)(k:∀b u,h.get? b=jr u->h'.get? b=jr u)(z:h.1.size<=a)(new:uB P w (CA H a o) h' a o):eO P w (CA H a o) h':=λb u e=>by have y:=x.fresh z;by_cases hb:b=a;subst hb;rw[YA]at e;cases e;exact new;rw[uA hb]at e;exact(x b u e).stay (λc v _ q=>k c v q) (λc q=>by rw[uA (iA q y)];exact q) λc f q=>by rw[uA (iA q y)];exact q
end
def Rd(H:Hp)(a:ko)(u:HO):Prop:=H a=jr u∨∃o,H a=jr (.frz o u)
theorem Rd.ok{P:k5}{w:xb}{H:Hp}{h:vu}{a:ko}{u:HO}(r:Rd H a u)(x:eO P w H h):uB P w H h a u:=by
 rcases r with r|⟨o,r⟩
 exact x a u r;let#[_,q]:=x a _ r;exact q
def Eo:Option HO->Prop
 |some (.lst _)=>True|some (.dK _)=>True|some (.dT _ _)=>True|some (.set _ _)=>True|some (.ins _ _ _)=>True|some (.ext _)=>True|_=>False
section
variable{P:k5}{w:xb}{H:Hp}{h h':vu}{x e:ko}{a:HO}
theorem eO.write(ok:eO P w H h)(l:Eo (H x))(o:e=x∨H e=jr (.own x))(k:∀b u,b≠e->h.get? b=jr u->h'.get? b=jr u)(m:∃u,h'.get? e=jr u)
  (new:uB P w (CA H x a) h' x a):eO P w (CA H x a) h':=λb u q=>by
 have g:∀c y,H c=jr (.own y)->c≠x:=λc y r z=>by subst z;rw[r]at l;exact l
 have i:∀c j,H c=jr (.tup j)->c≠x:=λc j r z=>by subst z;rw[r]at l;exact l
 by_cases hb:b=x;subst hb;rw[YA]at q;cases q;exact new;rw[uA hb]at q;by_cases f:b=e;have n:H b=jr (.own x):=by rcases o with z|z;exact im (f.trans z) hb;rw[f];exact z
 rw[q]at n;cases n;let#[v,hv]:=m;exact#[v,by rw[f];exact hv];refine(ok b u q).stay (λc v hc r=>k c v ?_ r) (λc r=>by rw[uA (g c b r)];exact r) λc j r=>by rw[uA (i c j r)];exact r
 rcases hc with rfl|hc;exact f;rintro rfl;rcases o with z|z;exact g c b hc z;rw[hc]at z;cases z;exact hb rfl
end
structure Un(fs ex:List ko)(H H':Hp)(h h':vu):Prop where
 keep:∀b o,h.get? b=jr o->H b=kv->b∉fs->b∉ex->h'.get? b=jr o
 slot:∀b o,h.get? b=jr o->H b=kv->b∈fs->b∉ex->∃sl,h'.get? b=jr { o with slots:=sl }
 free:∀b o,h.get? b=jr o->H b=kv->b∉ex->H' b=kv
 there:∀b o,h.get? b=jr o->b∉ex->∃o',h'.get? b=jr o'
 tups:∀b xs,H b=jr (.tup xs)->H' b=jr (.tup xs)
 frzs:∀b o u,H b=jr (.frz o u)->H' b=jr (.frz o u)
 tbls:∀b q,H b=jr (.tbl q)->H' b=jr (.tbl q)
section
variable{y w ex c:List ko}{H d g:Hp}{h v f h':vu}{a x e:ko}{o:HO}
theorem Un.any(u:Un y ex H d h v){b:ko}{ob:Obj}(q:h.get? b=jr ob)(n:H b=kv)(z:b∉ex):∃k,v.get? b=jr { ob with slots:=k }:=by by_cases hb:b∈y;exact u.slot b ob q n hb z;exact#[ob.slots,u.keep b ob q n hb z]
theorem Un.kept(k:∀b u,h.get? b=jr u->h'.get? b=jr u):Un y ex H H h h' :=
 #[λb ob q _ _ _=>k b ob q,λb ob q _ _ _=>#[ob.slots,k b ob q],λ_ _ _ n _=>n,λb ob q _=>#[ob,k b ob q],λ_ _ q=>q,λ_ _ _ q=>q,λ_ _ q=>q]
theorem Un.refl:Un y ex H H h h:=Un.kept λ_ _ q=>q
theorem Un.laid(k:∀b u,h.get? b=jr u->h'.get? b=jr u)(j:h.1.size<=a)(z:H a=kv):Un y ex H (CA H a o) h h' where
 keep:=λb u q _ _ _=>k b u q
 slot:=λb u q _ _ _=>#[u.slots,k b u q]
 free:=λb u q n _=>by rw[uA (Qm (Qp (QY q) j))];exact n
 there:=λb u q _=>#[u,k b u q]
 tups:=λb i q=>by rw[uA (iA q z)];exact q
 frzs:=λb u i q=>by rw[uA (iA q z)];exact q
 tbls:=λb l q=>by rw[uA (iA q z)];exact q
theorem Un.write(j:Eo (H x))(X:e=x∨H e=jr (.own x))(k:∀b u,b≠e->h.get? b=jr u->h'.get? b=jr u)(m:∃u,h'.get? e=jr u):Un y ex H (CA H x o) h h':=by
 have p:∀b,H b=kv->b≠x:=λb n z=>by subst z;rw[n]at j;exact j
 have hb:∀b,H b=kv->b≠e:=λb n z=>by subst z;rcases X with r|r;exact p b n r;rw[n]at r;cases r
 have l:∀b u,H b=jr u->¬ Eo (jr u)->b≠x:=λb u q nm z=>by subst z;rw[q]at j;exact nm j
 refine#[λb u q n _ _=>k b u (hb b n) q,λb u q n _ _=>#[u.slots,k b u (hb b n) q],λb u q n _=>by rw[uA (p b n)];exact n,λb u q _=>?_,
  λb s q=>by rw[uA (l b _ q λz=>z)];exact q,λb u s q=>by rw[uA (l b _ q λz=>z)];exact q,λb Y q=>by rw[uA (l b _ q λz=>z)];exact q]
 by_cases i:b=e;subst i;exact m;exact#[u,k b u i q]
end
section
variable{h:vu}{b:ko}{o:Obj}
noncomputable def gv(h:vu)(H:Hp):List Addr:=(Qo h.1.size).filter λa=>(H a).isSome
def PR(h:vu)(H:Hp):Heap:=PySem.W.hideAll h (gv h H)
theorem T3(h:vu)(H:Hp):(PR h H).1.size=h.1.size:=PySem.W.hideAll_size _ _
theorem t9{H:Hp}(e:h.get? b=jr o)(n:H b=kv):(PR h H).get? b=jr o :=
 PySem.W.hideAll_get _ e λx=>by have q:(H b).isSome=true:=(QZ.mp x).2;rw[n]at q;simp at q
theorem Ad{H:Hp}(e:(PR h H).get? b=jr o):h.get? b=jr o/\H b=none:=by
 have y:h.get? b=jr o:=PySem.W.of_hideAll (gv h H) e;refine#[y,?_];cases q:H b with|none=>rfl|some x=>have u:b∈gv h H:=QZ.mpr #[qU.mpr (QY y),by simp[q]];have z:(PR h H).get? b=none:=PySem.W.hideAll_none (gv h H) u;rw[z]at e;cases e
structure Mod(K:QA)(mg:Str->Option kb)(base:vu):Prop where
 kin:K.In base
 glob:base.Ns k4 mg
 blt:∃mb,base.Ns c0 mb/\∀x:Str,x≠"__name__"->mb x=g6 x
 nolimit:base.NoLimit
structure Cx where
 prog:k5
 w:xb
 K:QA
 mg:Str->Option kb
 base:vu
 A:x2
 N:LS
 s₀:kt
 H₀:Hp
 env:Env
 outer:List Env
 stack:List Env
 ex:List ko
 fn:Str->Bool
 calm:Bool
 pn:TB
 xe:kb->kt->Prop
def BZ(l:List Env):List Addr:=l.filterMap (·.frame)
noncomputable abbrev Cx.fs(X:Cx):List Addr:=BZ X.outer
def Ju(sc:hB)(x:Str):Prop:=sc.names.lookup x=jr .local∨sc.names.lookup x=jr .cell∨sc.names.lookup x=jr .free
def Io(sc:hB)(x:Str):Prop:=sc.names.lookup x=jr .local∨sc.names.lookup x=jr .cell
def Cy(env:Env)(h:vu)(m:Str->Option kb)(x:Str)(u:kb):Prop :=
 (env.kindOf x=jr .local/\m x=jr u)∨((env.kindOf x=jr .cell∨env.kindOf x=jr .free)/\∃c,env.cells.lookup x=jr c/\h.IsCell c (jr u))
def zQ(mg:Str->Option kb)(x:vu)(P:ko)(q:Str):Prop :=
 ∃f o y c,mg "going_order"=jr (.ref f)/\x.get? f=jr o/\o.data=.func y/\y.code=.ref c/\PySem.W.CodeHd x c P/\q=y.qualname++".<locals>.<lambda>"
structure Cx.Ok(X:Cx):Prop where
 mod:Mod X.K X.mg X.base
 kind:X.env.scope.kind=.function
 glob:X.env.globals=k4
 blt:X.env.builtins=c0
 above:X.s₀.1.1.size<=X.env.locals
 inj:∀x y c,X.env.cells.lookup x=jr c->X.env.cells.lookup y=jr c->x=y
 has:∀x,(X.env.kindOf x=jr .cell∨X.env.kindOf x=jr .free)->∃c,X.env.cells.lookup x=jr c
 cab:∀x c,X.fn x=kf->X.env.cells.lookup x=jr c->X.s₀.1.1.size<=c
 hd:X.calm=kf->X.A.handled=kv
 frames:X.A.frames=jr X.stack
 stk:X.stack=X.outer∨(X.stack=X.env::X.outer/\X.env.frame=jr X.env.locals)
 exf:∀b∈X.ex,b≠X.env.locals/\∀x c,X.env.cells.lookup x=jr c->c≠b
 bs:∀b o,X.base.get? b=jr o->X.s₀.1.get? b=jr o/\X.H₀ b=kv
 bsz:X.base.1.size<=X.s₀.1.1.size
 noex:∀b o,X.base.get? b=jr o->b∉X.ex
 exfs:∀b∈X.ex,b∉X.fs
 funs:X.s₀.1.FunFrames X.base X.outer
 frf:∀b∈X.fs,X.H₀ b=kv
 tb:∀P q,zQ X.mg X.base P q->X.H₀ P=jr (.tbl q)
structure Inv(X:Cx)(pins:TB)(σ:List (Option V))(H:Hp)(s:kt):Prop where
 ok:X.Ok
 os:s.os=X.s₀.os
 bare:u0 s.gens
 base:Un X.fs X.ex X.H₀ H X.s₀.1 s.1
 loc:∃m,s.1.Ns X.env.locals m/\∀(i:Nat) (x:Str) (v:V),X.N[i]?=jr x->σ[i]?=jr (jr v)->Ju X.env.scope x->∃u,JA v u/\Cy X.env s.1 m x u
 cell:∀x c,X.env.cells.lookup x=jr c->∃v,s.1.IsCell c v
 free:H X.env.locals=kv
 freeC:∀x c,X.env.cells.lookup x=jr c->H c=kv
 pin:∀p∈X.pn++pins,s.1.get? p.1=jr p.2/\H p.1=kv/\p.1≠X.env.locals/\p.1∉X.fs/\∀v,p.2.data≠.cell v
 hok:eO X.prog X.w H s.1
 len:σ.9=X.N.9
end
section
variable{X:Cx}{f:TB}{σ:List (Option V)}{H g:Hp}{s:kt}{h':vu}
section
variable{a:ko}{g':Array GenState}{ch:List ko}{i:Nat}{x:Str}{M:Model}{A:x2}{E:mC}{u:kb}{Q:Unit->kt->Prop}
theorem Cx.Ok.nofr(ok:X.Ok){b:ko}{o:Obj}(e:X.base.get? b=jr o):b∉X.fs:=λhb=>by have:=(ok.funs.mem hb).1;rw[e]at this;cases this
theorem Inv.bs(I:Inv X f σ H s):∀b o,X.base.get? b=jr o->s.1.get? b=jr o/\H b=none:=λb o e =>
 #[I.base.keep b o (I.ok.bs b o e).1 (I.ok.bs b o e).2 (I.ok.nofr e) (I.ok.noex b o e),I.base.free b o (I.ok.bs b o e).1 (I.ok.bs b o e).2 (I.ok.noex b o e)]
theorem Inv.bk(I:Inv X f σ H s):∀b o,X.base.get? b=jr o->s.1.get? b=jr o:=λb o e=>(I.bs b o e).1
theorem Inv.tb(I:Inv X f σ H s):∀P q,zQ X.mg X.base P q->H P=jr (.tbl q):=λP q h=>I.base.tbls P q (I.ok.tb P q h)
theorem Inv.mod(I:Inv X f σ H s):Mod X.K X.mg X.base:=I.ok.mod
theorem Inv.kIn(I:Inv X f σ H s):X.K.In s.heap:=I.ok.mod.kin.keeps I.bk
theorem Inv.nolimit(I:Inv X f σ H s):s.1.NoLimit:=I.ok.mod.nolimit.keeps I.bk
theorem Inv.lt(I:Inv X f σ H s):X.env.locals<s.1.1.size:=let#[_,h,_]:=I.loc;h.lt
theorem Inv.sz(I:Inv X f σ H s):X.s₀.1.1.size<=s.1.1.size:=QV I.ok.above (WR I.lt)
theorem Inv.nofs(I:Inv X f σ H s)(h:s.1.1.size<=a):a∉X.fs:=λhb=>by let#[_,o,y,_]:=I.ok.funs.mem hb;exact im (Qp (QY y) (QV I.sz h)) (qS _)
theorem Inv.cne(I:Inv X f σ H s):∀x c,X.env.cells.lookup x=jr c->c≠X.env.locals:=λx c e z=>by let#[v,o,w,k]:=I.cell x c e;let#[m,#[b,j,l,h,y,_],_]:=I.loc;rw[z,h]at w;cases w;rw[y]at k;cases k
theorem Inv.funs(I:Inv X f σ H s):s.1.FunFrames X.base X.outer:=by
 have all:∀(l:List Env),(∀b∈BZ l,b∈X.fs)->X.s₀.1.FunFrames X.base l->s.1.FunFrames X.base l:=by
  intro l;induction l with|nil=>intro _ _;trivial|cons p r w=>intro v hl;let#[hk,#[L,o,h,m,j,n],k]:=hl;have y:L∈X.fs:=v L (by unfold BZ;rw[WO,h];exact QD);let#[q,e]:=I.base.slot L o j (I.ok.frf L y) y λz=>I.ok.exfs L z y;exact#[hk,#[L,_,h,m,e,n],w (λb hb=>v b (by unfold BZ;rw[WO,h];exact QE _ hb)) k]
 exact all X.outer (λ_ hb=>hb) I.ok.funs
theorem Inv.stack(I:Inv X f σ H s):s.1.FunFrames X.base X.stack:=by
 rcases I.ok.stk with e|⟨e,y⟩
 rw[e];exact I.funs;rw[e];let#[m,h,_]:=I.loc;refine .cons (by rw[I.ok.kind];decide) y h ?_ I.funs;exact Heap.get?_none_of_le (QV I.ok.bsz I.ok.above)
theorem Inv.stkSub(I:Inv X f σ H s):∀b∈BZ X.stack,b∈X.env.locals::X.fs:=λb hb=>by
 rcases I.ok.stk with e|⟨e,h⟩
 rw[e]at hb;exact QE _ hb;rw[e]at hb;unfold BZ at hb;rw[WO,h]at hb;exact hb
theorem Inv.stkFree(I:Inv X f σ H s):∀b∈BZ X.stack,H b=none:=λb hb=>by rcases QK.mp (I.stkSub b hb) with e|hb;rw[e];exact I.free;let#[_,o,h,_]:=I.ok.funs.mem hb;exact I.base.free b o h (I.ok.frf b hb) λz=>I.ok.exfs b z hb
theorem Inv.step{t':Nat}{d':Drawn}(I:Inv X f σ H s)
  (j:∀b∈ch,(b∈X.ex∨X.s₀.1.1.size<=b)/\b≠X.env.locals/\(∀x c,X.env.cells.lookup x=jr c->c≠b)/\∀p∈X.pn++f,p.1≠b)
  (keep:∀b o,b≠X.env.locals->b∉X.fs->b∉ch->s.1.get? b=jr o->H b=kv->h'.get? b=jr o)
  (W:∀b o,b≠X.env.locals->b∈X.fs->b∉ch->s.1.get? b=jr o->H b=kv->∃R,h'.get? b=jr { o with slots:=R }) (free:∀b o,b∉ch->s.1.get? b=jr o->H b=kv->g b=kv)
  (K:∀b o,b∉ch->s.1.get? b=jr o->∃J,h'.get? b=jr J)
  (F:∀b xs,H b=jr (.tup xs)->g b=jr (.tup xs)) (N:∀b o u,H b=jr (.frz o u)->g b=jr (.frz o u)) (G:∀b O,H b=jr (.tbl O)->g b=jr (.tbl O))
  (ns:∀m,s.1.Ns X.env.locals m->h'.Ns X.env.locals m) (S:eO X.prog X.w g h') (hg:u0 g') :
  Inv X f σ g { s with heap:=h',gens:=g',drawn:=d',toks:=t' }:=by
 have L:∀b o,X.s₀.1.get? b=jr o->b≠X.env.locals:=λb o e=>Qm (Qp (QY e) I.ok.above);have Z:∀b o,X.s₀.1.get? b=jr o->b∉X.ex->b∉ch:=λb o e h hb=>by rcases(j b hb).1 with z|z;exact h z;exact im (Qp (QY e) z) (qS _)
 have Y:∀x c,X.env.cells.lookup x=jr c->∀v,s.1.IsCell c v->h'.IsCell c v:=λx c e v #[o,C,hd]=>by have y:c∉ch:=λz=>(j c z).2.2.1 x c e rfl;by_cases hc:c∈X.fs;let#[R,q]:=W c o (I.cne x c e) hc y C (I.freeC x c e);exact#[_,q,hd];exact#[o,keep c o (I.cne x c e) hc y C (I.freeC x c e),hd]
 refine#[I.ok,I.os,hg,#[λb o e n hb h=>?_,λb o e n hb h=>?_,λb o e n h=>?_,λb o e h=>?_,λb xs e=>F b xs (I.base.tups b xs e),λb o xs e=>N b o xs (I.base.frzs b o xs e),λb O e=>?_],?_,λx c e=>?_,?_,λx c e=>?_,λp hp=>?_,S,I.len];exact keep b o (L b o e) hb (Z b o e h) (I.base.keep b o e n hb h) (I.base.free b o e n h);let#[R,B]:=I.base.slot b o e n hb h;let#[P,e2]:=W b _ (L b o e) hb (Z b o e h) B (I.base.free b o e n h);exact#[P,e2];let#[J,B]:=I.base.there b o e h;exact free b J (Z b o e h) B (I.base.free b o e n h);let#[J,B]:=I.base.there b o e h;exact K b J (Z b o e h) B;exact G b _ (I.base.tbls b O e);let#[m,hn,hl]:=I.loc;refine#[m,ns m hn,λi x v B e2 e3=>?_];let#[u,r,l]:=hl i x v B e2 e3;refine#[u,r,?_];rcases l with l|⟨k,c,e,z⟩
 exact .inl l;exact .inr #[k,c,e,Y x c e _ z];let#[v,z]:=I.cell x c e;exact#[v,Y x c e v z];let#[m,#[o,_,_,C,_],_]:=I.loc;exact free _ o (λz=>(j _ z).2.1 rfl) C I.free;let#[v,o,C,hd]:=I.cell x c e;exact free c o (λz=>(j c z).2.2.1 x c e rfl) C (I.freeC x c e);let#[e,n,ne,nf,d]:=I.pin p hp;have y:p.1∉ch:=λz=>(j p.1 z).2.2.2 p hp rfl;exact#[keep p.1 p.2 ne nf y e n,free p.1 p.2 y e n,ne,nf,d]
theorem Inv.un{t':Nat}(I:Inv X f σ H s)(u:Un X.fs [] H g s.1 h')(y:eO X.prog X.w g h'):Inv X f σ g { s with heap:=h',toks:=t' }:=by let#[m,#[o,K,B,j,r],_]:=id I.loc;let#[Y,q]:=u.any j I.free (by simp);exact I.step (g':=s.gens) (d':=s.drawn) (ch:=[]) (λ_ z=>nomatch z) (λb o _ hb _ e n=>u.keep b o e n hb (by simp)) (λb o _ hb _ e n=>u.slot b o e n hb (by simp)) (λb o _ e n=>u.free b o e n (by simp)) (λb o _ e=>u.there b o e (by simp)) u.tups u.frzs u.tbls (λW p=>by let#[Z,v,k,h,l]:=p;rw[j]at h;cases h;exact#[_,v,k,q,l]) y I.bare
theorem Inv.call{t':Nat}{d':Drawn}(I:Inv X f σ H s)(u:Un (BZ X.stack) ch H g s.1 h')(v:eO X.prog X.w g h')(W:u0 g')
  (y:∀b∈ch,(b∈X.ex∨X.s₀.1.1.size<=b)/\b≠X.env.locals/\(∀x c,X.env.cells.lookup x=jr c->c≠b)/\∀p∈X.pn++f,p.1≠b) :
  Inv X f σ g { s with heap:=h',gens:=g',drawn:=d',toks:=t' }:=by
 let#[m,#[o,F,G,q,r],_]:=id I.loc;let#[K,k]:=u.any q I.free λz=>(y _ z).2.1 rfl;exact I.step (ch:=ch) y (λb o k hb hc e n=>u.keep b o e n (λz=>(QK.mp (I.stkSub b z)).elim k hb) hc) (λb o _ _ hc e n=>u.any e n hc) (λb o hc e n=>u.free b o e n hc) (λb o hc e=>u.there b o e hc) u.tups u.frzs u.tbls (λC Z=>by let#[B,j,l,h,Y]:=Z;rw[q]at h;cases h;exact#[_,j,l,k,Y]) v W
theorem Inv.turned{t':Nat}{it:ko}(I:Inv X f σ H s)(k:∀b o,b≠it->s.1.get? b=jr o->h'.get? b=jr o)(j:H it=kv)(y:it≠X.env.locals)
  (W:it∈X.ex∨X.s₀.1.1.size<=it) (Z:∀x c,X.env.cells.lookup x=jr c->c≠it) (Y:∀p∈X.pn++f,p.1≠it):Inv X f σ H { s with heap:=h',toks:=t' }:=by
 have h:∀b u,H b=jr u->b≠it:=λb u e z=>by rw[z,j]at e;cases e
 refine I.step (g':=s.gens) (d':=s.drawn) (ch:=[it]) (λb hb=>?_) (λb o _ _ hc e _=>k b o (λz=>hc (by simp[z])) e) (λb o _ _ hc e _=>#[o.slots,k b o (λz=>hc (by simp[z])) e]) (λ_ _ _ _ n=>n)
  (λb o hc e=>#[o,k b o (λz=>hc (by simp[z])) e]) (λ_ _ e=>e) (λ_ _ _ e=>e) (λ_ _ e=>e) (λm l=>?_) (λb u e=>?_) I.bare
 have e:b=it:=by simpa using hb
 subst e;exact#[W,y,Z,Y];let#[o,K,B,w,r]:=l;exact#[o,K,B,k _ o (Q7 y) w,r];refine(I.hok b u e).stay (λc v hc q=>k c v ?_ q) (λ_ q=>q) λ_ _ q=>q;rcases hc with z|z;rw[z];exact h b u e;exact h c _ z
theorem Inv.tok(I:Inv X f σ H s)(t:Nat):Inv X f σ H { s with toks:=t }:=I.un (h':=s.1) (t':=t) Un.refl I.hok
theorem Inv.kept{t':Nat}(I:Inv X f σ H s)(k:∀b u,s.1.get? b=jr u->h'.get? b=jr u):Inv X f σ H { s with heap:=h',toks:=t' }:=I.un (Un.kept k) (I.hok.kept k)
theorem Inv.laid{o:HO}{t':Nat}(I:Inv X f σ H s)(k:∀b u,s.1.get? b=jr u->h'.get? b=jr u)(h:s.1.1.size<=a)(new:uB X.prog X.w (CA H a o) h' a o) :
  Inv X f σ (CA H a o) { s with heap:=h',toks:=t' }:=I.un (Un.laid k h (I.hok.fresh h)) (I.hok.laid k h new)
theorem Inv.write{x e:ko}{o:HO}{t':Nat}(I:Inv X f σ H s)(y:Eo (H x))(z:e=x∨H e=jr (.own x))(k:∀b u,b≠e->s.1.get? b=jr u->h'.get? b=jr u)(h:∃u,h'.get? e=jr u)
  (new:uB X.prog X.w (CA H x o) h' x o):Inv X f σ (CA H x o) { s with heap:=h',toks:=t' }:=I.un (Un.write y z k h) (I.hok.write y z k h new)
theorem Inv.pins_of{y:TB}(I:Inv X f σ H s)(h:∀p∈y,s.1.get? p.1=jr p.2/\H p.1=kv/\p.1≠X.env.locals/\p.1∉X.fs/\∀v,p.2.data≠.cell v):Inv X y σ H s :=
 #[I.ok,I.os,I.bare,I.base,I.loc,I.cell,I.free,I.freeC,λp w=>(Qg.mp w).elim (λz=>I.pin p (Qn _ z)) (h p),I.hok,I.len]
theorem RT{N:LS}(h:N.Nodup){j:Nat}(a:N[i]?=jr x)(b:N[j]?=jr x):i=j:=by let#[w,z]:=Qi.mp a;let#[v,y]:=Qi.mp b;exact(List.getElem_inj h).mp (z.trans y.symm)
theorem bP{v:V}(I:Inv X f σ H s)(hN:X.N.Nodup)(O:X.N[i]?=jr x)(W:Io X.env.scope x)(r:JA v u)
  (h:∀s',Inv X f (σ.set i (jr v)) H s'->(∃a,qY a s.1 s'.1/\(a=X.env.locals∨X.env.cells.lookup x=jr a))->Q Unit.unit s') (hf:X.fn x=kf∨X.env.scope.names.lookup x=jr .local):ku M A (storeName X.env x u) Q E s:=by
 let#[m,hn,hl]:=id I.loc;have P:(X.env.scope.kind==.class||(X.env.scope.kind==.module&&X.env.locals != X.env.globals))=false:=by rw[I.ok.kind];rfl
 have C:i<σ.length:=by rw[I.len];exact(Qi.mp O).1
 have cne:=I.cne;have Y:∀{a:ko}{h':vu},(∃o,s.1.get? a=jr o/\H a=kv)->qY a s.1 h'->eO X.prog X.w H h':=λ{a h'} ha l b ob e=>by let#[_,_,K]:=ha;refine(I.hok b ob e).stay (λc w' hc q=>(l.2 c ?_).trans q) (λ_ q=>q) λ_ _ q=>q;rintro rfl;rcases hc with rfl|hc;rw[K]at e;cases e;rw[K]at hc;cases hc
 rcases W with hk|hk;refine wpAny_storeName_local hk hn (λh' hn' l=>?_) P;let#[oL,_,_,hoL,_]:=id hn;refine h _ #[I.ok,I.os,I.bare,#[λb o e n hb W=>?_,λb o e n hb W=>?_,I.base.free,λb o e W=>?_,I.base.tups,I.base.frzs,I.base.tbls],#[_,hn',λj y v' Z B e3=>?_],λy c e=>?_,I.free,I.freeC,λp hp=>?_,Y #[oL,hoL,I.free] l,by simpa using I.len] #[_,l,.inl rfl];exact(l.2 b (Qm (Qp (QY e) I.ok.above))).trans (I.base.keep b o e n hb W);let#[sl,Z]:=I.base.slot b o e n hb W;exact#[sl,(l.2 b (Qm (Qp (QY e) I.ok.above))).trans Z];let#[o',Z]:=I.base.there b o e W;exact#[o',(l.2 b (Qm (Qp (QY e) I.ok.above))).trans Z];by_cases F:j=i
 ·subst F
  rw[O]at Z;cases Z;rw[qg C]at B;cases B;exact#[u,r,.inl #[hk,by simp]]
 rw[qT (Q7 F)]at B;let#[u',r',q]:=hl j y v' Z B e3;refine#[u',r',?_];rcases q with⟨k,e⟩| ⟨k,c,e,z⟩
 refine .inl #[k,?_];have:y≠x:=λe=>F (RT hN Z (e▸O));simp[this,e];exact .inr #[k,c,e,z.sameBut l (cne y c e)];let#[w',z]:=I.cell y c e;exact#[w',z.sameBut l (cne y c e)];let#[e,n,ne,nf,d]:=I.pin p hp;exact#[(l.2 p.1 ne).trans e,n,ne,nf,d];have G:X.fn x=true:=by rcases hf with z|z;exact z;rw[z]at hk;cases hk
 let#[c,hc]:=I.ok.has x (.inl hk);let#[w',z]:=I.cell x c hc;refine wpAny_storeName_cell I.ok.kind hk hc z (λh' S l=>?_);let#[oc,L,J]:=id z;refine h { s with heap:=h' } #[I.ok,I.os,I.bare,#[λb o e n hb W=>?_,λb o e n hb W=>?_,I.base.free,λb o e W=>?_,I.base.tups,I.base.frzs,I.base.tbls],#[m,hn.sameBut l (Q7 (cne x c hc)),λj y v' Z B e3=>?_],λy c' e=>?_,I.free,I.freeC,λp hp=>?_,Y #[oc,L,I.freeC x c hc] l,by simpa using I.len] #[c,l,.inr hc];exact(l.2 b (Qm (Qp (QY e) (I.ok.cab x c G hc)))).trans (I.base.keep b o e n hb W);let#[sl,Z]:=I.base.slot b o e n hb W;exact#[sl,(l.2 b (Qm (Qp (QY e) (I.ok.cab x c G hc)))).trans Z];let#[o',Z]:=I.base.there b o e W;exact#[o',(l.2 b (Qm (Qp (QY e) (I.ok.cab x c G hc)))).trans Z];by_cases F:j=i
 ·subst F
  rw[O]at Z;cases Z;rw[qg C]at B;cases B;exact#[u,r,.inr #[.inl hk,c,hc,S]]
 rw[qT (Q7 F)]at B;let#[u',r',q]:=hl j y v' Z B e3;refine#[u',r',?_];rcases q with q|⟨k,c',e,z'⟩
 exact .inl q;refine .inr #[k,c',e,z'.sameBut l ?_];rintro rfl;exact F (RT hN Z (I.ok.inj _ _ _ e hc▸O));by_cases R:c'=c
 ·subst R;exact#[_,S]
 let#[w2,z2]:=I.cell y c' e;exact#[w2,z2.sameBut l R];let#[e,n,ne,nf,d]:=I.pin p hp;refine#[(l.2 p.1 ?_).trans e,n,ne,nf,d];intro q;rw[q,L]at e;have q':oc=p.2:=Ql e;exact d w' (by rw[<- q'];exact J)
theorem bT{v:V}(I:Inv X f σ H s)(k:X.N.Nodup)(z:X.N[i]?=jr x)(y:Io X.env.scope x)(r:JA v u)
  (h:∀s',Inv X f (σ.set i (jr v)) H s'->Q Unit.unit s') (w:X.fn x=kf∨X.env.scope.names.lookup x=jr .local):ku M A (storeName X.env x u) Q E s :=
 bP I k z y r (λs' b _=>h s' b) w
theorem Inv.call'{s':kt}(I:Inv X f σ H s)(v:s'.os=s.os)(u:Un (BZ X.stack) ch H g s.1 s'.1)(h:eO X.prog X.w g s'.1)(k:u0 s'.gens)
  (y:∀b∈ch,(b∈X.ex∨X.s₀.1.1.size<=b)/\b≠X.env.locals/\(∀x c,X.env.cells.lookup x=jr c->c≠b)/\∀p∈X.pn++f,p.1≠b):Inv X f σ g s':=by
 let#[h',g',d',t',z]:=s';have e:z=s.os:=v;subst e;exact I.call (g':=g') (t':=t') (d':=d') u h k y
end
end
noncomputable abbrev XK:=kb->Option ko->Hp->Prop
noncomputable abbrev St:=List (Option V)
noncomputable abbrev VK:=V->Hp->Prop
noncomputable abbrev TE:=St->Hp->VK->Prop
noncomputable abbrev TT:=St->Hp->(Bool->Hp->Prop)->Prop
noncomputable abbrev TA:=St->Hp->(LV->Hp->Prop)->Prop
structure Ends where
 nx:St->Hp->Prop
 rt:VK
 bk:St->Hp->Prop:=λ_ _=>False
 ct:St->Hp->Prop:=λ_ _=>False
noncomputable abbrev TS:=Ends->St->Hp->Prop
def EP(X:Cx)(h:TB)(σ:St)(Q:VK)(u:kb)(s':kt):Prop:=∃v x,Inv X h σ x s'/\JA v u/\Q v x
def TP(X:Cx)(h:TB)(σ:St)(Q:Bool->Hp->Prop)(b:Bool)(s':kt):Prop:=∃x,Inv X h σ x s'/\Q b x
def AP(X:Cx)(h:TB)(σ:St)(Q:LV->Hp->Prop)(us:LW)(s':kt):Prop:=∃x y,Inv X h σ y s'/\oA x us/\Q x y
def SP(X:Cx)(x:TB)(D:Ends)(f:Flow)(s':kt):Prop :=
 match f with
 | .next=>∃h y,Inv X x h y s'/\D.nx h y|.brk=>∃h y,Inv X x h y s'/\D.bk h y|.cont=>∃h y,Inv X x h y s'/\D.ct h y|.ret u=>∃v h y,Inv X x h y s'/\JA v u/\D.rt v y
def PE(X:Cx)(e:Expr)(t:TE):Prop :=
 ∀(h:TB) (s:kt) (x:St) (H:Hp) (Q:VK),Inv X h x H s->t x H Q->ku (k0 X.prog X.w) X.A (g7 e X.env) (EP X h x Q) X.xe s
def PT(X:Cx)(e:Expr)(t:TT):Prop :=
 ∀(h:TB) (s:kt) (x:St) (H:Hp) (Q:Bool->Hp->Prop),Inv X h x H s->t x H Q->ku (k0 X.prog X.w) X.A (isTrue e X.env (g7 e X.env)) (TP X h x Q) X.xe s
def PW(X:Cx)(e:Expr)(t:TT):Prop :=
 ∀(x:Sem kb) (h:TB) (s:kt) (y:St) (H:Hp) (Q:Bool->Hp->Prop),Inv X h y H s->t y H Q->ku (k0 X.prog X.w) X.A (isTrue e X.env x) (TP X h y Q) X.xe s
theorem PW.pt{X:Cx}{e:Expr}{t:TT}(h:PW X e t):PT X e t:=h _
def PA(X:Cx)(es:List Expr)(t:TA):Prop :=
 ∀(y:Pos) (h:TB) (s:kt) (x:St) (H:Hp) (Q:LV->Hp->Prop),Inv X h x H s->t x H Q->ku (k0 X.prog X.w) X.A (lv (fb y (xk es X.env))) (AP X h x Q) X.xe s
def PS(X:Cx)(st:gl)(t:TS):Prop :=
 ∀(h:TB) (s:kt) (x:St) (H:Hp) (D:Ends),Inv X h x H s->t D x H->ku (k0 X.prog X.w) X.A (exec st X.env) (SP X h D) X.xe s
def nY(X:Cx)(st:List gl)(t:TS):Prop :=
 ∀(h:TB) (s:kt) (x:St) (H:Hp) (D:Ends),Inv X h x H s->t D x H->ku (k0 X.prog X.w) X.A (execs st X.env) (SP X h D) X.xe s
theorem GB{α:Type}{t:Sem α}{Q y:α->kt->Prop}{M:Model}{A:x2}{E:mC}{s:kt}(h:ku M A t Q E s)(z:∀a s,Q a s->y a s):ku M A t y E s:=qw h z λ_ _ x=>x
section
variable{X:Cx}
section
variable{z:TB}{s:kt}{σ:St}{H:Hp}{x:Str}{pos:Pos}{E Q:mC}{u:kb}
theorem bin{a b:Expr}{ta g:TE}(Y:PE X a ta)(hb:PE X b g){R:V->V->Hp->Prop}(I:Inv X z σ H s)(h:ta σ H λx l=>g σ l λy k=>R x y k)
  {α:Type}{Q:α->kt->Prop}{f:kb->kb->Sem α}
  (r:∀v u j x y k,Inv X z σ k j->JA x v->JA y u->R x y k->ku (k0 X.prog X.w) X.A (f v u) Q X.xe j) :
  ku (k0 X.prog X.w) X.A (g7 a X.env) (λv i=>ku (k0 X.prog X.w) X.A (g7 b X.env) (λu e=>ku (k0 X.prog X.w) X.A (f v u) Q X.xe e) X.xe i) X.xe s:=by
 refine GB (Y z s σ H _ I h) λv m #[x,l,W,o,q]=>?_;refine GB (hb z m σ l _ W q) λu j #[y,k,Z,n,p]=>?_;exact r v u j x y k Z o n p
def xw(i:Nat):TE:=λσ H Q=>∃v,σ[i]?=jr (jr v)/\Q v H
def tC(v:V):TE:=λ_ H Q=>Q v H
theorem l7{i:Nat}(f:X.N[i]?=jr x)(hv:Ju X.env.scope x)(w:(x==("__debug__":Str))=false:=by decide)(k:(x==("__classdict__":Str))=false:=by decide):PE X (.Name x pos) (xw i):=by
 intro z s σ H Q I h;let#[v,e,h]:=h;let#[m,a,hl]:=I.loc;let#[u,r,l]:=hl i x v f e hv;have fin:EP X z σ Q u s:=#[v,H,I,r,h]
 rcases l with⟨hk,b⟩| ⟨hk,c,hc,y⟩
 exact QBQ (QBR I.ok.kind hk a b fin) w;rcases hk with hk|hk
 ·exact QBQ (wpAny_loadName_cell I.ok.kind hk hc y fin) w
 exact QBQ (QBc I.ok.kind hk hc y fin k) w
theorem JW{i j pos}:PE X (.Constant (.int i) j pos) (tC (.int i)):=λ_ _ _ H _ I h=>QBq #[.int i,H,I.tok _,#[_,rfl],h]
theorem Kg{b j pos}:PE X (.Constant (.bool b) j pos) (tC (.bl b)):=λ_ _ _ H _ I h=>Constant_bool #[.bl b,H,I,rfl,h]
theorem e7{j pos}:PE X (.Constant .none j pos) (tC .non):=λ_ _ _ H _ I h=>Constant_none #[.non,H,I,rfl,h]
theorem jk{x j pos}:PE X (.Constant (.str x) j pos) (tC (.str x)):=λ_ _ _ H _ I h=>Calls.Constant_str #[.str x,H,I.tok _,#[_,rfl],h]
def Gl(X:Cx)(x:Str):Prop:=X.env.kindOf x=jr .globalImplicit
theorem BR(I:Inv X z σ H s)(v:Gl X x)(y:X.mg x=jr u)(h:Q u s)
  (k:(x==("__debug__":Str))=false:=by decide):ku (k0 X.prog X.w) X.A (g7 (.Name x pos) X.env) Q E s :=
 QAP I.ok.kind v (Calls.loadGlobal_global (by rw[I.ok.glob];exact I.mod.glob.keeps I.bk) y h) k
theorem kF(I:Inv X z σ H s)(k:Gl X x)(v:X.mg x=kv)(hv:g6 x=jr u)(h:Q u s)
  (y:x≠"__name__":=by decide) (a:(x==("__debug__":Str))=false:=by decide):ku (k0 X.prog X.w) X.A (g7 (.Name x pos) X.env) Q E s:=by
 let#[f,e,b]:=I.mod.blt;exact QAP I.ok.kind k (Calls.loadGlobal_builtin (by rw[I.ok.glob];exact I.mod.glob.keeps I.bk) v (by rw[I.ok.blt];exact e.keeps I.bk) ((b x y).trans hv) h) a
theorem Oc{v:V}(w:Gl X x)(y:X.mg x=jr u)(r:JA v u)(k:(x==("__debug__":Str))=false:=by decide):PE X (.Name x pos) (tC v) :=
 λ_ _ _ H _ I h=>BR I w y #[v,H,I,r,h] k
end
variable{a b:Expr}{ta g:TE}{pos:Pos}
variable{n o:TT}{k:List Expr}
noncomputable def aw(t u:TT):TT:=λh H Q=>t h H λc x=>if c=kf then u h x Q else Q kd x
noncomputable def jAS(t u:TT):TT:=λh H Q=>t h H λc x=>if c=kf then Q kf x else u h x Q
def gw(t:TT):TT:=λh H Q=>t h H λc x=>Q (!c) x
theorem Kc(z:PT X a n):PW X (.BoolOp .And [a] pos) n:=by
 intro u x s y H Q I h;refine isTrue_and (GB (z x s y H Q I h) λc v e=>?_);cases c with|true=>exact isTrue_and_nil e|false=>exact e
theorem Fj(z:PT X a n):PW X (.BoolOp .Or [a] pos) n:=by
 intro u x s y H Q I h;refine isTrue_or (GB (z x s y H Q I h) λc v e=>?_);cases c with|false=>exact isTrue_or_nil e|true=>exact e
theorem j7(f:PT X a n)(hb:PW X (.BoolOp .And (b::k) pos) o):PW X (.BoolOp .And (a::b::k) pos) (aw n o):=by
 intro w x s y H Q I h;refine isTrue_and (GB (f x s y H _ I h) λc e #[v,u,z]=>?_);cases c with|true=>exact hb w x e y v Q u z|false=>exact#[v,u,z]
theorem ig(f:PT X a n)(hb:PW X (.BoolOp .Or (b::k) pos) o):PW X (.BoolOp .Or (a::b::k) pos) (jAS n o):=by
 intro w x s y H Q I h;refine isTrue_or (GB (f x s y H _ I h) λc e #[v,u,z]=>?_);cases c with|true=>exact#[v,u,z]|false=>exact hb w x e y v Q u z
theorem Gj(z:PT X a n):PT X (.UnaryOp .Not a pos) (gw n):=by intro x s y H Q I h;exact isTrue_not (z x s y H (λc u=>Q (!c) u) I h)
noncomputable def dq(ta g:TE):TE:=λh H Q=>ta h H λx y=>∃c,x=.bl c/\if c=kf then g h y Q else Q (.bl kd) y
noncomputable def fw(ta g:TE):TE:=λh H Q=>ta h H λx y=>∃c,x=.bl c/\if c=kf then Q (.bl kf) y else g h y Q
theorem t7{op}{t:TE}(h:PE X a t):PE X (.BoolOp op [a] pos) t:=λx s y H Q I z=>BoolOp_one (h x s y H Q I z)
theorem Z7(j:PE X a ta)(hb:PE X (.BoolOp .And (b::k) pos) g):PE X (.BoolOp .And (a::b::k) pos) (dq ta g):=by
 intro y s u H Q I h;refine BoolOp_and (GB (j y s u H _ I h) λv f #[x,e,w,i,z]=>?_);let#[c,rfl,z]:=z;cases i;refine wW ?_;cases c with|true=>exact hb y f u e Q w z|false=>exact#[.bl kd,e,w,rfl,z]
theorem Zg(j:PE X a ta)(hb:PE X (.BoolOp .Or (b::k) pos) g):PE X (.BoolOp .Or (a::b::k) pos) (fw ta g):=by
 intro y s u H Q I h;refine BoolOp_or (GB (j y s u H _ I h) λv f #[x,e,w,i,z]=>?_);let#[c,rfl,z]:=z;cases i;refine wW ?_;cases c with|false=>exact hb y f u e Q w z|true=>exact#[.bl kf,e,w,rfl,z]
noncomputable def jAT(t:TT)(ta g:TE):TE:=λh H Q=>t h H λc x=>if c=kf then ta h x Q else g h x Q
theorem J7{c:Expr}(hc:PT X c n)(e:PE X a ta)(hb:PE X b g):PE X (.IfExp c a b pos) (jAT n ta g):=by
 intro x s y H Q I h;refine wpAny_IfExp (GB (hc x s y H _ I h) λd z #[w,v,u]=>?_);cases d with|true=>exact e x z y w Q v u|false=>exact hb x z y w Q v u
end
def nC(K:QA)(H:Hp)(a:ko)(xs:LV):Prop :=
 Rd H a (.lst xs) ∨
  ∃(o:Obj) (h:Array kb) (n:Nat),K.lookup a=jr o/\o.cls=.type "list"/\o.dict=kv/\o.data=.seq h n/\h.size<=kn/\oA xs h.toList
def ED(K:QA)(H:Hp)(a:ko)(xs:LV):Prop :=
 Rd H a (.tup xs) ∨
  ∃(o:Obj) (h:Array kb) (n:Nat),K.lookup a=jr o/\o.cls=.type "tuple"/\o.data=.seq h n/\h.size<=kn/\oA xs h.toList
noncomputable def xO:kb->Option V
 | .none=>jr .non|.bool b=>jr (.bl b)|.int i _=>jr (.int i)|.str x _=>jr (.str x)|.bytes b _=>jr (.byt b)|.float b _=>jr (.flt b)|.ref a=>jr (.ref a)|.type n=>jr (.ty n)|_=>kv
theorem JA.abs{x:V}{u:kb}(r:JA x u):xO u=jr x:=by
 cases x with|non=>cases r;rfl|bl _=>cases r;rfl|int _=>let#[t,rfl]:=r;rfl|str _=>let#[t,rfl]:=r;rfl|byt _=>let#[t,rfl]:=r;rfl|flt _=>let#[t,rfl]:=r;rfl|ref _=>cases r;rfl|ty _=>cases r;rfl
theorem JA.inj{x y:V}{u:kb}(r:JA x u)(q:JA y u):x=y:=Ql (r.abs.symm.trans q.abs)
theorem oA.inj:∀{xs h:LV}{us:LW},oA xs us->oA h us->xs=h
 |_,_,_,.nil,.nil=>rfl|_,_,_,.cons r t,.cons r' t'=>by rw[r.inj r',oA.inj t t']
section
variable{X:Cx}{x:TB}{σ:St}{H:Hp}{s:kt}{a:ko}{xs y:LV}
theorem nC.of{K:QA}(h:H a=jr (.lst xs)):nC K H a xs:=.inl (.inl h)
theorem ED.of{K:QA}(h:H a=jr (.tup xs)):ED K H a xs:=.inl (.inl h)
theorem Inv.list(I:Inv X x σ H s)(h:nC X.K H a xs):∃its:LW,oA xs its/\PlainL s.1 a its.toArray/\xs.9<=sizeLine:=by
 rcases h with h|⟨o,its,n,hk,hc,v,u,w,r⟩
 let#[z,its,n,r,e]:=h.ok I.hok;exact#[its,r,#[_,n,e,rfl,rfl,rfl],z];refine#[its.toList,r,#[o,n,I.kIn a o hk,hc,v,by simpa using u],?_];have e:=r.9;simp only[Qz]at e;omega
theorem Inv.tuple(I:Inv X x σ H s)(h:ED X.K H a xs):∃its:LW,oA xs its/\ac s.1 a its.toArray/\xs.9<=sizeLine:=by
 rcases h with h|⟨o,its,n,hk,hc,u,v,r⟩
 let#[z,its,r,p]:=h.ok I.hok;exact#[its,r,p,z];refine#[its.toList,r,#[o,I.kIn a o hk,hc,n,by simpa using u],?_];have e:=r.9;simp only[Qz]at e;omega
theorem Inv.list_inj(I:Inv X x σ H s)(h:nC X.K H a xs)(h':nC X.K H a y):xs=y:=by
 let#[u,r,#[o,n,e,_,_,d],_]:=I.list h;let#[z,k,#[b,f,v,_,_,w],_]:=I.list h';rw[e]at v;cases v;rw[d]at w;injection w with d1 _;have:u=z:=by simpa using i3 Array.toList d1
 subst this;exact r.inj k
theorem Inv.tuple_inj(I:Inv X x σ H s)(h:ED X.K H a xs)(h':ED X.K H a y):xs=y:=by
 let#[u,r,#[o,e,_,n,d],_]:=I.tuple h;let#[z,k,#[b,v,_,f,w],_]:=I.tuple h';rw[e]at v;cases v;rw[d]at w;injection w with d1 _;have:u=z:=by simpa using i3 Array.toList d1
 subst this;exact r.inj k
end
noncomputable abbrev Cx.wish(X:Cx)(E:mC):Cx:={ X with xe:=E }
noncomputable abbrev Cx.nox(X:Cx):Cx:=X.wish λ_ _=>False
theorem Cx.Ok.wish{X:Cx}(ok:X.Ok)(E:mC):(X.wish E).Ok :=
 #[ok.mod,ok.kind,ok.glob,ok.blt,ok.above,ok.inj,ok.has,ok.cab,ok.hd,ok.frames,ok.stk,ok.exf,ok.bs,ok.bsz,ok.noex,ok.exfs,ok.funs,ok.frf,ok.tb]
theorem Cx.Ok.unwish{X:Cx}{E:mC}(ok:(X.wish E).Ok):X.Ok :=
 #[ok.mod,ok.kind,ok.glob,ok.blt,ok.above,ok.inj,ok.has,ok.cab,ok.hd,ok.frames,ok.stk,ok.exf,ok.bs,ok.bsz,ok.noex,ok.exfs,ok.funs,ok.frf,ok.tb]
section
variable{X:Cx}{x:TB}{σ:St}{H:Hp}{s:kt}{E:mC}
theorem Inv.wish(I:Inv X x σ H s)(E:mC):Inv (X.wish E) x σ H s:=#[I.ok.wish E,I.os,I.bare,I.base,I.loc,I.cell,I.free,I.freeC,I.pin,I.hok,I.len]
theorem Inv.unwish(I:Inv (X.wish E) x σ H s):Inv X x σ H s:=#[I.ok.unwish,I.os,I.bare,I.base,I.loc,I.cell,I.free,I.freeC,I.pin,I.hok,I.len]
theorem SP.unwish{D:Ends}{f:Flow}{s':kt}(h:SP (X.wish E) x D f s'):SP X x D f s':=by
 cases f with|next=>let#[y,z,I,q]:=h;exact#[y,z,I.unwish,q]|brk=>let#[y,z,I,q]:=h;exact#[y,z,I.unwish,q]|cont=>let#[y,z,I,q]:=h;exact#[y,z,I.unwish,q]|ret u=>let#[v,y,z,I,r,q]:=h;exact#[v,y,z,I.unwish,r,q]
theorem nY.nox{st:List gl}{t:TS}(h:nY X.nox st t):nY X st t:=λx s σ H D I y =>
 qw (h x s σ H D (I.wish _) y) (λ_ _ q=>q.unwish) λ_ _ z=>Qd z
end
section
variable{X:Cx}{st:gl}{y:List gl}{t u:TS}{e:Expr}{te:TE}{pos:Pos}
def uq:TS:=λD h H=>D.nx h H
def bw(t u:TS):TS:=λD h H=>t { D with nx:=u D } h H
theorem Uc:nY X [] uq:=λ_ _ x H _ I h=>QAE #[x,H,I,h]
theorem z7(b:PS X st t)(a:nY X y u):nY X (st::y) (bw t u):=by
 intro x s w H D I h;refine QCO (GB (b x s w H { D with nx:=u D } I h) λf k q=>?_);cases f with|next=>let#[z,i,g,q]:=q;exact a x k z i D g q|ret v=>exact q|brk=>exact q|cont=>exact q
theorem RY(w:PS X st t):nY X [st] t:=by
 intro x s z H D I h;refine QCO (GB (w x s z H D I h) λf k q=>?_);cases f with|next=>exact QAE q|ret v=>exact q|brk=>exact q|cont=>exact q
theorem Inv.quiet{h:TB}{σ:St}{H:Hp}{s:kt}(I:Inv X h σ H s):interactive X.env=false:=by simp[interactive,I.ok.kind]
def bq(te:TE):TS:=λD h H=>te h H λ_ x=>D.nx h x
theorem TY(b:PE X e te)(a:lb e kv pos.line X.env=tv false:=by rfl):PS X (.Expr e pos) (bq te):=by intro z s w H D I h;exact wpAny_Expr_any (GB (b z s w H _ I h) λv i #[x,g,f,j,k]=>#[w,g,f,k]) I.quiet a
def cw(te:TE):TS:=λD h H=>te h H D.rt
theorem v7(b:PE X e te):PS X (.Return (jr e) pos) (cw te):=by intro z s w H D I h;exact wpAny_Return_some (GB (b z s w H _ I h) λv i #[x,g,f,k,a]=>#[x,w,g,f,k,a])
noncomputable def mw(c:TT)(t u:TS):TS:=λD h H=>c h H λb x=>if b=kf then t D h x else u D h x
theorem Nq{c:Expr}{a b:List gl}{tc:TT}(hc:PT X c tc)(g:nY X a t)(hb:nY X b u):PS X (.If c a b pos) (mw tc t u):=by
 intro x s z H D I h;refine wpAny_If (GB (hc x s z H _ I h) λd v #[f,k,w]=>?_);cases d with|true=>exact g x v z f D k w|false=>exact hb x v z f D k w
end
noncomputable abbrev TG:=V->St->Hp->(St->Hp->Prop)->Prop
noncomputable abbrev Yy:=LV->St->Hp->(St->Hp->Prop)->Prop
def PG(X:Cx)(h:Expr)(t:TG):Prop :=
 ∀(x:TB) (s:kt) (z:St) (H:Hp) (v:V) (u:kb) (Q:St->Hp->Prop),Inv X x z H s->JA v u->t v z H Q ->
  ku (k0 X.prog X.w) X.A (ef h X.env u) (λ_ a=>∃y k,Inv X x y k a/\Q y k) X.xe s
def Kz(X:Cx)(ts:List Expr)(t:Yy):Prop :=
 ∀(h:TB) (s:kt) (y:St) (H:Hp) (z:LV) (u:LW) (Q:St->Hp->Prop),Inv X h y H s->oA z u->t z y H Q ->
  ku (k0 X.prog X.w) X.A (P0 ((hQ ts X.env).map (·.2)) u) (λ_ k=>∃x v,Inv X h x v k/\Q x v) X.xe s
noncomputable abbrev uo:=V->V->V->Hp->(Hp->Prop)->Prop
def Hf(X:Cx)(t:uo):Prop :=
 ∀(h:TB) (s:kt) (x:St) (H:Hp) (o i v:V) (y z u:kb) (Q:Hp->Prop),Inv X h x H s->JA o y->JA i z->JA v u->t o i v H Q ->
  ku (k0 X.prog X.w) X.A (setItem y z u) (λ_ a=>∃k,Inv X h x k a/\Q k) X.xe s
section
variable{X:Cx}{pos:Pos}
section
variable{i:Nat}{x:Str}{e:Expr}{te:TE}
def VZ(i:Nat):TG:=λv h H Q=>Q (h.set i (jr v)) H
theorem IY(a:X.N.Nodup)(w:X.N[i]?=jr x)(z:Io X.env.scope x)(k:X.fn x=kf∨X.env.scope.names.lookup x=jr .local):PG X (.Name x pos) (VZ i):=by intro y s f H v u Q I r h;exact QB1 (bT I a w z r (λg b=>#[_,H,b,h]) k)
noncomputable def Lx(K:QA)(n:Nat)(t:Yy):TG:=λv y H Q=>∃a h,v=.ref a/\ED K H a h/\h.9=n/\t h y H Q
theorem Tj{es:List Expr}{k:Nat}{t:Yy}{n:Nat}(hc:X.calm=kf)(h:Kz X es t)
  (Y:(hQ es X.env).9=n:=by rfl) (w:(hQ es X.env).findIdx? (·.1)=none:=by rfl):PG X (.Tuple es k pos) (Lx X.K n t):=by
 intro y s f H v u Q I r z;let#[a,j,W,q,hl,z]:=z;subst W;cases r;let#[l,g,p,B]:=I.tuple q;refine assign_Tuple_tuple (I.ok.hd hc) p (by simp[Y,<- hl,g.9]) w λZ m=>?_;have A:Inv X y f H { s with heap:=Z }:=I.kept (t':=s.toks) λb o e=>m b o (Qm (QY e)) e;exact h y _ f H j _ Q A (by simpa using g) z
noncomputable def Mx(y z:TE)(t:uo):TG:=λv h H Q=>y h H λo k=>z h k λi w=>t o i v w λu=>Q h u
theorem Aj{o i:Expr}{b f:TE}{t:uo}(Z:PE X o b)(W:PE X i f)(Y:Hf X t)
  (K:∀v,ef (.Subscript o i pos) X.env v=(do
   let w <- Rt [v] (g7 o X.env)
   let k <- Rt [v,w] (g7 i X.env)
   standAt pos
   Rt [v,w,k] (setItem w k v)
   release [v,w,k] []):=by intro _;rfl):PG X (.Subscript o i pos) (Mx b f t):=by
 intro z s a H v u Q I r h;rw[K];refine QF (qm (GB (Z z s a H _ I h) λw j #[x,G,C,m,q]=>?_));refine QF (qm (GB (W z j a G _ C q) λk g #[y,F,B,l,p]=>?_));refine QF (QBr (QF (qm (GB (Y z g a F x y v w k u _ B m l r p) λ_ J #[E,A,n]=>?_))));exact wpAny_release #[a,E,A,n]
def mj(te:TE)(g:TG):TS:=λD h H=>te h H λx y=>g x h y D.nx
theorem Nj{z:Expr}{g:TG}(l:PE X e te)(j:PG X z g)(f:swapsWithSole [z] e pos.line X.env=tv false:=by rfl)(b:swappedStores [z] e X.env=tv none:=by rfl)
  (m:(hQ [z] X.env).map (·.2)=[ef z X.env]:=by rfl):PS X (.Assign [z] e pos) (mj te g):=by
 intro y s u H D I h;refine wpAny_Assign_stores (GB (l y s u H _ I h) λv w #[x,o,n,k,a]=>?_) f b;rw[m];exact GB (j y w u o x v _ n k a) λ_ p q=>q
theorem Hj{pos':Pos}(l:X.N.Nodup)(f:X.N[i]?=jr x)(a:Io X.env.scope x)(j:PE X e te)(b:lb e (jr (.Name x pos')) pos.line X.env=tv false:=by rfl)(g:X.fn x=kf∨X.env.scope.names.lookup x=jr .local) :
  PS X (.Assign [.Name x pos'] e pos) (mj te (VZ i)):=by
 intro z s u H D I h;refine wpAny_Assign_Name (GB (j z s u H _ I h) λv q #[y,o,n,w,k]=>?_) b;exact bT n l f a w (λp m=>#[_,o,m,k]) g
end
end
section
variable{X:Cx}{pos:Pos}
def T5(c:TT)(tb:TS):TS:=λD h H=>∃W:Nat->St->Hp->Prop,(∃m,W m h H)/\∀m h H,W m h H ->
 c h H λb z=>if b=kf then ∃N:St->Hp->Prop,(∀x u,N x u->∃y,y < m/\W y x u)/\tb { D with nx:=N,ct:=N,bk:=D.nx } h z else D.nx h z
theorem k7{c:Expr}{body:List gl}{tc:TT}{tb:TS}(p:p7 (k0 X.prog X.w) X.A X.env X.xe)(hc:PT X c tc)(hb:nY X body tb):PS X (.While c body [] pos) (T5 tc tb):=by
 intro y s B H D I h;let#[W,#[L,E],k]:=h;refine wpAny_While (codeAny_whileLoop (λn J=>∃u K,Inv X y u K J/\W n u K) ?_ L #[B,H,I,E]);rintro n G ⟨z,Z,M,C⟩;refine wX p (GB (hc y G z Z _ M (k n z Z C)) λb F #[Y,r,g]=>?_);cases b with
 |true =>
  let#[N,q,g]:=g;rw[a9 rfl];refine wX p (GB (hb y F z Y _ r g) λf O e=>?_);cases f with|next=>let#[x,a,o,j]:=e;let#[l,m,i]:=q x a j;exact#[l,m,x,a,o,i]|cont=>let#[x,a,o,j]:=e;let#[l,m,i]:=q x a j;exact#[l,m,x,a,o,i]|brk=>exact e|ret v=>exact e
 |false=>rw[a8 QG];exact QAE #[z,Y,r,g]
end
section
variable{s:kt}{y:Expr}{P:k5}{w:xb}{K:QA}
structure It where
 go:Nat->Hp->Prop
 yld:Nat->Hp->V->Hp->Prop
 stop:Nat->Hp->Prop
def NJ(X:Cx)(h:TB)(H:Hp)(b:ko):Prop :=
 H b=kv/\b≠X.env.locals/\b∉X.fs/\(b∈X.ex∨X.s₀.1.1.size<=b)/\(∀x c,X.env.cells.lookup x=jr c->c≠b)/\∀p∈X.pn++h,p.1≠b
theorem Inv.fpOk{X:Cx}{h:TB}{σ:St}{H u:Hp}{b:ko}(I:Inv X h σ H s)(hb:s.1.1.size<=b)(a:u b=kv):NJ X h u b:=by refine#[a,wv (Qp I.lt hb),I.nofs hb,.inr (QV I.sz hb),λx c e z=>?_,λp k z=>?_];let#[v,q]:=I.cell x c e;exact im (Qp q.lt (by rw[z];exact hb)) (qS _);exact im (Qp (QY (I.pin p k).1) (by rw[z];exact hb)) (qS _)
structure Turn0(P:k5)(w:xb)(K:QA)(y:Expr)(J:It)(fp:List ko)(it:ko)(tn:Nat->vu->Prop):Prop where
 mem:it∈fp
 obj:∀i h,tn i h->∀b∈fp,∃o,h.get? b=jr o/\∀v,o.data≠.cell v
 keep:∀i h h',tn i h->(∀b∈fp,∀o,h.get? b=jr o->h'.get? b=jr o)->tn i h'
 item:∀(X:Cx),X.prog=P->X.w=w->X.K=K->X.calm=kf->∀(i:Nat) (pins:TB) (s:kt) (σ:St) (H:Hp) (E:mC),Inv X pins σ H s->(∀b∈fp,NJ X pins H b)->tn i s.1->J.go i H ->
  ku (k0 P w) X.A (me (.ref it)) (λr s1=>∃u,r=jr u /\
   ku (k0 P w) X.A (dt y (.ref it) u) (λ_ s2=>∃x H',Inv X pins σ H' s2/\JA x u/\J.yld i H x H'/\tn (i+1) s2.1/\∀b∈fp,H' b=kv) E s1) E s
 done:∀(X:Cx),X.prog=P->X.w=w->X.K=K->X.calm=kf->∀(i:Nat) (pins:TB) (s:kt) (σ:St) (H:Hp) (E:mC),Inv X pins σ H s->(∀b∈fp,NJ X pins H b)->tn i s.1->J.stop i H ->
  ku (k0 P w) X.A (me (.ref it)) (λr s1=>r=kv/\Inv X pins σ H s1) E s
structure Turn(P:k5)(w:xb)(K:QA)(y:Expr)(J:It)(fp:List ko)(it:ko)(tn:Nat->vu->Prop):Prop extends Turn0 P w K y J fp it tn where
 self:∀(A:x2) (i:Nat) (s:kt) (Q:mC) (E:mC),tn i s.1->Q (.ref it) s->ku (k0 P w) A (la (.ref it)) Q E s
noncomputable abbrev TI:=St->Hp->(It->Hp->Prop)->Prop
def Uy(X:Cx)(h:TB)(σ:St)(y:Expr)(R:It->Hp->Prop)(x:kb)(u:kt):Prop :=
 ∃(it:ko) (v:List ko) (tn:Nat->vu->Prop) (J:It) (z:Hp),x=.ref it/\Inv X h σ z u/\Turn X.prog X.w X.K y J v it tn/\tn 0 u.1/\(∀b∈v,NJ X h z b)/\R J z
def PI(X:Cx)(y x:Expr)(u:TI):Prop :=
 ∀(h:TB) (s:kt) (z:St) (H:Hp) (R:It->Hp->Prop),Inv X h z H s->u z H R ->
  ku (k0 X.prog X.w) X.A (g7 x X.env) (λv k=>ku (k0 X.prog X.w) X.A (la v) (Uy X h z y R) X.xe k) X.xe s
def Xy(X:Cx)(h:TB)(σ:St)(y:Expr)(R:It->Hp->Prop)(x:kb)(u:kt):Prop :=
 ∃(it:ko) (v:List ko) (tn:Nat->vu->Prop) (J:It) (z:Hp),x=.ref it/\Inv X h σ z u/\Turn0 X.prog X.w X.K y J v it tn/\tn 0 u.1/\(∀b∈v,NJ X h z b)/\R J z
def Cv(X:Cx)(y x:Expr)(u:TI):Prop :=
 ∀(h:TB) (s:kt) (z:St) (H:Hp) (R:It->Hp->Prop),Inv X h z H s->u z H R ->
  ku (k0 X.prog X.w) X.A (g7 x X.env) (λv k=>ku (k0 X.prog X.w) X.A (la v) (Xy X h z y R) X.xe k) X.xe s
theorem PI.to0{X:Cx}{z:Expr}{k:TI}(h:PI X y z k):Cv X y z k:=λu s a H R I q =>
 qw (h u s a H R I q) (λv m f=>qw f (λb l #[it,g,tn,J,j,e,i,T,r]=>#[it,g,tn,J,j,e,i,T.toTurn0,r]) λ_ _ x=>x) λ_ _ x=>x
theorem go_of{M:Model}{A:x2}{E:mC}{it:ko}{u:kb}{o:Obj}{n:String}{vs:Array kb}{Q:Unit->kt->Prop}(z:s.1.get? it=jr o)(hc:o.cls=.type n)(k:o.data=.fields vs)
    (v:["enumerate","zip","dict_itemiterator","dict_reverseitemiterator","odict_iterator","itertools.zip_longest","itertools.pairwise"].contains n=kd) (x:Q Unit.unit s):ku M A (dt y (.ref it) u) Q E s:=by
  unfold dt;cases y<;>first
    |exact QL x
    | (cases u<;>first
        |exact QL x
        | (refine QF (wpAny_load z ?_)
           rw[hc,k];show ku M A (if(["enumerate","zip","dict_itemiterator","dict_reverseitemiterator","odict_iterator","itertools.zip_longest","itertools.pairwise"].contains n&&vs[0]?==jr (h7 _))=kf then _ else _) Q E s;rw[a8 (by intro h;rw[v,QAX]at h;cases h)];exact QL x))
noncomputable def jAB(K:QA)(a:ko):It :=
 #[λi H=>∃h x,nC K H a h/\h[i]?=jr x,λi H x z=>z=H/\∀h,nC K H a h->h[i]?=jr x,λi H=>∃h,nC K H a h/\h.9<=i]
noncomputable def Iz(K:QA)(a:ko):It :=
 #[λi H=>∃h x,ED K H a h/\h[i]?=jr x,λi H x z=>z=H/\∀h,ED K H a h->h[i]?=jr x,λi H=>∃h,ED K H a h/\h.9<=i]
noncomputable def Ly(h:Int)(n:Nat):It:=#[λi _=>i<n,λi H x z=>z=H/\x=.int (h+i),λi _=>n<=i]
theorem C0(a it:ko):Turn P w K y (jAB K a) [it] it (λi h=>h.IsListIter it a i) where
 mem:=by simp
 obj:=λi h st b hb=>by
  have e:b=it:=by simpa using hb
  subst e;let#[o,e,c,d]:=st;exact#[o,e,λv z=>by rw[d]at z;cases z]
 keep:=λi h m st k=>st.at λo e=>k it (by simp) o e
 item:=by intro X W Y A hc i f s L H E I l st Z;subst W Y A;let#[M,x,j,r]:=Z;let#[q,n,p,Q]:=I.list j;let#[u,S,O]:=n.get r;let#[J,G,f2,F,C,B]:=l it (by simp);refine wpAny_pyNext_list_item st p.isList (x:=u) (by simpa using S) λm g N=>?_;have I1:Inv X f L H { s with heap:=m }:=I.turned (t':=s.toks) (λb o hb e=>(N.2 b hb).trans e) J G F C B;let#[o,e,c,d]:=id g;exact#[u,rfl,go_of (s:={ s with heap:=m }) e c d (by decide) #[x,H,I1,O,#[rfl,λys R=>by rw[I.list_inj R j];exact r],g,λb hb=>(l b hb).1]]
 done:=by intro X W Y A hc i f s L H E I l st Z;subst W Y A;let#[M,j,r]:=Z;let#[q,n,p,Q]:=I.list j;let#[J,G,f2,F,C,B]:=l it (by simp);have hl:=n.9;exact wpAny_pyNext_list_end (I.ok.hd hc) st p.isList (by simp;omega) λm eb=>#[rfl,I.turned (t':=s.toks) (λb o hb e=>eb b o hb e) J G F C B]
 self:=λ_ _ _ _ _ st h=>wpAny_pyIter_listiter st h
theorem yW(a it:ko):Turn P w K y (Iz K a) [it] it (λi h=>h.IsTupleIter it a i) where
 mem:=by simp
 obj:=λi h st b hb=>by
  have e:b=it:=by simpa using hb
  subst e;let#[o,e,c,d]:=st;exact#[o,e,λv z=>by rw[d]at z;cases z]
 keep:=λi h n st k=>st.at λo e=>k it (by simp) o e
 item:=by intro X W Y A hc i f s L H E I m st Z;subst W Y A;let#[M,x,l,r]:=Z;let#[g,q,p,Q]:=I.tuple l;let#[u,S,O]:=q.get r;let#[J,G,f2,F,C,B]:=m it (by simp);refine wpAny_pyNext_tuple_item st (show s.1.IsTuple a g.toArray from p) (x:=u) (by simpa using S) λn j N=>?_;have I1:Inv X f L H { s with heap:=n }:=I.turned (t':=s.toks) (λb o hb e=>(N.2 b hb).trans e) J G F C B;let#[o,e,c,d]:=id j;exact#[u,rfl,go_of (s:={ s with heap:=n }) e c d (by decide) #[x,H,I1,O,#[rfl,λys R=>by rw[I.tuple_inj R l];exact r],j,λb hb=>(m b hb).1]]
 done:=by intro X W Y A hc i f s L H E I m st Z;subst W Y A;let#[M,l,r]:=Z;let#[g,q,p,Q]:=I.tuple l;let#[J,G,f2,F,C,B]:=m it (by simp);have hl:=q.9;exact wpAny_pyNext_tuple_end (I.ok.hd hc) st (show s.1.IsTuple a g.toArray from p) (by simp;omega) λn eb=>#[rfl,I.turned (t':=s.toks) (λb o hb e=>eb b o hb e) J G F C B]
 self:=λ_ _ _ _ _ st h=>wpAny_pyIter_tupleiter st h
theorem zW(it:ko)(a:Int)(n:Nat):Turn P w K y (Ly a n) [it] it (λi h=>IsRangeIter h it (a+(i:Nat) * 1) ((n:Int) - (i:Nat)) 1) where
 mem:=by simp
 obj:=λi h st b hb=>by
  have e:b=it:=by simpa using hb
  subst e;exact#[_,st,λv z=>by have F:Data.fields _=Data.cell v:=z;cases F]
 keep:=λi h g st k=>k it (by simp) _ st
 item:=by intro X m j p hc i x s B H E I f st l;subst m j p;let#[A,Z,J,Y,r,q]:=f it (by simp);have W:=Walks.range (prog:=X.prog) (w:=X.w) (I.ok.hd hc) it a 1 n;refine W.item i s _ _ l st λv g C hv u G=>?_;let#[t,rfl]:=hv;have M:Inv X x B H { s with heap:=g,toks:=C }:=I.turned (λb o hb e=>G b o (by simpa using hb) e) A Z Y r q;refine#[_,rfl,go_of (s:={ s with heap:=g,toks:=C }) (n:="range_iterator") u rfl rfl (by decide) #[.int (a+i),H,M,#[t,?_],#[rfl,rfl],u,λb hb=>(f b hb).1]];rw[Int.mul_one]
 done:=by intro X m j p hc i x s B H E I f st l;subst m j p;let#[A,Z,J,Y,r,q]:=f it (by simp);exact wpAny_pyNext_range_end (I.ok.hd hc) st (by have:n<=i:=l;omega) λg L=>#[rfl,I.turned (t':=s.toks) (λb o hb e=>L b o hb e) A Z Y r q]
 self:=λ_ _ _ _ _ st h=>wpAny_pyIter_rangeiter st h
end
section
variable{X:Cx}{a:Expr}
section
variable{y:TB}{σ:St}{H:Hp}{s:kt}{k:List ko}{h:vu}
theorem R6{R:It->Hp->Prop}{E:mC}{x z:Int}{t u v:Tok}{f:Nat}(I:Inv X y σ H s)(m:-(2 ^ 62)<=x)(l:x<2 ^ 62)(j:-(2 ^ 62)<=z)(i:z<2 ^ 62)
  (q:R (Ly x (z - x).toNat) H):ku (k0 X.prog X.w) X.A (la (.ref s.1.1.size)) (Uy X y σ a R) E { s with heap:=s.1.push { cls:=.type "range",data:=.fields (qG [.int x t,.int z u,.int 1 v]) },toks:=f }:=by
 refine wpAny_pyIter_range (IsRange.new ..) (small_one m l j i) ?_;have g:Inv X y σ H { s with heap:=s.1.push { cls:=.type "range",data:=.fields (qG [.int x t,.int z u,.int 1 v]) },toks:=f }:=I.kept λb o e=>QH _ e;refine#[(s.1.push { cls:=.type "range",data:=.fields (qG [.int x t,.int z u,.int 1 v]) }).1.size,[(s.1.push { cls:=.type "range",data:=.fields (qG [.int x t,.int z u,.int 1 v]) }).1.size],_,_,H,rfl,
  g.kept (t':=f) λb o e=>QH _ e,zW _ x (z - x).toNat,?_,λb hb=>?_,q]
 have p:x+((0:Nat):Int) * 1=x:=by simp
 have n:(((z - x).toNat:Nat):Int) - ((0:Nat):Int)=WW x z 1:=by rw[pd];split<;>omega
 show IsRangeIter _ _ (x+((0:Nat):Int) * 1) ((((z - x).toNat:Nat):Int) - ((0:Nat):Int)) 1;rw[p,n];exact QS _ rfl;have e:b=(s.1.push { cls:=.type "range",data:=.fields (qG [.int x t,.int z u,.int 1 v]) }).1.size:=by simpa using hb
 subst e;exact g.fpOk (QT _) (g.hok.fresh (QT _))
def sw(b:TI)(g:TG)(tb:TS):TS:=λD σ H=>b σ H λJ f=>∃W:Nat->Nat->St->Hp->Prop,(∃m,W 0 m σ f)/\∀i m σ H,W i m σ H ->
 (J.stop i H/\D.nx σ H)∨(J.go i H/\∃N:St->Hp->Prop,(∀z u,N z u->∃w,w < m/\W (i+1) w z u)/\∀x u,J.yld i H x u->g x σ u λv e=>tb { D with nx:=N,ct:=N,bk:=D.nx } v e)
noncomputable def xN(k:List ko)(h:vu):TB:=k.filterMap λb=>(h.get? b).map λo=>(b,o)
theorem yF{b:ko}{o:Obj}(hb:b∈k)(e:h.get? b=jr o):(b,o)∈xN k h:=QBs.mpr #[b,hb,by rw[e];rfl]
theorem y2{p:ko×Obj}(x:p∈xN k h):p.1∈k/\h.get? p.1=jr p.2:=by
 let#[b,hb,e]:=QBs.mp x;cases q:h.get? b with|none=>rw[q]at e;cases e|some o=>rw[q]at e;have z:(b,o)=p:=Ql e;subst z;exact#[hb,q]
theorem Inv.pinned(I:Inv X y σ H s)(f:∀b∈k,NJ X y H b)(w:∀b∈k,∃o,s.1.get? b=jr o/\∀v,o.data≠.cell v):Inv X (y++xN k s.1) σ H s :=
 I.pins_of λp u=>(Qg.mp u).elim (λz=>I.pin p (QU _ z)) λz=>by let#[hb,e]:=y2 z;let#[j,i,g,_]:=f p.1 hb;let#[o,x,d]:=w p.1 hb;rw[e]at x;cases x;exact#[e,j,i,g,d]
theorem Inv.unpinned{x:TB}(I:Inv X (y++x) σ H s):Inv X y σ H s:=I.pins_of λp z=>I.pin p (QU _ (Qn _ z))
theorem Lj{q:Expr}{body:List gl}{wi:TI}{g:TG}{tb:TS}{pos:Pos}(O:p7 (k0 X.prog X.w) X.A X.env X.xe)(hc:X.calm=kf)(hi:Cv X a q wi)(hg:PG X a g)(hb:nY X body tb)
  (hs:∀x,hE q X.env x=tv x:=by intro _;rfl):PS X (.For a q body [] pos) (sw wi g tb):=by
 intro y s σ H D I h;refine wpAny_For (GB (hi y s σ H _ I h) λv s1 h1=>GB h1 λitv s2 h2=>?_) hs;let#[it,k,tn,J,H2,e,I2,T,S,f2,W,#[m0,w0],F]:=h2;subst e;have p:∀{B:Hp},(∀b∈k,B b=kv)->∀b∈k,NJ X y B b:=λhn b hb=>#[hn b hb,(f2 b hb).2]
 refine codeAny_forLoop_any (λn s'=>∃i l B,Inv X y l B s'/\tn i s'.1/\(∀b∈k,B b=kv)/\W i n l B) ?_ m0 #[0,σ,H2,I2,S,λb hb=>(f2 b hb).1,w0];rintro n s3 ⟨i,j,Q,I3,L,P,w3⟩;rcases F i n j Q w3 with⟨G,qn⟩| ⟨go,N,hN,step⟩
 refine wX O (GB (T.done X rfl rfl rfl hc i y s3 j Q X.xe I3 (p P) L G) λr s4 #[hr,I4]=>?_);subst hr;exact QAE #[j,Q,I4,qn];refine wX O (GB (T.item X rfl rfl rfl hc i y s3 j Q X.xe I3 (p P) L go) λr s4 #[u,hr,h4]=>?_);subst hr;refine wX O (GB h4 λ_ s5 #[x,H5,I5,r5,y5,E,fr5]=>?_);have I5':=I5.pinned (p fr5) (T.obj _ _ E);refine wX O (GB (hg _ s5 j H5 x u _ I5' r5 (step x H5 y5)) λ_ s6 #[R,H6,I6,q6]=>?_);refine wX O (GB (hb _ s6 R H6 _ I6 q6) λf s7 C=>?_);have Y:∀{z:St}{K:Hp},Inv X (y++xN k s5.1) z K s7->N z K->∃m,m<n/\∃i l B,Inv X y l B s7/\tn i s7.1/\(∀b∈k,B b=kv)/\W i m l B:=λ{z K} Z M=>by let#[m',hm,w7]:=hN z K M;refine#[m',hm,i+1,z,K,Z.unpinned,T.keep _ _ _ E λb hb o e=>(Z.pin (b,o) (QU _ (QU _ (yF hb e)))).1,λb hb=>?_,w7];let#[o,e,d]:=T.obj _ _ E b hb;exact(Z.pin (b,o) (QU _ (QU _ (yF hb e)))).2.1
 cases f with|next=>let#[z,K,Z,M]:=C;exact Y Z M|cont=>let#[z,K,Z,M]:=C;exact Y Z M|brk=>let#[z,K,Z,C]:=C;exact#[z,K,Z.unpinned,C]|ret v=>let#[x7,z,K,Z,r7,C]:=C;exact#[x7,z,K,Z.unpinned,r7,C]
end
end
noncomputable abbrev R2:=V->V->Hp->VK->Prop
def ME(X:Cx)(f:kb->kb->Sem kb)(r:R2):Prop :=
 ∀(h:TB) (s:kt) (z:St) (H:Hp) (x y:V) (v u:kb) (Q:VK),Inv X h z H s->JA x v->JA y u->r x y H Q ->
  ku (k0 X.prog X.w) X.A (f v u) (EP X h z Q) X.xe s
def iy(X:Cx)(f:kb->Sem kb)(r:V->Hp->VK->Prop):Prop :=
 ∀(h:TB) (s:kt) (y:St) (H:Hp) (x:V) (v:kb) (Q:VK),Inv X h y H s->JA x v->r x H Q ->
  ku (k0 X.prog X.w) X.A (f v) (EP X h y Q) X.xe s
def FC(X:Cx)(f:kb)(r:LV->Hp->VK->Prop):Prop :=
 ∀(h:TB) (s:kt) (x:St) (H:Hp) (y:LV) (z:LW) (Q:VK),Inv X h x H s->oA y z->r y H Q ->
  ku (k0 X.prog X.w) X.A (Er f z) (EP X h x Q) X.xe s
def Jy(X:Cx)(r:V->Hp->(Bool->Hp->Prop)->Prop):Prop :=
 ∀(h:TB) (s:kt) (y:St) (H:Hp) (x:V) (v:kb) (Q:Bool->Hp->Prop),Inv X h y H s->JA x v->r x H Q ->
  ku (k0 X.prog X.w) X.A (truthy v) (TP X h y Q) X.xe s
noncomputable def vq(r:R2)(ta tb:TE):TE:=λh H Q=>ta h H λx u=>tb h u λy z=>r x y z Q
noncomputable def jAQ(r:V->Hp->VK->Prop)(ta:TE):TE:=λh H Q=>ta h H λx y=>r x y Q
noncomputable def rI(C:Int->Int->Prop)(g:Int->Int->V):R2:=λx y H Q=>∃i j,x=.int i/\y=.int j/\C i j/\Q (g i j) H
noncomputable def Jc(g:Int->Int->V):R2:=λx y H Q=>∃i j,x=.int i/\y=.int j/\Q (g i j) H
def rU(g:Int->V):V->Hp->VK->Prop:=λx H Q=>∃i,x=.int i/\Q (g i) H
section
variable{X:Cx}{a b c:Expr}{ta z tc:TE}{pos:Pos}
section
variable{f:kb->kb->Sem kb}{g:Int->Int->Int}
theorem binT(Z:PE X a ta)(hb:PE X b z){k:TB}{s:kt}{σ:St}{H:Hp}{R:V->V->Hp->Prop}(I:Inv X k σ H s)
  (h:ta σ H λx m=>z σ m λy e=>R x y e) {Q:mC}
  (Y:∀v u l x y e,Inv X k σ e l->JA x v->JA y u->R x y e->ku (k0 X.prog X.w) X.A (f v u) Q X.xe l) :
  ku (k0 X.prog X.w) X.A (g7 a X.env) (λv j=>ku (k0 X.prog X.w) X.A (g7 b X.env) (λu i=>ku (k0 X.prog X.w) X.A (f v u) Q X.xe i) X.xe j) X.xe s:=by
 refine GB (Z k s σ H _ I h) λv n #[x,m,K,p,r]=>?_;refine GB (hb k n σ m _ K r) λu l #[y,e,W,o,q]=>?_;exact Y v u l x y e W p o q
theorem Pq{k:hZ}{r:R2}(m:ME X (fy k) r)(n:PE X a ta)(hb:PE X b z):PE X (.BinOp a k b pos) (vq r ta z):=by intro w s e H Q I h;exact wpAny_BinOp (binT n hb I h λv u i x y p o l j q=>m w i e p x y v u Q o l j q)
theorem Oq{w:rk}{r:V->Hp->VK->Prop}(j:iy X (unaryOp w) r)(l:PE X a ta):PE X (.UnaryOp w a pos) (jAQ r ta):=by intro y s u H Q I h;exact UnaryOp_ (GB (l y s u H _ I h) λv k #[x,n,m,e,i]=>j y k u n x v Q m e i)
theorem jAZ{C:Int->Int->Prop}
  (k:∀(i j:Int) (t u:Tok) (s:kt) (Q:mC) (E:mC),C i j->Q (.int (g i j) s.toks) { s with toks:=s.toks+1 }->ku (k0 X.prog X.w) X.A (f (.int i t) (.int j u)) Q E s) :
  ME X f (rI C λi j=>.int (g i j)):=by
 intro e s o H x y v u Q I n m h;let#[i,j,rfl,rfl,hc,q]:=h;let#[t,rfl]:=n;let#[l,rfl]:=m;exact k i j t l s _ _ hc #[.int (g i j),H,I.tok _,#[_,rfl],q]
theorem kr
  (k:∀(i j:Int) (t u:Tok) (s:kt) (Q:mC) (E:mC),Q (.int (g i j) s.toks) { s with toks:=s.toks+1 }->ku (k0 X.prog X.w) X.A (f (.int i t) (.int j u)) Q E s) :
  ME X f (Jc λi j=>.int (g i j)):=by
 intro e s o H x y v u Q I n m h;let#[i,j,rfl,rfl,q]:=h;let#[t,rfl]:=n;let#[l,rfl]:=m;exact k i j t l s _ _ #[.int (g i j),H,I.tok _,#[_,rfl],q]
theorem vd{g:Int->Int->Bool}
  (k:∀(i j:Int) (t u:Tok) (s:kt) (Q:mC) (E:mC),Q (.bool (g i j)) s->ku (k0 X.prog X.w) X.A (f (.int i t) (.int j u)) Q E s) :
  ME X f (Jc λi j=>.bl (g i j)):=by
 intro e s o H x y v u Q I n m h;let#[i,j,rfl,rfl,q]:=h;let#[t,rfl]:=n;let#[l,rfl]:=m;exact k i j t l s _ _ #[.bl (g i j),H,I,rfl,q]
def BS(i j:Int):Prop:=(-(2 ^ 64)<i/\i<2 ^ 64)∨(-(2 ^ 64)<j/\j<2 ^ 64)
theorem BS.ok{i j:Int}(h:BS i j):l0 i j:=by
 rcases h with⟨y,x⟩| ⟨y,x⟩
 exact .of_left (pc y x);exact .of_right (pc y x)
theorem op_add:ME X (fy .Add) (Jc λi j=>.int (i+j)):=kr λ_ _ _ _ _ _ _ q=>add_int q
theorem op_sub:ME X (fy .Sub) (Jc λi j=>.int (i - j)):=kr λ_ _ _ _ _ _ _ q=>sub_int q
theorem op_mod:ME X (fy .Mod) (rI (λ_ j=>0<j) λi j=>.int (i % j)):=jAZ λi j _ _ _ _ _ hc q=>by have h:(0:Int)<j:=hc;exact mod_int' () (by rw[Int.fmod_eq_emod_of_nonneg i ()];exact q)
theorem jAP{f:kb->Sem kb}{g:Int->Int}
  (y:∀(i:Int) (t:Tok) (s:kt) (Q:mC) (E:mC),Q (.int (g i) s.toks) { s with toks:=s.toks+1 }->ku (k0 X.prog X.w) X.A (f (.int i t)) Q E s) :
  iy X f (rU λi=>.int (g i)):=by
 intro u s e H x v Q I k h;let#[i,rfl,q]:=h;let#[t,rfl]:=k;exact y i t s _ _ #[.int (g i),H,I.tok _,#[_,rfl],q]
theorem cj:iy X (unaryOp .USub) (rU λi=>.int (-i)):=jAP λ_ _ _ _ _ q=>neg_int q
end
end
noncomputable def cc:V->V->Bool
 | .non,.non=>kf | .non,.int _=>kf | .int _,.non=>kf | .non,.bl _=>kf | .bl _,.non=>kf | .non,.str _=>kf | .str _,.non=>kf
 | .int _,.int _=>kf | .bl _,.bl _=>kf | .str _,.str _=>kf | .byt _,.byt _=>kf
 | .int _,.str _=>kf | .str _,.int _=>kf | .bl _,.str _=>kf | .str _,.bl _=>kf
 |_,_=>kd
def rEq:R2:=λx y H Q=>cc x y=kf/\Q (.bl (decide (x=y))) H
def jAX:R2:=λx y H Q=>cc x y=kf/\Q (.bl (!decide (x=y))) H
theorem NZ{i j:Int}:decide (V.int i=V.int j)=(i==j):=by rw[qA];simp
theorem P9{i j:Bool}:decide (V.bl i=V.bl j)=(i==j):=by rw[qA];simp
theorem MZ{i j:Str}:decide (V.str i=V.str j)=(i==j):=by rw[qA];simp
theorem OZ{i j:Array UInt8}:decide (V.byt i=V.byt j)=(i.toList==j.toList):=by rw[qA];cases i;cases j;simp
section
variable{X:Cx}{a b c:Expr}{ta g tc:TE}{pos:Pos}
section
variable{r:R2}{d:dy}{us:LW}
theorem aA{h:TB}{σ:St}{H:Hp}{s:kt}{Q:VK}{k x:Bool}(I:Inv X h σ H s)(q:Q (.bl k) H)(e:k=x):EP X h σ Q (.bool x) s:=by subst e;exact#[.bl k,H,I,rfl,q]
theorem op_eq:ME X (vx .Eq) rEq:=by
 intro f s l H x y v u Q I e z h;let#[k,q]:=h;cases x with
 |non =>
  cases e;cases y with|non=>cases z;exact PySem.EqNone.eq_none_none (aA I q (by simp))|bl j=>cases z;exact PySem.EqNone.eq_none_bool (aA I q (by simp))|int j=>let#[w,rfl]:=z;exact PySem.EqNone.eq_none_int (aA I q (by simp))|str j=>let#[w,rfl]:=z;exact PySem.EqNone.eq_none_str (aA I q (by simp))|_=>exact im (show kd=kf from k) QG
 |bl i =>
  cases e;cases y with|non=>cases z;exact PySem.EqNone.eq_bool_none (aA I q (by simp))|bl j=>cases z;exact eq_bool (aA I q P9)|str j=>let#[w,rfl]:=z;exact PySem.EqMixed.eq_bool_str (aA I q (by simp))|_=>exact im (show kd=kf from k) QG
 |int i =>
  let#[t,rfl]:=e;cases y with|non=>cases z;exact PySem.EqNone.eq_int_none (aA I q (by simp))|int j=>let#[w,rfl]:=z;exact eq_int (aA I q NZ)|str j=>let#[w,rfl]:=z;exact PySem.EqMixed.eq_int_str (aA I q (by simp))|_=>exact im (show kd=kf from k) QG
 |str i =>
  let#[t,rfl]:=e;cases y with|non=>cases z;exact PySem.EqNone.eq_str_none (aA I q (by simp))|bl j=>cases z;exact PySem.EqMixed.eq_str_bool (aA I q (by simp))|int j=>let#[w,rfl]:=z;exact PySem.EqMixed.eq_str_int (aA I q (by simp))|str j=>let#[w,rfl]:=z;exact eq_str (aA I q MZ)|_=>exact im (show kd=kf from k) QG
 |byt i =>
  let#[t,rfl]:=e;cases y with|byt j=>let#[w,rfl]:=z;exact PySem.W.eq_bytes (aA I q OZ)|_=>exact im (show kd=kf from k) QG
 |_=>cases y<;>exact im (show kd=kf from k) QG
theorem op_ne:ME X (vx .NotEq) jAX:=by
 intro f s l H x y v u Q I e z h;let#[k,q]:=h;cases x with
 |non =>
  cases e;cases y with|non=>cases z;exact PySem.EqNone.ne_none_none (aA I q (by simp))|bl j=>cases z;exact PySem.EqNone.ne_none_bool (aA I q (by simp))|int j=>let#[w,rfl]:=z;exact PySem.EqNone.ne_none_int (aA I q (by simp))|str j=>let#[w,rfl]:=z;exact PySem.EqNone.ne_none_str (aA I q (by simp))|_=>exact im (show kd=kf from k) QG
 |bl i =>
  cases e;cases y with|non=>cases z;exact PySem.EqNone.ne_bool_none (aA I q (by simp))|bl j=>cases z;exact ne_bool (aA I q (i3 not P9))|str j=>let#[w,rfl]:=z;exact PySem.EqMixed.ne_bool_str (aA I q (by simp))|_=>exact im (show kd=kf from k) QG
 |int i =>
  let#[t,rfl]:=e;cases y with|non=>cases z;exact PySem.EqNone.ne_int_none (aA I q (by simp))|int j=>let#[w,rfl]:=z;exact ne_int (aA I q (i3 not NZ))|str j=>let#[w,rfl]:=z;exact PySem.EqMixed.ne_int_str (aA I q (by simp))|_=>exact im (show kd=kf from k) QG
 |str i =>
  let#[t,rfl]:=e;cases y with|non=>cases z;exact PySem.EqNone.ne_str_none (aA I q (by simp))|bl j=>cases z;exact PySem.EqMixed.ne_str_bool (aA I q (by simp))|int j=>let#[w,rfl]:=z;exact PySem.EqMixed.ne_str_int (aA I q (by simp))|str j=>let#[w,rfl]:=z;exact ne_str (aA I q (i3 not MZ))|_=>exact im (show kd=kf from k) QG
 |byt i =>
  let#[t,rfl]:=e;cases y with|byt j=>let#[w,rfl]:=z;exact PySem.W.ne_bytes (aA I q (i3 not OZ))|_=>exact im (show kd=kf from k) QG
 |_=>cases y<;>exact im (show kd=kf from k) QG
theorem op_lt:ME X (vx .Lt) (Jc λi j=>.bl (decide (i<j))):=vd λ_ _ _ _ _ _ _ q=>lt_int q
theorem op_le:ME X (vx .LtE) (Jc λi j=>.bl (decide (i<=j))):=vd λ_ _ _ _ _ _ _ q=>le_int q
theorem op_gt:ME X (vx .Gt) (Jc λi j=>.bl (decide (j<i))):=vd λ_ _ _ _ _ _ _ q=>gt_int q
theorem op_ge:ME X (vx .GtE) (Jc λi j=>.bl (decide (j<=i))):=vd λ_ _ _ _ _ _ _ q=>ge_int q
theorem M1:ME X (vx .In) (λx y H Q=>∃i j,x=.str i/\y=.str j/\Q (.bl (!(qB j i 0 j.9 1).isEmpty)) H):=by intro z s e H x y v u Q I k w h;let#[i,j,rfl,rfl,q]:=h;let#[t,rfl]:=k;let#[f,rfl]:=w;exact in_str (aA I q rfl)
theorem Jk:ME X (vx .Is) (λx y H Q=>y=.non/\Q (.bl (decide (x=.non))) H):=by
 intro w s e H x y v u Q I z k h;let#[rfl,q]:=h;cases k;refine is_none_gen (aA I q ?_);cases x<;>first
  | (cases z;rfl)
  | (let#[t,rfl]:=z;rfl)
theorem yd:ME X (vx .IsNot) (λx y H Q=>y=.non/\Q (.bl (!decide (x=.non))) H):=by
 intro w s e H x y v u Q I z k h;let#[rfl,q]:=h;cases k;refine isnot_none_gen (aA I q ?_);cases x<;>first
  | (cases z;rfl)
  | (let#[t,rfl]:=z;rfl)
theorem kR:ME X (vx .NotIn) (λx y H Q=>∃i j,x=.str i/\y=.str j/\Q (.bl (!(!(qB j i 0 j.9 1).isEmpty))) H):=by intro z s e H x y v u Q I k w h;let#[i,j,rfl,rfl,q]:=h;let#[t,rfl]:=k;let#[f,rfl]:=w;exact notIn_str (aA I q rfl)
theorem ME.or{f:kb->kb->Sem kb}{i:R2}(h:ME X f r)(h':ME X f i):ME X f (λx y H Q=>r x y H Q∨i x y H Q):=by intro z s w H x y v u Q I e k q;rcases q with q|q;exact h z s w H x y v u Q I e k q;exact h' z s w H x y v u Q I e k q
theorem Tc(i:ME X (vx d) r)(l:PE X a ta)(hb:PE X b g)(j:lr d b=kd):PE X (.Compare a [d] [b] pos) (vq r ta g):=by intro z s w H Q I h;exact wpAny_Compare1 (binT l hb I h λv u k x y n m f e q=>i z k w n x y v u Q m f e q) j
def zq(t:TE):TT:=λh H Q=>t h H λx y=>∃k,x=.bl k/\Q k y
theorem Xc(Y:ME X (vx d) r)(W:PE X a ta)(hb:PE X b g)(Z:lr d b=kd):PT X (.Compare a [d] [b] pos) (zq (vq r ta g)):=by
 intro w s f H Q I h;refine wpAny_isTrue_Compare1 (GB (W w s f H _ I h) λv j #[x,F,B,n,q]=>GB (hb w j f F _ B q) λu i #[y,E,A,m,p] =>
  GB (Y w i f E x y v u _ A n m p) λc G #[z,C,K,l,k,e,o]=>?_) Z
 subst e;cases l;exact wW #[C,K,o]
def xo(K:QA)(x:V)(H:Hp)(k:Bool):Prop :=
 match x with
 | .non=>k=kd|.bl b=>k=b|.int i=>k=(i != 0)|.str y=>y.9<=kn/\k=((y.9:Int) != 0)|.byt y=>y.size<=kn/\k=((y.size:Int) != 0)|.ref p=>(∃h,nC K H p h/\k=!h.isEmpty)∨(∃h,ED K H p h/\k=!h.isEmpty)∨∃z,H p=jr (.dK z)/\k=!z.isEmpty|_=>False
theorem hX{h:Type}{kvs:List (h×V)}{vs:List (h×kb)}(r:KV kvs vs):(!vs.isEmpty)=!kvs.isEmpty:=by cases r<;>rfl
theorem UN{xs:LV}{its:LW}(r:oA xs its):(!its.toArray.isEmpty)=!xs.isEmpty:=by cases r<;>simp
theorem SH:(kn:Nat)<2 ^ 63:=by rw[Q6];decide
theorem S5:Jy X (λx H Q=>∃k,xo X.K x H k/\Q k H):=by
 intro A s F H x v Q I l h;let#[k,e,q]:=h;have hl:=SH;have G:kn=16777216:=Q6;cases x with
 |non=>cases l;have z:k=false:=e;subst z;exact truthy_none #[H,I,q]|bl b=>cases l;have z:k=b:=e;subst z;exact wW #[H,I,q]|int i=>let#[t,rfl]:=l;have z:k=(i != 0):=e;subst z;exact PySem.P.truthy_int #[H,I,q]|str y=>let#[t,rfl]:=l;obtain⟨C,z⟩:y.9<=kn/\k=((y.9:Int) != 0):=e;subst z;exact PySem.P.truthy_str () #[H,I.tok _,q]|byt y=>let#[t,rfl]:=l;obtain⟨C,z⟩:y.size<=kn/\k=((y.size:Int) != 0):=e;subst z;exact PySem.W.truthy_bytes () #[H,I.tok _,q]|ref p =>
  cases l;have z:(∃j,nC X.K H p j/\k=!j.isEmpty)∨(∃j,ED X.K H p j/\k=!j.isEmpty)∨∃u,H p=jr (.dK u)/\k=!u.isEmpty:=e;rcases z with⟨j,n,z⟩| ⟨j,n,z⟩| ⟨u,n,z⟩
  subst z;let#[Z,r,Y,B]:=I.list n;have f:=r.9;exact wpAny_truthy_list Y.isList (by simp only[QN];omega) #[H,I.tok _,by rw[UN r];exact q];subst z;let#[Z,r,Y,B]:=I.tuple n;have f:=r.9;exact truthy_tuple Y (by simp only[QN];omega) #[H,I.tok _,by rw[UN r];exact q];subst z;obtain⟨B,E,o,r,m⟩:u.9<=kn/\(p==zl)=kd/\∃o,KV u o/\s.1.DictOf (ND X.prog X.w) p o:=I.hok p _ n;have f:u.9=o.length:=qI r;exact wpAny_truthy_dict E m () #[H,I.tok _,by rw[hX r];exact q]
 |_=>exact(show False from e).elim
theorem KW:ME X (fy .Add) (λx y H Q=>∃i j,x=.str i/\y=.str j/\i.9+j.9<=kn/\Q (.str (i++j)) H):=by intro z s l H x y v u Q I e k h;let#[i,j,rfl,rfl,f,q]:=h;let#[t,rfl]:=e;let#[w,rfl]:=k;exact add_str (λw m=>#[.str (i++j),H,I.tok _,#[_,rfl],q]) f
theorem pI{x:V}(r:oA [x] us):∃u,us=[u]/\JA x u:=by
 cases r with|cons y h=>cases h;exact#[_,rfl,y]
theorem Tf{x y:V}(r:oA [x,y] us):∃u h,us=[u,h]/\JA x u/\JA y h:=by
 cases r with
 |cons k w =>
  cases w with|cons v z=>cases z;exact#[_,_,rfl,k,v]
theorem Y4(hc:X.calm=kf):FC X (.builtin "min") (λxs H Q=>∃i j,xs=[.int i,.int j]/\Q (.int (if j<i then j else i)) H):=by
 intro y s z H xs us Q I r h;let#[i,j,rfl,q]:=h;let#[u,v,rfl,#[t,rfl],#[e,rfl]]:=Tf r;refine min_two_ints (I.ok.hd hc) λf w k=>#[_,H,I.kept k,?_,q]
 by_cases x:j<i;rw[a9 x,a9 x];exact#[_,rfl];rw[a8 x,a8 x];exact#[_,rfl]
end
end
section
variable{k:Nat}{A:x2}
structure Room(k:Nat)(A:x2):Prop where
 hd:A.handled=kv
 dp:A.depth+3 * k+5<bb
 un:A.units+16 * k+200<gp
theorem Room.mono{j:Nat}(r:Room k A)(h:j<=k):Room j A:=#[r.hd,by have:=r.dp;omega,by have:=r.un;omega]
theorem Room.deeper(r:Room (k+1) A)(env:Env):Room k (A.deeper env) :=
 #[r.hd,by have:=r.dp;show A.depth+1+3 * k+5<_;omega,by have:=r.un;show A.units+3+16 * k+200<_;omega]
theorem Room.depth(r:Room k A):A.depth<recursionLimit:=by have:=r.dp;omega
def xq:TA:=λ_ H Q=>Q [] H
noncomputable def cq(ta:TE)(z:TA):TA:=λh H Q=>ta h H λx v=>z h v λy u=>Q (x::y) u
end
section
variable{X:Cx}{e:Expr}{es:List Expr}{te:TE}{t:TA}{pos:Pos}
theorem YW:PA X [] xq:=λ_ _ _ _ H Q I h=>WA #[[],H,I,.nil,h]
theorem jR(j:PE X e te)(i:PA X es t)(g:xk (e::es) X.env=(kd,g7 e X.env)::xk es X.env:=by rfl):PA X (e::es) (cq te t):=by intro pos y s z H Q I h;rw[g];show ku _ _ (lv ((kd,g7 e X.env)::fb pos (xk es X.env))) _ _ s;refine wL (GB (j y s z H _ I h) λu w #[x,o,m,a,f]=>?_);exact GB (i pos y w z o _ m f) λp q #[v,n,l,k,b]=>#[x::v,n,l,.cons a k,b]
def uw(t:TA):TE:=λy H Q=>t y H λh x=>h.9<=kn/\∀p,x p=kv->Q (.ref p) (CA x p (.tup h))
def lw(t:TA):TE:=λy H Q=>t y H λh x=>h.9<=kn/\∀p,x p=kv->Q (.ref p) (CA x p (.lst h))
theorem Ij{x1}(h:PA X es t):PE X (.Tuple es x1 pos) (uw t):=by intro x s k H Q I g;refine QBd (GB (h pos x s k H _ I g) λf y #[a,w,v,r,z,q]=>#[by rw[<- r.9];exact z,?_]);have i:w y.1.1.size=none:=v.hok.fresh (QT _);refine#[.ref y.1.1.size,CA w y.1.1.size (.tup a),v.laid (t':=y.toks) (λb u e=>QH _ e) (QT _) ?_,rfl,q _ i];exact#[z,f,r,#[_,QS _ rfl,rfl,_,rfl]]
theorem zk(h:PA X es t):PE X (.List es pos) (lw t):=by intro x s k H Q I g;refine wpAny_List_spliced (GB (h pos x s k H _ I g) λf y #[a,w,v,r,z,q]=>#[by rw[<- r.9];exact z,?_]);have i:w y.1.1.size=none:=v.hok.fresh (QT _);refine#[.ref y.1.1.size,CA w y.1.1.size (.lst a),v.laid (t':=y.toks) (λb u e=>QH _ e) (QT _) ?_,rfl,q _ i];exact#[z,f,0,r,QS _ rfl]
end
noncomputable abbrev Sp:=LV->Hp->VK->XK->Prop
noncomputable abbrev zb:=List Env->Hp->kt->XK->kb->kt->Prop
structure Env0(P:k5)(w:xb)(K:QA)(mg:Str->Option kb)(base:vu)(A:x2)(outer:List Env)(s:kt)(H:Hp):Prop where
 frames:A.frames=jr outer
 mod:Mod K mg base
 bs:∀b o,base.get? b=jr o->s.1.get? b=jr o/\H b=kv
 bsz:base.1.size<=s.1.1.size
 funs:s.1.FunFrames base outer
 frf:∀b∈BZ outer,H b=kv
 tb:∀P q,zQ mg base P q->H P=jr (.tbl q)
 hok:eO P w H s.1
 bare:u0 s.gens
def CE(outer:List Env)(P:k5)(w:xb)(H:Hp)(s:kt)(Q:VK)(u:kb)(s':kt):Prop :=
 ∃v h,s'.os=s.os/\u0 s'.gens/\Un (BZ outer) [] H h s.1 s'.1/\eO P w h s'.1/\JA v u/\Q v h
def CR(h:zb)(outer:List Env)(P:k5)(w:xb)(H:Hp)(s:kt)(Q:VK)(E:XK)(r:Result)(s':kt):Prop :=
 match r with
 | .ok (.ret u)=>CE outer P w H s Q u s'|.ok _=>False|.error e=>h outer H s E e s'
structure FnOk(P:k5)(w:xb)(K:QA)(mg:Str->Option kb)(base:vu)(CX:zb)(k:Nat)(f:ko)(fd:gV)(ps:LS)(sp:Sp):Prop where
 len:∀vs H Q E,sp vs H Q E->vs.9=ps.9
 run:∀(A:x2) (outer:List Env) (s:kt) (H:Hp) (args:Args) (us:LW) (vs:LV) (Q:VK) (E:XK),Room k A->Env0 P w K mg base A outer s H->l4 s fd args (ps.zip us)->oA vs us->sp vs H Q E ->
  mu (k0 P w) A (.call (.ref f) args) (CR CX outer P w H s Q E) s
theorem FnOk.mono{P:k5}{w:xb}{K:QA}{mg:Str->Option kb}{x:vu}{a:zb}{j k:Nat}{f:ko}{v:gV}{u:LS}{z:Sp}(F:FnOk P w K mg x a j f v u z)(h:j<=k) :
  FnOk P w K mg x a k f v u z:=#[F.len,λA y s H args e b Q E g=>F.run A y s H args e b Q E (g.mono h)]
section
variable{X:Cx}{x:TB}{σ:St}{H:Hp}{s s':kt}
theorem Inv.env0(I:Inv X x σ H s):Env0 X.prog X.w X.K X.mg X.base X.A X.stack s H :=
 #[I.ok.frames,I.ok.mod,I.bs,QV I.ok.bsz I.sz,I.stack,I.stkFree,I.tb,I.hok,I.bare]
theorem Inv.after{Q:VK}{u:kb}(I:Inv X x σ H s)(h:CE X.stack X.prog X.w H s Q u s'):EP X x σ Q u s':=by let#[v,f,a,bare,un,k,r,q]:=h;let#[e,g,d,t,y]:=s';obtain rfl:y=s.os:=a;exact#[v,f,I.call (h':=e) (g':=g) (d':=d) (t':=t) (ch:=[]) un k bare (λb z=>im z (by simp)),r,q]
end
noncomputable def kg(z:Sp)(h:LV)(E:XK)(t:TA):TE:=λx H Q=>t x H λy u=>z (y++h) u Q E
def PJ(K:QA)(y:gV)(x:LS)(ds:LW):Prop :=
 ∀(s:kt) (h:LW),K.In s.1->(h++ds).9=x.9->l4 s y #[h,[]] (x.zip (h++ds))
theorem PJ.all{K:QA}{y:gV}{x:LS}(h:∀us:LW,us.9=x.9->ew y #[us,[]]=tv (x.zip us)):PJ K y x []:=λs us _ hl=>by rw[qJ]at hl ⊢;exact .of_eq (h us hl)
def bO(z:zb)(X:Cx)(E:XK):Prop:=∀(h:TB) (y:St) (H:Hp) (s:kt) (e:kb) (x:kt),Inv X h y H s->z X.stack H s E e x->X.xe e x
section
variable{X:Cx}{b:zb}{k:Nat}{f C:ko}{a:gV}{z:LS}{v:Sp}{y:LV}{ds:LW}{E:XK}{x m:Str}{p pos apos:Pos}{e o:Expr}{es:List Expr}{ta:TE}{t:TA}
theorem G6{g:TB}{σ:St}{H:Hp}{s:kt}{Q:VK}{us:LW}{vs:LV}(F:FnOk X.prog X.w X.K X.mg X.base b k f a z v)(q:Room k X.A)(hb:PJ X.K a z ds)(Y:oA y ds)(n:bO b X E)
  (I:Inv X g σ H s) (r:oA vs us) (h:v (vs++y) H Q E):ku (k0 X.prog X.w) X.A (Er (.ref f) us) (EP X g σ Q) X.xe s:=by
 have j:oA (vs++y) (us++ds):=r.append Y;have hl:(us++ds).9=z.length:=by rw[<- j.9];exact F.len _ _ _ _ h
 refine wpAny_call (QCG (F.run X.A X.stack s H #[us,[]] (us++ds) (vs++y) Q E q I.env0 (hb s us I.kIn hl) j h) λr l i=>?_);cases r with
 |error e=>exact n g σ H s e l I i|ok fl =>
  cases fl with|ret u=>exact I.after i|next=>exact Qd i|brk=>exact Qd i|cont=>exact Qd i
theorem Ac(F:FnOk X.prog X.w X.K X.mg X.base b k f a z v)(Y:Room k X.A)(B:Gl X x)(Z:X.mg x=jr (.ref f))(hk:wO X.K (.ref f)=kf)(hb:PJ X.K a z ds)(J:oA y ds)(n:bO b X E)
  (L:PA X (e::es) t) (i:(x==("__debug__":Str))=false:=by decide) (G:xk (e::es) X.env=(kd,g7 e X.env)::xk es X.env:=by rfl) (g:(fb pos (xk es X.env)).any (·.1)=false:=by rfl) :
  PE X (.Call (.Name x p) (e::es) [] pos) (kg v y E t):=by
 intro u s l H Q I h;refine qy (BR I B Z ?_ i);refine PySem.W.callWith_K (h₀:=X.base) I.ok.mod.kin hk (GB (L pos u s l H _ I h) λN O #[M,P,j,r,q]=>#[j.kIn,?_]) G g;exact G6 F Y hb J n j r q
theorem Y7(F:FnOk X.prog X.w X.K X.mg X.base b k f a z v)(j:Room k X.A)(n:Gl X x)(l:X.mg x=jr (.ref f))(hk:wO X.K (.ref f)=kf)(hb:PJ X.K a z ds)(q:oA y ds)(i:bO b X E)
  (u:(x==("__debug__":Str))=false:=by decide):PE X (.Call (.Name x p) [] [] pos) (kg v y E xq):=by
 intro g s r H Q I h;refine qy (BR I n l ?_ u);exact PySem.W.callWith_K0 I.kIn hk (G6 (us:=[]) F j hb q i I .nil h)
end
section
variable{X:Cx}{c:zb}{k:Nat}{f C:ko}{b:gV}{v ks:LS}{u:Sp}{E:XK}{x m:Str}{p pos apos h:Pos}{e o:Expr}{es:List Expr}{y:List ll}{te ta:TE}{t z:TA}{w:Option Str}
variable{g:LW->LW->LW}{a:LV->LV->LV}
end
section
variable{l:zb}{P:k5}{w:xb}{mg:Str->Option kb}{base:vu}{j:LS}{g:Str}{d:hB}{f:ko}
structure FnScope(N P:LS)(sc:hB):Prop where
 kind:sc.kind=.function
 co:sc.isCoroutine=kd
 gen:sc.isGenerator=kd
 nd:N.Nodup
 pre:N.take P.9=P
 par:∀x∈P,sc.names.lookup x=jr .local∨sc.names.lookup x=jr .cell
 nofree:∀y∈sc.names,y.2≠.free
theorem NP{y:Str->Option fm}{x:Str}:∀{binds:List (Str×kb)}{m:Str->Option kb},(∀v,(x,v)∉binds)->mA y binds m x=m x
 |[],_,_=>rfl|(n,v)::r,m,h=>by
  unfold mA;rw[NP λw z=>h w (QE _ z)];split;have:x≠n:=by rintro rfl;exact h v QD
  simp[this];rfl
theorem PP{y:Str->Option fm}{x:Str}:∀{binds:List (Str×kb)}{m:Str->Option kb},(∀v,(x,v)∉binds)->mi y binds m x=m x
 |[],_,_=>rfl|(n,v)::r,m,h=>by
  unfold mi;rw[PP λw z=>h w (QE _ z)];split;rfl;have:x≠n:=by rintro rfl;exact h v QD
  simp[this]
theorem OP{y:Str->Option fm}{x:Str}{v:kb}:∀{P:LS}{vs:LW}{i:Nat}{m:Str->Option kb},P.Nodup->P[i]?=jr x->vs[i]?=jr v->y x=jr .local ->
  mA y (P.zip vs) m x=jr v
 |[],_,_,_,_,h,_,_=>by simp at h|_::_,[],_,_,_,_,h,_=>by simp at h|p::P,w::vs,0,m,nd,h1,h2,hk=>by simp at h1 h2;subst h1;subst h2;show mA y ((p,w)::P.zip vs) m p=_;unfold mA;rw[NP λv hv=>(Qj.mp nd).1 (QBF hv).1,a9 hk];simp|p::P,w::vs,i+1,m,nd,h1,h2,hk=>by show mA y ((p,w)::P.zip vs) m x=_;unfold mA;exact OP (i:=i) (Qj.mp nd).2 (by simpa using h1) (by simpa using h2) hk
theorem IP{y:Str->Option fm}{x:Str}{v:kb}:∀{P:LS}{vs:LW}{i:Nat}{m:Str->Option kb},P.Nodup->P[i]?=jr x->vs[i]?=jr v->y x≠jr .local ->
  mi y (P.zip vs) m x=jr v
 |[],_,_,_,_,h,_,_=>by simp at h|_::_,[],_,_,_,_,h,_=>by simp at h|p::P,w::vs,0,m,nd,h1,h2,hk=>by simp at h1 h2;subst h1;subst h2;show mi y ((p,w)::P.zip vs) m p=_;unfold mi;rw[PP λv hv=>(Qj.mp nd).1 (QBF hv).1,a8 hk];simp|p::P,w::vs,i+1,m,nd,h1,h2,hk=>by show mi y ((p,w)::P.zip vs) m x=_;unfold mi;exact IP (i:=i) (Qj.mp nd).2 (by simpa using h1) (by simpa using h2) hk
noncomputable def dD(N:LS)(vs:LV):St:=vs.map jr++QAa (N.9 - vs.9) kv
noncomputable def XX(l:zb)(P:k5)(w:xb)(K:QA)(mg:Str->Option kb)(base:vu)(N:LS)(g:Str)(d:hB)(f:ko)(x:kb)(A:x2)(outer:List Env)(s:kt)(H:Hp)(E:XK):Cx where
 prog:=P
 w:=w
 K:=K
 mg:=mg
 base:=base
 A:=A.deeper (Ar g d s.1.1.size f x)
 N:=N
 s₀:=s
 H₀:=H
 env:=Ar g d s.1.1.size f x
 outer:=outer
 stack:=Ar g d s.1.1.size f x::outer
 ex:=[]
 calm:=kf
 fn:=λ_=>kf
 pn:=[]
 xe:=λe y=>ku (k0 P w) (A.deeper (Ar g d s.1.1.size f x)) (leaving (Ar g d s.1.1.size f x) e) (λ_ h=>l outer H s E e h) (λz h=>l outer H s E z h) y
theorem yV{sc:hB}{n:Nat}{x:Str}(h:sc.names.lookup x=jr .cell):∃c,(p8 n sc.names []).lookup x=jr c:=by have q:=QA5 sc.names n [] (.inl h);exact Option.isSome_iff_exists.mp q
theorem O3{K:QA}{N:LS}{F:kb}{A:x2}{outer:List Env}{s G:kt}{H:Hp}{E:XK}{us:LW}{vs:LV}
  (S:FnScope N j d) (M:A.handled=kv) (o:Env0 P w K mg base A outer s H) (hl:vs.9=j.9) (r:oA vs us)
  (x:InCallC s s.1.1.size (mA (Ar g d s.1.1.size f F).kindOf (j.zip us) λ_=>kv) (p8 (s.1.1.size+1) d.names []) (mi (Ar g d s.1.1.size f F).kindOf (j.zip us) λ_=>kv) G) :
  Inv (XX l P w K mg base N g d f F A outer s H E) [] (dD N vs) H G:=by
 have L:j.9<=N.length:=by have:=i3 qO S.pre;rw[qK]at this;omega
 let#[C,Q,rfl,hk]:=x.done;have X:∀b:ko,b∉(XX l P w K mg base N g d f F A outer s H E).ex:=λb z=>im (show b∈([]:List ko) from z) (by simp);refine#[#[o.mod,S.kind,rfl,rfl,QT _,λy z c C m=>?_,λy Y=>?_,λy c _ h=>?_,λ_=>M,Around.frames_deeper o.frames,.inr #[rfl,rfl],λb z=>im z (X b),o.bs,o.bsz,λb _ _=>X b,λb z=>im z (X b),o.funs,o.frf,o.tb],
  rfl,o.bare,Un.kept hk,#[_,x.toInCall.ns,λi y v C m R=>?_],λy c h=>#[_,x.cell y c h],o.hok.fresh (QT _),λy c h=>?_,λp W=>im (show p∈([]:TB) from W) (by simp),o.hok.kept hk,?_]
 exact name_of_addr x.apart (qP C) (qP m);have Y:d.names.lookup y=jr .cell∨d.names.lookup y=jr .free:=Y;rcases Y with Y|Y;exact yV Y;exact im rfl (S.nofree _ (qP Y));exact WR (x.above y c (qP h));have B:i<vs.length:=by unfold dD at m;by_cases B:i<vs.9;exact B;rw[Qy (by simpa using B)]at m;rw[we]at m;split at m<;>cases m
 have O:vs[i]?=jr v:=by
  unfold dD at m;rw[qL (by simpa using B),Qa]at m;cases e:vs[i]? with|none=>rw[e]at m;cases m|some a=>rw[e]at m;cases m;rfl
 let#[u,I,J]:=r.get O;have W:j[i]?=jr y:=by rw[<- S.pre,List.getElem?_take_of_lt ()];exact C
 have Z:j.Nodup:=by rw[<- S.pre];exact S.nd.sublist (List.take_sublist _ _)
 refine#[u,J,?_];rcases S.par y (qN W) with k|k;exact .inl #[k,OP Z W I k];let#[c,e]:=yV (n:=s.1.1.size+1) k;refine .inr #[.inl k,c,e,?_];have q:=x.cell y c e;rw[IP Z W I (by show d.names.lookup y≠_;rw[k];decide)]at q;exact q;exact o.hok.fresh (WR (x.above y c (qP h)));unfold dD;show _=N.9;rw[QI,QC,qt];omega
theorem xh{K:QA}{k:Nat}{name:Str}{z:p6}{body:List gl}{dV kV B pm h ct oc:kb}{an od:Option ko}
  {L:Array (Option kb)}{N:LS}{C:Sp}(lk:K.lookup f=jr #[oc,od,.func (qr name g z body d dV kV B pm an h ct),L]) (R:Wq K h g=kf) (S:FnScope N j d)
  (len:∀vs H Q E,C vs H Q E->vs.9=j.9)
  (p:∀(A:x2) (outer:List Env) (s:kt) (H:Hp) (vs:LV) (Q:VK) (E:XK),Room k (A.deeper (Ar g d s.1.1.size f h))->C vs H Q E ->
   ∃t,nY (XX l P w K mg base N g d f h A outer s H E) body t/\t { nx:=λ_ i=>Q .non i,rt:=Q } (dD N vs) H) :
  FnOk P w K mg base l (k+1) f (qr name g z body d dV kV B pm an h ct) j C:=by
 refine#[len,λA outer s H args us vs Q E O Z hb r Y=>?_];have hl:=len _ _ _ _ Y;have KX:K.In s.heap:=Z.mod.kin.keeps λb o e=>(Z.bs b o e).1;have M:s.1.NoLimit:=Z.mod.nolimit.keeps λb o e=>(Z.bs b o e).1;have m:∀y∈j.zip us,d.names.lookup y.1=jr .local∨(d.names.lookup y.1=jr .cell/\((p8 (s.1.1.size+1) d.names []).lookup y.1).isSome=kf):=λ#[n,v] hy=>by rcases S.par n (QBF hy).1 with q|q;exact .inl q;exact .inr #[q,QA5 _ _ _ (.inl q)]
 refine codeAny_call_function O.depth (KX _ _ lk) rfl S.co S.gen rfl (PySem.W.codeRec_of KX R) (hb _ _ _ _ ?_);refine wpAny_newFunctionEnv_cells S.kind m λenv he s1 x=>?_;subst he;refine#[M.keeps x.toInCall.keep,codeAny_func ?_];let#[t,ht,hq]:=p A outer s H vs Q E (O.deeper _) Y;have I:Inv (XX l P w K mg base N g d f h A outer s H E) [] (dD N vs) H s1:=O3 S O.hd Z hl r x;refine qw (ht [] s1 (dD N vs) H _ I hq) (λfl F X=>?_) λe F X=>X;have fin:∀{a:St}{i:Hp}{v:V}{u:kb},Inv (XX l P w K mg base N g d f h A outer s H E) [] a i F->JA v u->Q v i->CE outer P w H s Q u F :=
  λ{a i v u} J G q=>#[v,i,J.os,J.bare,J.base,J.hok,G,q]
 cases fl with|ret u=>let#[v,a,i,J,G,q]:=X;exact fin J G q|next=>let#[a,i,J,q]:=X;exact fin (v:=V.non) (u:=j2) J rfl q|brk=>let#[_,_,_,q]:=X;exact Qd q|cont=>let#[_,_,_,q]:=X;exact Qd q
end
section
variable{X:Cx}{x:Str}{p pos:Pos}{e:Expr}{es:List Expr}{t:TA}{y T:String}{r:LV->Hp->VK->Prop}
noncomputable def yz(r:LV->Hp->VK->Prop)(t:TA):TE:=λh H Q=>t h H λz u=>r z u Q
theorem XT(hc:FC X (.builtin y) r)(l:Gl X x)(j:X.mg x=kv)(hv:g6 x=jr (.builtin y))(n:PA X (e::es) t)(i:x≠"__name__":=by decide)(v:(x==("__debug__":Str))=false:=by decide)
  (m:xk (e::es) X.env=(kd,g7 e X.env)::xk es X.env:=by rfl) (u:(fb pos (xk es X.env)).any (·.1)=false:=by rfl):PE X (.Call (.Name x p) (e::es) [] pos) (yz r t):=by
 intro z s w H Q I h;refine qy (kF I l j hv ?_ i v);exact PyProof.Rows.callWith_builtin1 (GB (n pos z s w H _ I h) λa b #[k,q,o,f,g]=>hc z b w q k a Q o f g) m u
theorem G1(hc:FC X (.type T) r)(l:Gl X x)(j:X.mg x=kv)(hv:g6 x=jr (.type T))(n:PA X (e::es) t)(i:x≠"__name__":=by decide)(v:(x==("__debug__":Str))=false:=by decide)
  (m:xk (e::es) X.env=(kd,g7 e X.env)::xk es X.env:=by rfl) (u:(fb pos (xk es X.env)).any (·.1)=false:=by rfl):PE X (.Call (.Name x p) (e::es) [] pos) (yz r t):=by
 intro z s w H Q I h;refine qy (kF I l j hv ?_ i v);exact qQ (GB (n pos z s w H _ I h) λa b #[k,q,o,f,g]=>hc z b w q k a Q o f g) m u
end
end L2
namespace HT
open PySem PyProof.Rows
section
open PySem.SeqAt
open PySem.AutoSeq1 (wpAny_loadPart')
open PySem.MeetsSeq PySem.MeetsSeq2 PySem.MeetsSeq3
end
section
variable{prog:k5}{w:xb}{A:x2}{E:mC}{s:kt}
noncomputable def sIx(n d:Nat):Option Int->Nat
 |none=>d|some v=>if v<0 then(v+(n:Int)).toNat else min v.toNat n
end
end HT
namespace L2
open PySem PySem.Spec PyProof.Rows
noncomputable abbrev TO:=St->Hp->(Option Int->Hp->Prop)->Prop
def PO(X:Cx)(e:Option Expr)(t:TO):Prop :=
 ∀(h:TB) (s:kt) (x:St) (H:Hp) (Q:Option Int->Hp->Prop),Inv X h x H s->t x H Q ->
  ku (k0 X.prog X.w) X.A (evalPart e X.env) (λu z=>∃o y,Inv X h x y z/\IsPart u o/\Q o y) X.xe s
def Eb:TO:=λ_ H Q=>Q kv H
noncomputable def kq(t:TE):TO:=λh H Q=>t h H λx y=>∃i,x=.int i/\Q (jr i) y
theorem lX{ns:LJ}:∀{us:LW},oA (ns.map V.int) us->ak us ns:=by
 induction ns with
 |nil=>intro us r;rw[ww]at r;cases r;exact .nil|cons n ns y =>
  intro us r;rw[QX]at r;cases r with|cons x h=>let#[t,e]:=x;subst e;exact .cons n t (y h)
section
variable{X:Cx}{e:Expr}{te:TE}{y z:Option Expr}{k a:TO}{pos p2:Pos}
theorem Dc:PO X kv Eb:=by intro x s u H Q I h;rw[pL];exact QL #[kv,H,I,.none,h]
theorem Cc(h:PE X e te):PO X (jr e) (kq te):=by intro v s w H Q I g;rw[evalPart_some];refine GB (h v s w H _ I g) λu m #[x,l,j,b,f]=>?_;let#[i,rfl,q]:=f;let#[t,rfl]:=b;exact#[jr i,l,j,.int i t,q]
def fo(X:Cx)(r:V->Option Int->Option Int->Hp->VK->Prop):Prop :=
 ∀(h:TB) (s:kt) (u:St) (H:Hp) (x:V) (v f b:kb) (y z:Option Int) (g:ko) (Q:VK),Inv X h u H s->JA x v->s.1.IsSliceOf g f b .none->IsPart f y->IsPart b z->r x y z H Q ->
  ∃T id,nj (.type T) "__getitem__"=tv (jr (.builtin id))/\s.TypeIs v T/\ku (k0 X.prog X.w) X.A (rn v (.ref g)) (EP X h u Q) X.xe s
theorem fo.or{r j:V->Option Int->Option Int->Hp->VK->Prop}(h:fo X r)(h':fo X j):fo X (λx y z H Q=>r x y z H Q∨j x y z H Q):=by intro u s w H x v f b y z g Q I i n m l q;rcases q with q|q;exact h u s w H x v f b y z g Q I i n m l q;exact h' u s w H x v f b y z g Q I i n m l q
noncomputable def jAR(r:V->Option Int->Option Int->Hp->VK->Prop)(te:TE)(k a:TO):TE:=λh H Q=>te h H λx b=>k h b λl w=>a h w λu v=>r x l u v Q
theorem m7{r:V->Option Int->Option Int->Hp->VK->Prop}(G:fo X r)(L:PE X e te)(hl:PO X y k)(E:PO X z a):PE X (.Subscript e (.Slice y z kv p2) pos) (jAR r te k a):=by intro f s i H Q I h;refine QB2 (GB (L f s i H _ I h) λv p #[x,H1,R,Y,K]=>?_);refine wpAny_Slice (GB (hl f p i H1 _ R K) λm o #[l,S,P,C,W]=>GB (E f o i S _ P W) λj g #[u,n,O,B,Z]=>?_);rw[pL];refine QL ?_;have N:Inv X f i n { g with heap:=g.1.push { cls:=.type "slice",data:=.fields (qG [m,j,.none]) } }:=O.kept (t':=g.toks) λb ob q=>QH _ q;let#[T,id,M,F,J]:=G f { g with heap:=g.1.push { cls:=.type "slice",data:=.fields (qG [m,j,.none]) } } i n x v m j l u g.1.1.size Q N Y (Heap.IsSliceOf.new ..) C B Z;show ku (k0 X.prog X.w) X.A (ax e (.Slice y z kv p2) v (.ref g.1.1.size)) (EP X f i Q) X.xe { g with heap:=g.1.push { cls:=.type "slice",data:=.fields (qG [m,j,.none]) } };exact tail_any (ops:=[.ref g.1.1.size,v]) F M J (by with_unfolding_all rfl)
noncomputable def m4(xs:LV)(y z:Option Int):LV:=(xs.drop (HT.sIx xs.9 0 y)).take (HT.sIx xs.9 xs.9 z - HT.sIx xs.9 0 y)
theorem AU(xs:LV)(y z:Option Int):(m4 xs y z).9<=xs.length:=by unfold m4;rw[qK,QA3];omega
end
noncomputable def HS(n:Nat)(i:Int):Option Nat:=if 0<=i then(if i<n then jr i.toNat else kv) else if -(n:Int)<=i then jr (i+n).toNat else kv
def uD{α:Type}(xs:List α)(i:Int):Option α:=(HS xs.9 i).bind λj=>xs[j]?
theorem HR{n:Nat}{i:Int}{j:Nat}(h:HS n i=jr j):seqIndex? i n=jr j/\j<n/\-(n:Int)<=i/\i<n:=by unfold HS at h;by_cases y:0<=i;rw[a9 y]at h;by_cases x:i<n;rw[a9 x]at h;have e:i.toNat=j:=Ql h;exact#[by rw[QAt y x,e],(),(),x];rw[a8 x]at h;cases h;rw[a8 y]at h;by_cases x:-(n:Int)<=i;rw[a9 x]at h;have e:(i+n).toNat=j:=Ql h;exact#[by rw[QCH () x,e],(),x,()];rw[a8 x]at h;cases h
theorem aS{α:Type}{xs:List α}{i:Int}{v:α}(h:uD xs i=jr v):∃j,seqIndex? i xs.9=jr j/\xs[j]?=jr v/\j<xs.9/\-(xs.9:Int)<=i/\i<xs.length:=by
 unfold uD at h;cases e:HS xs.9 i with|none=>rw[e]at h;cases h|some j=>rw[e]at h;let#[u,z,y,x]:=HR e;exact#[j,u,h,z,y,x]
theorem iF{α:Type}{xs:List α}{j:Nat}{v:α}(h:xs[j]?=jr v):uD xs (j:Int)=jr v:=by
 have x:j<xs.length:=(Qi.mp h).1;have e:HS xs.9 (j:Int)=jr j:=by unfold HS;rw[a9 (),a9 ()];simp
 unfold uD;rw[e];exact h
def z0(b:Expr):Prop:=∀o i,subscripted b kd o i=operate [o,i] (rn o i)
def Aa(X:Cx)(r:R2):Prop :=
 ∀(k h:Expr) (z:TB) (s:kt) (a:St) (H:Hp) (x y:V) (v u:kb) (Q:VK),Inv X z a H s->JA x v->JA y u->r x y H Q ->
  subscripted h kd v u=operate [v,u] (rn v u)->ku (k0 X.prog X.w) X.A (ax k h v u) (EP X z a Q) X.xe s
def Sa(X:Cx)(id:String)(r:V->LV->Hp->VK->Prop):Prop :=
 ∀(h:TB) (s:kt) (y:St) (H:Hp) (x:V) (z:LV) (v:kb) (u:LW) (Q:VK),Inv X h y H s->JA x v->oA z u->r x z H Q ->
  ku (k0 X.prog X.w) X.A (Er (.builtin id) (v::u)) (EP X h y Q) X.xe s
section
variable{X:Cx}{a b:Expr}{ta Y:TE}{pos:Pos}
section
variable{d:TB}{s:kt}{x:V}{u v:kb}
theorem Aa.or{r g:R2}(h:Aa X r)(h':Aa X g):Aa X (λx y H Q=>r x y H Q∨g x y H Q):=by intro z w d s k H x y v u Q I f e q i;rcases q with q|q;exact h z w d s k H x y v u Q I f e q i;exact h' z w d s k H x y v u Q I f e q i
theorem Sa.or{g:String}{r e:V->LV->Hp->VK->Prop}(h:Sa X g r)(h':Sa X g e):Sa X g (λx xs H Q=>r x xs H Q∨e x xs H Q):=by intro d s y H x xs v z Q I w k q;rcases q with q|q;exact h d s y H x xs v z Q I w k q;exact h' d s y H x xs v z Q I w k q
theorem Rq{r:R2}(g:Aa X r)(i:PE X a ta)(hb:PE X b Y)(f:z0 b):PE X (.Subscript a b pos) (vq r ta Y):=by intro d s z H Q I h;exact QB2 (binT i hb I h λv u w x y l j e k q=>g a b d w z l x y v u Q j e k q (f _ _))
def Hq(K:QA):R2:=λx y H Q=>∃p h i v,x=.ref p/\y=.int i/\nC K H p h/\uD h i=jr v/\Q v H
def Fq(K:QA):R2:=λx y H Q=>∃p h i v,x=.ref p/\y=.int i/\ED K H p h/\uD h i=jr v/\Q v H
def Gq:R2:=λx y H Q=>∃z i c,x=.str z/\y=.int i/\z.9<=kn/\uD z.cps.toList i=jr c/\Q (.str #[(qG [c])]) H
theorem Xe:Aa X (Hq X.K):=by
 intro e f d s o H x y v u Q I E C h Z;let#[p,N,i,z,rfl,rfl,F,G,q]:=h;cases E;let#[t,rfl]:=C;let#[m,r,l,O]:=I.list F;let#[j,k,M,R,L,J]:=aS G;let#[w,A,g]:=r.get M;have hl:=r.9;have P:=SH;have fin:EP X d o Q w s:=#[z,H,I,g,q]
 by_cases W:0<=i;have n:i.toNat=j:=by rw[QAt W J]at k;exact Ql k
 exact item_listR l.isList W () (by rw[n];simpa using A) fin Z;have n:(i+(m.toArray.size:Int)).toNat=j:=by rw[QCH () L]at k;rw[QN,<- hl];exact Ql k
 exact qh (x:=w) l.isList.typeIs QB3.lookup
  (wpAny_getItem_list_neg (Q:=λr B=>r=w/\EP X d o Q r B) l.isList () (by rw[QN]<;>omega) () (by rw[n];simpa using A) #[rfl,fin]) Z
theorem om:Aa X (Fq X.K):=by
 intro k e d s g H x y v u Q I o n h W;let#[p,G,i,z,rfl,rfl,A,B,q]:=h;cases o;let#[t,rfl]:=n;let#[Z,r,l,J]:=I.tuple A;let#[j,E,C,O,N,M]:=aS B;let#[w,F,f]:=r.get C;have hl:=r.9;have L:=SH;have fin:EP X d g Q w s:=#[z,H,I,f,q]
 exact qh (x:=w) l.typeIs QAS.lookup
  (QBt (j:=j) (Q:=λr m=>r=w/\EP X d g Q r m) l () () (by rw[QN,<- hl];exact E) (by simpa using F) #[rfl,fin]) W
theorem am:Aa X Gq:=by
 intro w k d s W H x y v u Q I g f h l;let#[z,i,c,rfl,rfl,A,m,q]:=h;let#[t,rfl]:=g;let#[K,rfl]:=f;let#[j,e,p,C,o,n]:=aS m;have hl:z.cps.toList.9=z.length:=by simp[Str.length]
 rw[hl]at e o n;have B:=SH;exact tail_any (QCh s z t) slot_str_getitem.lookup (getItem_str (c:=c) (by have Z:decide (i < -(2 ^ 63:Int))=false:=dF ();have r:decide (i ≥ 2 ^ 63)=false:=dF ();rw[Z,r,QBm]) (by rw[e];simpa using p) #[.str #[(qG [c])],H,I.tok _,#[_,rfl],q]) l
def jAY(K:QA):R2:=λx y H Q=>Hq K x y H Q∨Fq K x y H Q∨Gq x y H Q
theorem Jm:Aa X (jAY X.K):=Xe.or (om.or am)
theorem vX(its:LW)(n j:Nat)(u:kb):Q3 (·.setIfInBounds j u) { cls:=.type "list",data:=.seq its.toArray n }={ cls:=.type "list",data:=.seq (its.set j u).toArray n }:=by simp[Q3]
theorem Inv.lst{d:TB}{σ:St}{H:Hp}{s:kt}{p:ko}{xs:LV}(I:Inv X d σ H s)(h:H p=jr (.lst xs)) :
  ∃(its:LW) (n:Nat),oA xs its/\s.1.get? p=jr { cls:=.type "list",data:=.seq its.toArray n }/\xs.9<=sizeLine:=by
 let#[z,its,n,r,e]:=I.hok p _ h;exact#[its,n,r,e,z]
theorem Inv.lstUpd{σ:St}{H:Hp}{p:ko}{xs y:LV}{its its':LW}{n z:Nat}{f:Obj->Obj}(I:Inv X d σ H s)(h:H p=jr (.lst xs))
  (g:s.1.get? p=jr { cls:=.type "list",data:=.seq its.toArray n }) (w:f { cls:=.type "list",data:=.seq its.toArray n }={ cls:=.type "list",data:=.seq its'.toArray z }) (r:oA y its') (k:y.9<=kn) (t:Nat) :
  Inv X d σ (CA H p (.lst y)) { s with heap:=s.1.update p f,toks:=t }:=by
 have e:(s.1.update p f).get? p=jr { cls:=.type "list",data:=.seq its'.toArray z }:=by rw[wM f g (by rw[w]<;>rfl),w]
 refine I.write (x:=p) (e:=p) (by rw[h];trivial) (.inl rfl) (λb u hb q=>(Wh _ _ (Q7 hb)).trans q) #[_,e] ?_;exact#[k,its',z,r,e]
def Uq:V->V->V->Hp->(Hp->Prop)->Prop:=λo i v H Q=>∃p h k j,o=.ref p/\i=.int k/\H p=jr (.lst h)/\HS h.9 k=jr j/\Q (CA H p (.lst (h.set j v)))
theorem U6:Hf X Uq:=by
 intro d s Z H o i v G J u Q I B C A h;let#[p,K,k,j,rfl,rfl,e,F,q]:=h;cases B;let#[t,rfl]:=C;let#[y,n,r,w,E]:=I.lst e;let#[z,M,g,f]:=HR F;have hl:=r.9;have L:=SH;have m:Inv X d Z (CA H p (.lst (K.set j v))) { s with heap:=s.1.update p (Q3 (·.setIfInBounds j u)) } :=
  I.lstUpd e w (vX y n j u) (r.set A j) (by rw[wH];exact E) s.toks
 by_cases l:0<=k;have hk:k.toNat=j:=by rw[QAt l f]at z;exact Ql z
 exact PySem.W.ki_setAt w l () (by rw[QN,<- hl];exact f) (by rw[hk];exact#[_,m,q]);have hk:(k+(y.toArray.size:Int)).toNat=j:=by rw[QCH () g]at z;rw[QN,<- hl];exact Ql z
 exact PySem.W.ki_setBack w () (by rw[QN,<- hl];exact g) () (by rw[hk];exact#[_,m,q])
theorem HQ(y z:Option Int)(n:Nat):(fv y z kv n).1=((HT.sIx n 0 y:Nat):Int)/\(fv y z kv n).2.1=((HT.sIx n n z:Nat):Int)/\(fv y z kv n).2.2=1:=by
 refine#[?_,?_,rfl];cases y with|none=>simp[fv,HT.sIx]|some i=>simp only[fv,HT.sIx,QCP,show(1:Int) > 0 by decide,if_true];by_cases h:i<0;simp only[h,if_true]<;>omega;simp only[h,if_false]<;>omega
 cases z with|none=>simp[fv,HT.sIx]|some i=>simp only[fv,HT.sIx,QCP,show(1:Int) > 0 by decide,if_true];by_cases h:i<0;simp only[h,if_true]<;>omega;simp only[h,if_false]<;>omega
theorem YO(its:LW)(h y:Option Int):slicePick its.toArray h y kv=((its.drop (HT.sIx its.9 0 h)).take (HT.sIx its.9 its.9 y - HT.sIx its.9 0 h)).toArray:=by let#[k,w,z]:=HQ h y its.toArray.size;unfold slicePick;rw[k,w,z];simp only[sliceRange_one,pick_run,QN]<;>rfl
def Xq(K:QA):V->Option Int->Option Int->Hp->VK->Prop:=λx y z H Q=>∃a h,x=.ref a/\nC K H a h/\∀p,H p=kv->Q (.ref p) (CA H p (.lst (m4 h y z)))
theorem xc:fo X (Xq X.K):=by intro d s p H x v W Z w k A Q I f n i g h;let#[a,y,rfl,m,q]:=h;cases f;let#[j,r,e,l]:=I.list m;have z:=r.9;refine#["list",_,QB3.lookup,e.isList.typeIs,?_];refine wpAny_getItem_list_slice e.isList n i g .none (by simp) ?_ (by rw[QN]<;>omega);rw[YO,<- z];refine#[.ref s.1.1.size,_,I.laid (t':=s.toks) (o:=.lst (m4 y w k)) (λb ob q=>QH _ q) (QT _) ?_,rfl,q _ (I.hok.fresh (QT _))];exact#[QV (AU y w k) l,_,0,(r.drop (HT.sIx y.9 0 w)).take (HT.sIx y.9 y.9 k - HT.sIx y.9 0 w),QS _ rfl]
noncomputable def cG:V->Bool
 | .non=>kf|.bl _=>kf|.int _=>kf|.str _=>kf|_=>kd
noncomputable def Ie:V->V->Bool
 | .non,.non=>kf|.bl a,.bl b=>a==b|.bl a,.int b=>(if a then 1 else 0)==b|.int a,.bl b=>a==(if b then 1 else 0)|.int a,.int b=>a==b|.str a,.str b=>a==b|_,_=>kd
theorem Nm{A:x2}{y:V}(w:JA y u)(h:JA x v)(k:cG y=kf)(fx:cG x=kf):qk A s u v (Ie y x):=by
 cases y with
 |non =>
  cases w;cases x with|non=>cases h;exact qk.same _|bl b=>cases h;exact qk.none_bool b|int b=>let#[t,rfl]:=h;exact qk.none_int b t|str b=>let#[t,rfl]:=h;exact qk.none_str b t|_=>exact im (show kd=kf from fx) QG
 |bl a =>
  cases w;cases x with|non=>cases h;exact qk.bool_none a|bl b=>cases h;exact qk.bool_bool a b|int b=>let#[t,rfl]:=h;exact qk.bool_int a b t|str b=>let#[t,rfl]:=h;exact qk.bool_str a b t|_=>exact im (show kd=kf from fx) QG
 |int a =>
  let#[z,rfl]:=w;cases x with|non=>cases h;exact qk.int_none a z|bl b=>cases h;exact qk.int_bool a z b|int b=>let#[t,rfl]:=h;exact qk.int_int a z b t|str b=>let#[t,rfl]:=h;exact QBo a z b t|_=>exact im (show kd=kf from fx) QG
 |str a =>
  let#[z,rfl]:=w;cases x with|non=>cases h;exact qk.str_none a z|bl b=>cases h;exact qk.str_bool a z b|int b=>let#[t,rfl]:=h;exact QBp a z b t|str b=>let#[t,rfl]:=h;exact qk.str_str a z b t|_=>exact im (show kd=kf from fx) QG
 |_=>exact im (show kd=kf from k) QG
def YX(x:V)(u:kb):Bool:=match u with
 | .none=>Ie .non x|.bool b=>Ie (.bl b) x|.int i _=>Ie (.int i) x|.str z _=>Ie (.str z) x|_=>kd
theorem G9{y:V}(r:JA y u)(f:cG y=kf):YX x u=Ie y x:=by
 cases y with|non=>cases r;rfl|bl b=>cases r;rfl|int i=>let#[t,rfl]:=r;rfl|str z=>let#[t,rfl]:=r;rfl|_=>exact im (show kd=kf from f) QG
theorem KJ{x:V}:∀{xs:LV}{us:LW},oA xs us->xs.all cG=kf->us.any (YX x)=xs.any λy=>Ie y x
 |_,_,.nil,_=>rfl|y::xs,u::us,.cons r t,f=>by rw[qp,Qb]at f;rw[WB,WB,G9 r f.1,KJ t f.2]
theorem jG{A:x2}{s:kt}{x:V}{v:kb}(z:JA x v)(fx:cG x=kf):∀{xs:LV}{us:LW},oA xs us->xs.all cG=kf->∀u∈us,qk A s u v (YX x u)
 |_,_,.nil,_=>λu h=>by cases h|y::xs,u::us,.cons r t,f=>λw h=>by rw[qp,Qb]at f;rcases QK.mp h with rfl|h;rw[G9 r f.1];exact Nm r z f.1 fx;exact jG z fx t f.2 w h
def inV(x:V)(xs:LV):Bool:=xs.any λy=>Ie y x
def Mw(K:QA)(neg:Bool):R2:=λx y H Q=>∃p h,y=.ref p/\(nC K H p h∨ED K H p h)/\cG x=kf/\h.all cG=kf/\Q (.bl (if neg then !inV x h else inV x h)) H
theorem N1:ME X (vx .In) (Mw X.K kd):=by intro d s l H x y v u Q I g i h;let#[p,m,rfl,k,fx,fs,q]:=h;cases i;rcases k with k|k;let#[z,r,e,j]:=I.list k;refine SeqAt.in_listAt (YX x) e.isList (λw f=>jG g fx r fs w (by simpa using f)) #[.bl _,H,I,rfl,?_];rw[show z.toArray.any (YX x)=z.any (YX x) by simp,KJ r fs];exact q;let#[z,r,e,j]:=I.tuple k;refine SeqAt.in_tupleAt (YX x) e (λw f=>jG g fx r fs w (by simpa using f)) #[.bl _,H,I,rfl,?_];rw[show z.toArray.any (YX x)=z.any (YX x) by simp,KJ r fs];exact q
theorem vR:ME X (vx .NotIn) (Mw X.K kf):=by intro d s l H x y v u Q I g i h;let#[p,m,rfl,k,fx,fs,q]:=h;cases i;rcases k with k|k;let#[z,r,e,j]:=I.list k;refine SeqAt.notIn_listAt (YX x) e.isList (λw f=>jG g fx r fs w (by simpa using f)) #[.bl _,H,I,rfl,?_];rw[show z.toArray.any (YX x)=z.any (YX x) by simp,KJ r fs];exact q;let#[z,r,e,j]:=I.tuple k;refine SeqAt.notIn_tupleAt (YX x) e (λw f=>jG g fx r fs w (by simpa using f)) #[.bl _,H,I,rfl,?_];rw[show z.toArray.any (YX x)=z.any (YX x) by simp,KJ r fs];exact q
theorem YJ:FC X (.builtin "len") (λxs H Q=>∃p z,xs=[.ref p]/\(nC X.K H p z∨ED X.K H p z)/\Q (.int z.9) H):=by intro d s j H xs l Q I r h;let#[p,z,rfl,w,q]:=h;let#[u,rfl,g]:=pI r;cases g;have m:=SH;rcases w with w|w;let#[f,k,e,i]:=I.list w;have y:=k.9;exact Calls.call_len_list e.isList (by simp only[QN]<;>omega) #[.int z.9,H,I.tok _,#[s.toks+1,by rw[QN,y]],q];let#[f,k,e,i]:=I.tuple w;have y:=k.9;exact len_tuple e (by simp only[QN]<;>omega) #[.int z.9,H,I.tok _,#[s.toks+1,by rw[QN,y]],q]
theorem rS:FC X (.builtin "len") (λxs H Q=>∃z,xs=[.str z]/\z.9<=kn/\Q (.int z.9) H):=by intro d s y H xs w Q I r h;let#[z,rfl,k,q]:=h;let#[u,rfl,t,rfl]:=pI r;have e:=SH;exact len_str () #[.int z.9,H,I.tok _,#[_,rfl],q]
theorem FC.or{f:kb}{r k:LV->Hp->VK->Prop}(h:FC X f r)(h':FC X f k):FC X f (λxs H Q=>r xs H Q∨k xs H Q):=by intro d s y H xs z Q I w q;rcases q with q|q;exact h d s y H xs z Q I w q;exact h' d s y H xs z Q I w q
theorem pS:FC X (.type "list") (λxs H Q=>∃p k,xs=[.ref p]/\(nC X.K H p k∨ED X.K H p k)/\∀l,H l=kv->Q (.ref l) (CA H l (.lst k))):=by
 intro d s E H xs G Q I r h;let#[p,k,rfl,m,q]:=h;let#[u,rfl,F]:=pI r;cases F;have fin:∀(y:LW),oA k y->k.9<=kn->∀(z:vu) (g:Nat),(∀b C,s.1.get? b=jr C->z.get? b=jr C) ->
   z.get? s.1.1.size=jr { cls:=.type "list",dict:=kv,data:=.seq y.toArray g,slots:=#[] }->EP X d E Q (.ref s.1.1.size) { s with heap:=z }:=λy f j z g i e =>
  #[.ref s.1.1.size,_,I.laid (t':=s.toks) i (QT _) (show uB X.prog X.w _ z _ (.lst k) from#[j,y,g,f,e]),rfl,q _ (I.hok.fresh (QT _))]
 rcases m with m|m;let#[y,f,W,j]:=I.list m;have Z:=f.9;let#[o,A,hc,n,B]:=W.isList;exact pR p (.inl rfl) A hc B (λz g i e=>fin y f j z g i e) (by simp only[QN]<;>omega);let#[y,f,W,j]:=I.tuple m;have Z:=f.9;let#[o,A,hc,n,B]:=W;exact pR p (.inr rfl) A hc B (λz g i e=>fin y f j z g i e) (by simp only[QN]<;>omega)
theorem EO:FC X (.type "tuple") (λxs H Q=>∃p z,xs=[.ref p]/\((nC X.K H p z/\∀l,H l=kv->Q (.ref l) (CA H l (.tup z)))∨(ED X.K H p z/\Q (.ref p) H))):=by
 intro d s j H xs C Q I r h;let#[p,z,rfl,h]:=h;let#[u,rfl,W]:=pI r;cases W;rcases h with⟨i,q⟩| ⟨i,q⟩
 let#[y,f,g,m]:=I.list i;have n:=f.9;refine call_tuple_list g.isList (λk A=>?_) (by simp only[QN]<;>omega);have Z:Inv X d j H { s with heap:=k }:=I.kept (t':=s.toks) A;have B:Inv X d j (CA H k.1.size (.tup z)) { s with heap:=k.push { cls:=.type "tuple",data:=.seq y.toArray } } :=
  Z.laid (t':=s.toks) (λb o e=>QH _ e) (QT _) (show uB X.prog X.w _ _ _ (.tup z) from#[m,y,f,IsTup.new _ _])
 exact#[.ref k.1.size,_,B,rfl,q _ (Z.hok.fresh (QT _))];let#[y,f,g,m]:=I.tuple i;exact call_tuple_same g #[.ref p,H,I,rfl,q]
def M4(K:QA)(T:String)(x:V)(H:Hp):Prop:=match x with
 | .str _=>T="str"|.int _=>T="int"|.ref p=>(T="list"/\∃y,nC K H p y)∨(T="tuple"/\∃o,K.lookup p=jr o/\o.cls=.type "tuple"/\o.dict=kv) ∨
   (T="dict"/\((∃h,H p=jr (.dK h))∨∃z h,H p=jr (.dT z h)))∨(T="set"/\∃S n,H p=jr (.set S n))
 |_=>False
theorem M5{σ:St}{H:Hp}{T:String}(I:Inv X d σ H s)(r:JA x v)(ty:M4 X.K T x H) :
  s.TypeIs v T/\∀a,v=.ref a->∃ob,s.1.get? a=jr ob/\ob.dict=none:=by
 cases x with
 |str z=>let#[t,rfl]:=r;cases(show T="str" from ty);exact#[QCh s z t,λ_ e=>nomatch e]
 |int i=>let#[t,rfl]:=r;cases(show T="int" from ty);exact#[typeIs_int s i t,λ_ e=>nomatch e]
 |ref p =>
  cases r;rcases ty with⟨rfl,l,j⟩| ⟨rfl,o,hk,hc,w⟩| ⟨rfl,hk⟩| ⟨rfl,S,n,hk⟩
  let#[g,_,f,_]:=I.list j;refine#[f.isList.typeIs,λa e=>?_];cases e;let#[o,n,e,c,w,_]:=f;exact#[o,e,w];refine#[#[o,I.kIn p o hk,hc],λa e=>?_];cases e;exact#[o,I.kIn _ o hk,w];have z:∃o,s.1.get? p=jr o/\o.ExactDict:=by
   rcases hk with⟨y,hk⟩| ⟨m,y,hk⟩
   let#[_,_,_,_,o,_,_,e,h,_]:=I.hok p _ hk;exact#[o,e,h];let#[_,_,_,_,o,_,e,h,_]:=I.hok p _ hk;exact#[o,e,h]
  let#[o,e,h]:=z;refine#[#[o,e,h.1],λa k=>?_];cases k;exact#[o,e,h.2.1];let#[o,_,_,_,e,h,_]:=I.hok p _ hk;refine#[#[o,e,h.1],λa k=>?_];cases k;exact#[o,e,h.2.1]
 |_=>exact Qd ty
noncomputable def tw(K:QA)(T:String)(r:V->LV->Hp->VK->Prop)(m:TE):TE:=λy H Q=>m y H λx h=>M4 K T x h/\r x [] h Q
noncomputable def jAU(K:QA)(T:String)(r:V->LV->Hp->VK->Prop)(m:TE)(t:TA):TE:=λh H Q=>m h H λx y=>M4 K T x y/\t h y λz w=>r x z w Q
end
variable{o e:Expr}{es:List Expr}{m:TE}{t:TA}{name:Str}{apos cpos:Pos}{T g:String}{r:V->LV->Hp->VK->Prop}
theorem ck(p:nc T)(w:Slot T name g)(k:typeOf (.builtin g)=tv (.type "method_descriptor"))(Z:Sa X g r)(q:PE X o m)
  (u:DC o name X.env (g7 o X.env)=g7 o X.env:=by rfl) (z:(apos.endLine==cpos.line)=true:=by rfl):PE X (.Call (.Attribute o name apos) [] [] cpos) (tw X.K T r m):=by
 intro y s f H Q I h;refine QAu u z (GB (q y s f H _ I h) λv l #[x,B,j,i,ty,n]=>?_);let#[A,W]:=M5 j i ty;exact#[T,g,p,w,k,A,W,Wi rfl (QBe (Z y l f B x [] v [] Q j i .nil n))]
theorem Sq(F:nc T)(k:Slot T name g)(j:typeOf (.builtin g)=tv (.type "method_descriptor"))(L:Sa X g r)(J:PE X o m)(M:PA X (e::es) t)
  (w:DC o name X.env (g7 o X.env)=g7 o X.env:=by rfl)
  (f:((fb cpos (xk (e::es) X.env)).all (λx=>!x.1)&&(backToKw cpos (keywordEach [] X.env)).all (λx=>x.1.isSome)
   && decide ((e::es).9+([]:List ll).9+(if([]:List ll).isEmpty then 0 else 1)<30))=true:=by rfl)
  (u:(apos.endLine==cpos.line)=true:=by rfl) (G:xk (e::es) X.env=(kd,g7 e X.env)::xk es X.env:=by rfl) (z:(fb cpos (xk es X.env)).any (·.1)=false:=by rfl) :
  PE X (.Call (.Attribute o name apos) (e::es) [] cpos) (jAU X.K T r m t):=by
 intro y s i H Q I h;refine wpAny_Call_method_late w f u rfl (GB (J y s i H _ I h) λv A #[x,S,p,l,ty,E]=>?_);let#[O,N]:=M5 p l ty;refine#[T,g,F,k,j,O,N,?_];have n:=M cpos y A i S _ p E;rw[G]at n ⊢;refine Wi (by show(kd||(fb cpos (xk es X.env)).any (·.1))=kd;rw[z]<;>rfl) (Calls.evalArgs_plain ?_);exact GB n λZ W #[q,R,P,B,C]=>L y W i R x q v Z Q P l B C
end
def By(X:Cx)(id:String)(r:V->LV->Hp->VK->Prop):Prop :=
 ∀(h:TB) (s:kt) (y:St) (H:Hp) (x:V) (z:LV) (v:kb) (u:LW) (Q:VK),Inv X h y H s->JA x v->oA z u->r x z H Q ->
  ku (k0 X.prog X.w) X.A (Er (.builtin id) (v::u)) (EP X h y Q) X.xe s
theorem oA.one:∀{x:V}{us:LW},oA [x] us->∃u,us=[u]/\JA x u
 |_,_,.cons r .nil=>#[_,rfl,r]
theorem oA.eraseIdx:∀{xs:LV}{us:LW}(i:Nat),oA xs us->oA (xs.eraseIdx i) (us.eraseIdx i)
 |_,_,_,.nil=>.nil|_,_,0,.cons _ t=>t|_,_,i+1,.cons r t=>.cons r (oA.eraseIdx i t)
theorem oA.reverse{xs:LV}{us:LW}(h:oA xs us):oA xs.reverse us.reverse:=by
 induction h with|nil=>exact .nil|cons r t x=>rw[wY,wY];exact oA.append x (.cons r .nil)
theorem UP{α:Type}:∀(l:List α) (i:Nat),(l.eraseIdx i).9<=l.9
 |[],_=>QT _|_::_,0=>wI _|_::r,i+1=>QCQ (UP r i)
section
variable{X:Cx}{y:TB}{σ:St}{H:Hp}{s:kt}{l b:ko}{xs v w:LV}
theorem Inv.lset{its its':LW}{n:Nat}{f:Array kb->Array kb}{t':Nat}(I:Inv X y σ H s)(a:H l=jr (.lst xs))
  (e:s.1.get? l=jr { cls:=.type "list",data:=.seq its.toArray n }) (k:f its.toArray=its'.toArray) (hv:oA v its') (h:v.9<=kn) :
  Inv X y σ (CA H l (.lst v)) { s with heap:=s.1.update l (Q3 f),toks:=t' }:=by
 have q:=PySem.IsL.update e f;rw[k]at q;refine I.write (x:=l) (e:=l) (by rw[a];exact trivial) (.inl rfl) (λg u hb z=>(Wh s.1 (Q3 f) (Q7 hb)).trans z) #[_,q] ?_;exact#[h,its',_,hv,q]
theorem Inv.lnew{its:LW}{t':Nat}(I:Inv X y σ H s)(hv:oA v its)(h:v.9<=kn) :
  Inv X y σ (CA H s.1.1.size (.lst v)) { s with heap:=s.1.push { cls:=.type "list",data:=.seq its.toArray },toks:=t' } :=
 I.laid (λ_ _ q=>QH _ q) (QT _) #[h,its,0,hv,QS _ rfl]
theorem Inv.fresh(I:Inv X y σ H s):H s.1.1.size=none:=I.hok.fresh (QT _)
theorem Inv.lstM(I:Inv X y σ H s)(h:H l=jr (.lst xs)):xs.9<=kn/\∃(its:LW) (n:Nat),oA xs its/\xs.9=its.9/\s.1.get? l=jr { cls:=.type "list",data:=.seq its.toArray n }:=by let#[z,its,n,r,e]:=I.hok l _ h;exact#[z,its,n,r,r.9,e]
theorem m8{n:Nat}(h:n<=kn):WS n=false:=by unfold WS;exact dF ()
end
section
variable{X:Cx}
def OY:V->LV->Hp->VK->Prop:=λx z H Q=>∃l h y,x=.ref l/\z=[y]/\H l=jr (.lst h)/\h.9<kn/\Q .non (CA H l (.lst (h++[y])))
theorem v3:By X "list.append" OY:=by intro k s i H x m v o Q I b f h;let#[l,j,y,rfl,rfl,a,p,q]:=h;cases b;let#[u,rfl,g]:=f.one;let#[z,w,n,r,hl,e]:=I.lstM a;refine QB4 F.slot_list_append #[_,e,rfl] F.entry_list_append (F.args_list_append_2 _ _) (PySem.list_append l w.toArray n u (by rw[QN];omega)) #[e,?_];refine#[.non,_,I.lset (its':=w++[u]) a e (by simp) (r.append (.cons g .nil)) ?_,rfl,q];rw[QI,qF];omega
def Yc:V->LV->Hp->VK->Prop:=λx z H Q=>∃l b y h,x=.ref l/\z=[.ref b]/\H l=jr (.lst y)/\H b=jr (.lst h)/\y.9+h.9<=kn/\Q .non (CA H l (.lst (y++h)))
theorem y3:By X "list.extend" Yc:=by
 intro f s K H x E v G Q I i j h;let#[l,b,C,A,rfl,rfl,g,Z,J,q]:=h;cases i;let#[u,rfl,m]:=j.one;cases m;let#[z,w,n,r,hl,e]:=I.lstM g;let#[B,y,p,o,Y,W]:=I.lstM Z;have a:w.toArray.size+y.toArray.size<=sizeLine:=by rw[QN,QN];omega
 have k:¬ (!w.toArray.isEmpty&&WS (w.toArray.size+y.toArray.size))=true:=by rw[m8 a,QBX];exact QG
 refine QB4 F.slot_list_extend #[_,e,rfl] F.entry_list_extend (F.args_list_extend_2 _ _)
  (AutoSeq1.list_extend_list_list_0 l w.toArray n b y.toArray p k (by rw[QN];omega) ()) #[e,W,?_]
 refine#[.non,_,I.lset (its':=w++y) g e (by simp) (r.append o) ?_,rfl,q];rw[QI];omega
def Dj:V->LV->Hp->VK->Prop:=λx z H Q=>∃l h i k y,x=.ref l/\z=[.int i]/\H l=jr (.lst h)/\-(2 ^ 63)<=i/\i<2 ^ 63/\seqIndex? i h.9=jr k/\h[k]?=jr y/\Q y (CA H l (.lst (h.eraseIdx k)))
theorem U8:By X "list.pop" Dj:=by
 intro f s A H x B v C Q I m o h;let#[l,j,i,k,y,rfl,rfl,g,K,W,hk,Y,q]:=h;cases m;let#[u,rfl,p]:=o.one;let#[t,rfl]:=p;let#[z,a,n,r,hl,e]:=I.lstM g;let#[w,Z,b]:=r.get Y;refine QB4 F.slot_list_pop #[_,e,rfl] F.entry_list_pop (F.args_list_pop_2 _ _)
  (MeetsSeq.list_pop_at l a.toArray n i t k w (fitsIndex_both K W) (by rw[QN,<- hl];exact hk) (by rw[<- wx];exact Z) (by rw[QN];omega)) #[e,?_]
 refine#[y,_,I.lset (its':=a.eraseIdx k) g e ?_ (r.eraseIdx k) ?_,b,q];show a.toArray.eraseIdxIfInBounds k=(a.eraseIdx k).toArray;rw[List.eraseIdxIfInBounds_toArray];have:=UP j k;omega
end
end L2
namespace Att
open PySem PySem.W PySem.Calls PyProof.Rows
theorem ML{P:Params}{h:vu}:∀(ns:LJ) (vs:LW),WellAll P h vs (ns.map WData.int)->ak vs ns:=by
 intro ns;induction ns with
 |nil=>intro vs w;rw[ww]at w;cases w;exact .nil|cons n ns x =>
  intro vs w;rw[QX]at w;cases w with|cons a b=>cases a;exact .cons _ _ (x _ b)
theorem script_of{l:OpenLaw}{n:Nat}(j:l.most=jr n){P:Params}{h:vu}{args:List WData}{x:LW}
  (y:l.row.toRowW.claim.pre args=kf) (k:WellAll P h x args) :
  ∃a vs ns,x=[kx a]/\args=[WData.list (ns.map WData.int)]/\h.get? a=jr { cls:=.type "list",data:=.seq vs.toArray }/\ak vs ns/\ns.9<=n:=by
 have b:WShape.hasAll [] args [.list .int]=true:=(pre_splitW y).1;have hc:l.pre.holds [] { args:=args }=true:=(pre_splitW y).2;let#[d,r,rfl,p,o]:=hasAllW_cons b;obtain rfl:=hasAllW_nil o;let#[s,rfl,m]:=hasW_list p;let#[ns,rfl]:=items_int m;have z:ns.9<=n:=by
  unfold OpenLaw.pre at hc;have w:(WTm.not (.lt (.lit (.int (n:Int))) (.len (.arg 0)))).holds [] { args:=[.list (ns.map .int)] }=true:=by have w:=(holds_andW hc).1;rw[j]at w;exact w
  have v:=condW_of w (w_not (w_lt w_lit (w_len_list (w_arg rfl))));rw[QC]at v;refine WG λq=>?_;have g:(n:Int)<((ns.9:Nat):Int):=()
  first
   | (rw[dT g]at v;exact im v (by decide))
   | (simp at v;omega)
 cases k with
 |cons f e =>
  cases e;cases f with|list i u=>exact#[_,_,ns,rfl,rfl,i,ML ns _ u,z]
theorem post_true(l:OpenLaw)(args:List WData):l.row.toRowW.claim.post args (.bool kf) args=kf :=
 postW_of (r:=l.row.toRowW) (X:=(kf==kf))
  (show WShape.has [] (.bool kf) .bool=kf by first|rfl|decide|simp[WShape.has,WShape.arms,WShape.armsAll])
  (show(WTm.eq .res (.lit (.bool kf))).value [] { args:=args,res:=jr (.bool kf),after:=args }=jr (.bool (kf==kf)) from w_eq_bool (w_res rfl) w_lit) rfl
end Att
namespace L2
open PySem PySem.Spec PyProof.Rows
theorem xP:∀{vs:LW}{ns:LJ},ak vs ns->oA (ns.map V.int) vs
 |_,_,.nil=>.nil|_,_,.cons n t h=>.cons #[t,rfl] (xP h)
def Fu(H:Hp):Prop:=∀b,H b=kv∨(∃o h,H b=jr (.frz o (.lst h)))∨∃q,H b=jr (.tbl q)
theorem R8{P:k5}{w:xb}{K:QA}{mg mb:Str->Option kb}{CX:zb}{k:Nat}{fa a:ko}{fd:gV}{x:Str}{sp:Sp}{y:kt}{vs:LW}{ns:LJ}{T c:ko}{X:Str}(hT:∀f:vu,K.In f->∀P q,zQ mg f P q->P=T/\q=X)(j:y.1.TableAt c T #[])(hKT:K.lookup T=kv)
  (KX:K.In y.1) (Q:y.1.Ns k4 mg) (hb:y.1.Ns c0 mb) (hbb:∀x:Str,x≠"__name__"->mb x=g6 x) (R:y.1.NoLimit) (hg:y.gens=#[])
  (J:y.1.get? a=jr { cls:=.type "list",data:=.seq vs.toArray }) (hi:ak vs ns) (hl:ns.9<=kn) (hr:Room k l5)
  (F:∀f:vu,K.In f->f.Ns k4 mg->FnOk P w K mg f CX k fa fd [x] sp) (B:∀(s:kt) (u:kb),l4 s fd #[[u],[]] [(x,u)])
  (hsp:∀H:Hp,Fu H->nC K H a (ns.map V.int)->sp [.ref a] H (λv _=>v=.bl kf) λ_ _ _=>False)
  (hCX:∀H e s',CX [] H y (λ_ _ _=>False) e s'->False) :
  mu (k0 P w) l5 (.call (.ref fa) #[[.ref a],[]]) (λr s'=>r=.ok (.ret (.bool kf))/\OldK y.1 s'.1/\s'.os=y.os/\u0 s'.gens) y:=by
 have rv:=xP hi;have O:=hi.9;have W:∀H:Hp,Fu H->nC K H a (ns.map V.int)->eO P w H y.1->(∀b,H b≠kv->b=a∨b=T)->(H a≠kv->K.lookup a=kv)->H T=jr (.tbl X) ->
   mu (k0 P w) l5 (.call (.ref fa) #[[.ref a],[]]) (λr s'=>r=.ok (.ret (.bool kf))/\OldK y.1 s'.1/\s'.os=y.os/\u0 s'.gens) y:=by
  intro H hO hS A hA hK hP;have l:∀{b:ko}{o:Obj},y.1.get? b=jr o->H b=kv->(PR y.1 H).get? b=jr o:=λe n=>t9 e n;have noA:∀{b:ko}{o:Obj}{L:Array b8}{M:Nat},y.1.get? b=jr o->o.data=.dict L M->H b=none:=λ{b o L M} e d=>by
   cases q:H b with|none=>rfl|some u=>rcases hA b (by rw[q];simp) with e'|e';subst e';rw[J]at e;cases e;have d':Data.seq vs.toArray _=Data.dict L M:=d;cases d';subst e';rw[j.2]at e;cases e;have d':Data.fields #[]=Data.dict L M:=d;cases d'
  have Y:∀{b:ko}{m:Str->Option kb},y.1.Ns b m->(PR y.1 H).Ns b m:=λ{b m} #[o,L,M,e,d,r]=>#[o,L,M,l e (noA e d),d,r]
  have G:K.In (PR y.1 H):=λb o e=>l (KX b o e) (by
   cases q:H b with|none=>rfl|some u=>rcases hA b (by rw[q];simp) with e'|e';subst e';rw[hK (by rw[q];simp)]at e;cases e;subst e';rw[hKT]at e;cases e)
  have hM:Mod K mg (PR y.1 H):=#[G,Y Q,#[mb,Y hb,hbb],let#[mc,h1,h2]:=R;#[mc,Y h1,h2]]
  have e0:Env0 P w K mg (PR y.1 H) l5 [] y H:=#[rfl,hM,λb o e=>Ad e,wy (T3 _ _),trivial,λb hb=>im (show b∈([]:List ko) from hb) (by simp),λP q t=>(by let#[rfl,rfl]:=hT _ G P q t;exact hP),A,.of_eq hg]
  refine QCG ((F _ G (Y Q)).run l5 [] y H #[[.ref a],[]] [.ref a] [.ref a] _ _ hr e0 (B y (.ref a)) (.cons rfl .nil) (hsp H hO hS)) λr s' h=>?_;cases r with
  |error e=>exact(hCX H e s' h).elim|ok fl =>
   cases fl with
   |next=>exact Qd h|brk=>exact Qd h|cont=>exact Qd h|ret u =>
    let#[v,H',os,bare,un,Z,r',q]:=h;have q':v=.bl true:=q;subst q';obtain rfl:u=Value.bool true:=r';have nx:∀b,b∉BZ []:=λb z=>im (show b∈([]:List ko) from z) (by simp);refine#[rfl,#[λb o e=>?_,λb o e=>un.there b o e (by simp)],os,bare];rcases hO b with z|⟨ob,xs,z⟩| ⟨tq',z⟩
    exact .inl (un.keep b o e z (nx b) (by simp));let#[S,_]:=A b _ z;let#[e2,_]:=Z b _ (un.frzs b ob _ z);rw[e]at S;cases S;exact .inl e2;have hb:b=T:=by rcases hA b (by rw[z];simp) with rfl|h;let#[ps,S,_]:=A b _ z;rw[J]at S;cases S;exact h
    subst hb;let#[ps,e2,_]:=Z b _ (un.tbls b _ z);have e0:=e.symm.trans j.2;cases e0;exact .inr (.inl #[j.isCodeTable,rfl,#[],ps,rfl,by simpa using e2])
 have aT:a≠T:=λz=>by have e:=j.2;rw[<- z,J]at e;cases e
 have N:∀H:Hp,uB P w H y.1 T (.tbl X):=λH=>#[#[],j.2,trivial,λpos cv g=>by cases g]
 cases hk:K.lookup a with
 |some o =>
  have e:=KX a o hk;rw[J]at e;cases e;refine W (λb=>if b=T then jr (.tbl X) else kv) (λb=>?_) (.inr #[_,vs.toArray,_,hk,rfl,rfl,rfl,by rw[QN,O];exact hl,by simpa using rv]) (λb u z=>?_) (λb z=>?_) (λz=>im (a8 aT) z) (a9 rfl);by_cases hb:b=T
  ·exact .inr (.inr #[_,a9 hb])
  exact .inl (a8 hb);by_cases hb:b=T
  ·have p:=(a9 hb).symm.trans z
   cases p;subst hb;exact N _
  have p:=(a8 hb).symm.trans z;cases p;by_cases hb:b=T
  ·exact .inr hb
  exact im (a8 hb) z
 |none =>
  have C:∀b,b=T->(if b=T then jr (.tbl X) else if b=a then jr (.frz { cls:=.type "list",data:=.seq vs.toArray } (.lst (ns.map V.int))) else none:Option HO)=jr (.tbl X):=λb h=>a9 h;have I:∀b,b=a->(if b=T then jr (.tbl X) else if b=a then jr (.frz { cls:=.type "list",data:=.seq vs.toArray } (.lst (ns.map V.int))) else none:Option HO)=jr (.frz { cls:=.type "list",data:=.seq vs.toArray } (.lst (ns.map V.int))):=λb h=>(a8 (h▸aT)).trans (a9 h);have E:∀b,b≠T->b≠a->(if b=T then jr (.tbl X) else if b=a then jr (.frz { cls:=.type "list",data:=.seq vs.toArray } (.lst (ns.map V.int))) else none:Option HO)=none:=λb h h2=>(a8 h).trans (a8 h2);refine W (λb=>if b=T then jr (.tbl X) else if b=a then jr (.frz { cls:=.type "list",data:=.seq vs.toArray } (.lst (ns.map V.int))) else kv) (λb=>?_) (.inl (.inr #[{ cls:=.type "list",data:=.seq vs.toArray },I a rfl])) (λb u z=>?_) (λb z=>?_) (λ_=>hk) (C T rfl);by_cases hb:b=T
  ·exact .inr (.inr #[_,C b hb])
  by_cases i:b=a
  ·exact .inr (.inl #[_,_,I b i])
  exact .inl (E b hb i);by_cases hb:b=T
  ·have p:=(C b hb).symm.trans z
   cases p;subst hb;exact N _
  by_cases i:b=a
  ·have p:=(I b i).symm.trans z
   cases p;subst i;exact#[J,by rw[QC];exact hl,vs,_,rv,J]
  have p:=(E b hb i).symm.trans z;cases p;by_cases hb:b=T
  ·exact .inr hb
  by_cases i:b=a
  ·exact .inl i
  exact im (E b hb i) z
noncomputable def jD(s:gl):Arguments:=match s with
 | .FunctionDef _ a _ _ _ _ _ _ _ _=>a|_=>{ posonlyargs:=[],args:=[],vararg:=kv,kwonlyargs:=[],kw_defaults:=[],kwarg:=kv,defaults:=[] }
noncomputable def gC(s:gl):List Stmt:=match s with
 | .FunctionDef _ _ b _ _ _ _ _ _ _=>b|_=>[]
noncomputable def RA(s:gl):Scope:=match s with
 | .FunctionDef _ _ _ _ _ _ sc _ _ _=>sc|_=>{ kind:=.function,names:=[],isGenerator:=kd,isCoroutine:=kd }
noncomputable abbrev v5:zb:=λ_ _ _ _ _ _=>False
noncomputable abbrev E0:XK:=λ_ _ _=>False
theorem Tq{X:Cx}:bO v5 X E0:=λ_ _ _ _ _ _ _ h=>h.elim
structure Fun(K:QA)(x qual:Str)(st:gl)(f:ko)(fd:gV):Prop where
 ex:∃(oc:kb) (od:Option ko) (kV doc pm:kb) (an:Option ko) (cdv ct:kb) (osl:Array (Option kb)),
  fd=qr x qual (jD st) (gC st) (RA st) .none kV doc pm an cdv ct/\K.lookup f=jr #[oc,od,.func fd,osl]/\Wq K cdv qual=kf
 kp:wO K (.ref f)=kf
section
variable{P:k5}{w:xb}{K:QA}{mg:Str->Option kb}{base:vu}
section
variable{x y:Str}{st:gl}{f:ko}{u:gV}{z:LS}
theorem Fun.ok{N:LS}{k:Nat}{b:Sp}(F:Fun K x y st f u)(S:FnScope N z (RA st))(len:∀vs H Q E,b vs H Q E->vs.9=z.9)
  (a:∀(v:kb) (A:x2) (outer:List Env) (s:kt) (H:Hp) (vs:LV) (Q:VK) (E:XK),Room k (A.deeper (Ar y (RA st) s.1.1.size f v))->b vs H Q E ->
   ∃t,nY (XX v5 P w K mg base N y (RA st) f v A outer s H E).nox (gC st) t/\t { nx:=λ_ m=>Q .non m,rt:=Q } (dD N vs) H):FnOk P w K mg base v5 (k+1) f u z b:=by
 let#[p,o,kV,l,n,X,v,r,i,rfl,lk,g]:=F.ex;refine xh lk g S len λA outer s H vs Q E j e=>?_;let#[t,h,q]:=a v A outer s H vs Q E j e;exact#[t,h.nox,q]
theorem Fun.binds(F:Fun K x y st f u)
  (h:∀(kV v a:kb) (b:Option ko) (k ct:kb) (us:LW),us.9=z.9->ew (qr x y (jD st) (gC st) (RA st) .none kV v a b k ct) #[us,[]]=tv (z.zip us)):PJ K u z []:=by
 let#[j,i,kV,v,a,b,k,ct,e,rfl,lk,g]:=F.ex;exact .all (h kV v a b k ct)
theorem Dm{i:kb}{g e:Option ko}{a:Array (Option kb)}{kV v b h ct:kb}(l:K.lookup f=jr #[i,g,.func (qr x y (jD st) (gC st) (RA st) .none kV v b e h ct),a])
  (c:Wq K h y=kf) (k:wO K (.ref f)=kf):Fun K x y st f (qr x y (jD st) (gC st) (RA st) .none kV v b e h ct):=#[#[i,g,kV,v,b,e,h,ct,a,rfl,l,c],k]
end
end
def Same(H h:Hp):Prop:=∀b o,H b=jr o->h b=jr o
theorem Same.refl(H:Hp):Same H H:=λ_ _ h=>h
theorem Same.trans{H y x:Hp}(a:Same H y)(b:Same y x):Same H x:=λc o h=>b c o (a c o h)
theorem Same.free{H x:Hp}(e:Same H x){l:ko}(h:x l=Option.none):H l=Option.none:=by
 cases q:H l with|none=>rfl|some o=>rw[e l o q]at h;cases h
theorem Same.seq{K:QA}{H x:Hp}{a:ko}{xs:LV}(e:Same H x)(h:nC K H a xs):nC K x a xs:=by rcases h with(h|⟨o,h⟩)|h;exact .inl (.inl (e _ _ h));exact .inl (.inr #[o,e _ _ h]);exact .inr h
noncomputable def GO(env:Env):List (Str×fm)->List (Str×ko)->List (Str×ko)
 |[],cs=>cs|(n,k)::r,cs=>GO env r (if k==.free then(n,(env.cells.lookup n).getD 0)::cs else cs)
theorem HX{u:hB}{env:Env}(h:∀y∈u.names,y.2=.free->∃c,env.cells.lookup y.1=jr c):li u env=tv (GO env u.names []):=by
 have key:∀(l:List (Str×fm)) (v:List (Str×ko)),(∀y∈l,y.2=.free->∃c,env.cells.lookup y.1=jr c) ->
   (forIn l v λ(x:Str×fm) (r:List (Str×ko))=>(if(x.2==NameKind.free)=kf then(do let c <- cellOf env x.1;tv (ForInStep.yield ((x.1,c)::r))) else tv (ForInStep.yield r):Sem (ForInStep (List (Str×ko)))))=tv (GO env l v):=by
  intro l;induction l with
  |nil=>intro v _;rfl|cons y l a =>
   intro v hl;let#[n,k]:=y;rw[QAD];by_cases hk:k=.free;subst hk;let#[c,hc]:=hl (n,.free) QD rfl;have hc:env.cells.lookup n=jr c:=hc;simp only[beq_self_eq_true,if_true,cellOf,hc,pure_bind,GO,Wz];exact a _ λz w=>hl z (QE _ w);have hb:(k==NameKind.free)=false:=by simpa using hk
   simp only[hb,Qu,if_false,pure_bind,GO];exact a _ λz w=>hl z (QE _ w)
 have e:=key u.names [] h;unfold li;exact(i3 (· >>= tv) e).trans (pure_bind _ _)
theorem HP{env:Env}{x:Str}{c:ko}:∀(l:List (Str×fm)) (cs:List (Str×ko)),(∀y∈l,y.2=.free->∃c,env.cells.lookup y.1=jr c)->(∀c,cs.lookup x=jr c->env.cells.lookup x=jr c) ->
  (GO env l cs).lookup x=jr c->env.cells.lookup x=jr c
 |[],cs,_,hc,h=>hc c h|(n,k)::r,cs,hl,hc,h=>by
  refine HP r _ (λz a=>hl z (QE _ a)) (λd u=>?_) h;by_cases hk:k=.free;subst hk;let#[e,v]:=hl (n,.free) QD rfl;have v:env.cells.lookup n=jr e:=v;simp only[beq_self_eq_true,if_true,v,Wz,wk]at u;cases w:x==n with|true=>rw[w]at u;cases u;rw[qi w];exact v|false=>rw[w]at u;exact hc d u
  have hb:(k==NameKind.free)=false:=by simpa using hk
  simp only[hb,Qu,if_false]at u;exact hc d u
theorem RN{env:Env}{x:Str}:∀(l:List (Str×fm)) (cs:List (Str×ko)),((∃c,cs.lookup x=jr c)∨(x,NameKind.free)∈l)->∃c,(GO env l cs).lookup x=jr c
 |[],cs,h=>by rcases h with h|h;exact h;cases h
 | (n,k)::r,cs,h=>by
  refine RN r _ ?_;rcases h with⟨c,h⟩| h;refine .inl ?_;split;rw[wk];split;exact#[_,rfl];exact#[c,h];exact#[c,h];rcases QK.mp h with h|h
  ·cases h
   refine .inl ?_;simp
  exact .inr h
noncomputable def VB:List Bool->Nat->LS->LS
 |b::m,j,x::N=>(if b then#[(qG [46,j])] else x)::VB m (j+1) N|_,_,N=>N
noncomputable def VC:List Bool->St->St
 |b::m,v::σ=>(if b then kv else v)::VC m σ|_,σ=>σ
theorem lK:∀(m:List Bool) (σ:St),(VC m σ).9=σ.9
 |[],σ=>by unfold VC;rfl|_::_,[]=>by unfold VC;rfl|b::m,v::σ=>by unfold VC;rw[QM,QM,lK m σ]
theorem DP:∀(m:List Bool) (j:Nat) (N:LS),(VB m j N).9=N.9
 |[],_,N=>by unfold VB;rfl|_::_,_,[]=>by unfold VB;rfl|b::m,j,x::N=>by unfold VB;rw[QM,QM,DP m (j+1) N]
theorem iN:∀(m:List Bool) (j:Nat) (N:LS) (σ:St) (i:Nat) (v:V),(VC m σ)[i]?=jr (jr v)->σ[i]?=jr (jr v)/\(VB m j N)[i]?=N[i]?
 |[],_,N,σ,i,v,h=>by unfold VC at h;unfold VB;exact#[h,rfl]|_::_,_,N,[],i,v,h=>by unfold VC at h;simp at h|b::m,j,[],w::σ,i,v,h=>by
  unfold VC at h;cases i with
  |zero =>
   cases b with|true=>simp at h|false=>simp at h;subst h;exact#[by simp,by unfold VB;rfl]
  |succ i=>have q:=(iN m (j+1) [] σ i v (by simpa using h)).1;exact#[by simpa using q,by unfold VB;rfl]
 |b::m,j,x::N,w::σ,0,v,h=>by
  unfold VC at h;cases b with|true=>simp at h|false=>simp at h;subst h;exact#[by simp,by unfold VB;simp]
 |b::m,j,x::N,w::σ,i+1,v,h=>by unfold VC at h;have q:=iN m (j+1) N σ i v (by simpa using h);unfold VB;exact#[by simpa using q.1,by simpa using q.2]
noncomputable def GM(h sc:hB):hB :=
  { h with names:=h.names.map λ(n,k)=>if(k==.free&&sc.kind==.function&&sc.names.lookup n==jr .cell) then(n,.cell) else(n,k) }
theorem ZC(sc:hB)(x:Str):∀(l:List (Str×fm)),
  (l.map λ(n,k)=>if(k==NameKind.free&&sc.kind==.function&&sc.names.lookup n==jr .cell) then(n,NameKind.cell) else(n,k)).lookup x =
   (l.lookup x).map λk=>if(k==NameKind.free&&sc.kind==.function&&sc.names.lookup x==jr .cell) then NameKind.cell else k
 |[]=>rfl|(n,k)::r=>by
  rw[QX];have e:(if(k==NameKind.free&&sc.kind==.function&&sc.names.lookup n==jr .cell)=kf then(n,NameKind.cell) else(n,k)) =
    (n,if(k==NameKind.free&&sc.kind==.function&&sc.names.lookup n==jr .cell)=kf then NameKind.cell else k):=by split<;>rfl
  show QCW x ((if(k==NameKind.free&&sc.kind==.function&&sc.names.lookup n==jr .cell)=kf then(n,NameKind.cell) else(n,k))::_)=_;rw[e,wk,wk];cases h:x==n with|true=>rw[qi h];simp|false=>exact ZC sc x r
structure CompSt(N:LS)(sc scope:hB)(tgs:LS)(mask:List Bool):Prop where
 kind:scope.kind=.function
 nocell:∀y∈scope.names,y.2≠.cell
 names:∀y∈scope.names,y.2=.local->scope.names.lookup y.1=jr .local
 free:∀y∈scope.names,y.2=.free->sc.names.lookup y.1=jr .cell∨sc.names.lookup y.1=jr .free
 loc:∀y∈scope.names,y.2=.local->y.1∈tgs∨y.1=(".0":Str)
 nd:(tgs++VB mask 0 N).Nodup
 no0:(".0":Str)∉tgs++VB mask 0 N
def SA(X:Cx)(h:hB)(y:LS)(x:List Bool)(s:kt)(H:Hp)(ex:List ko):Cx :=
  { X with N:=y++VB x 0 X.N,s₀:=s,H₀:=H,env:=compEnvC h (GO X.env h.names []) s.1.1.size X.env,outer:=X.stack,stack:=X.stack,ex:=ex,fn:=λ_=>kd,pn:=[],xe:=λ_ _=>False }
def tJ(k:Nat)(h:List Bool)(σ:St):St:=QAa k kv++VC h σ
section
variable{X:Cx}{f:TB}{σ:St}{H:Hp}{s:kt}{w:hB}{d:LS}{a:List Bool}{ex:List ko}
theorem CompSt.cells(C:CompSt X.N X.env.scope w d a)(ok:X.Ok):∀y∈w.names,y.2=.free->∃c,X.env.cells.lookup y.1=jr c:=λy h x =>
 ok.has y.1 (C.free y h x)
theorem CompSt.kindCF(C:CompSt X.N X.env.scope w d a){x:Str}(h:(ln w X.env).names.lookup x=jr .cell∨(ln w X.env).names.lookup x=jr .free):(x,NameKind.free)∈w.names:=by
 have e:=ZC X.env.scope x w.names;have u:(ln w X.env).names.lookup x=(w.names.lookup x).map λk=>if(k==NameKind.free&&X.env.scope.kind==.function&&X.env.scope.names.lookup x==jr .cell) then NameKind.cell else k:=e
 rw[u]at h;cases q:w.names.lookup x with
 |none=>rw[q]at h;simp at h|some k =>
  have y:=qP q;have z:=C.nocell _ y;cases k with|free=>exact y|cell=>exact im rfl z|«local»=>rw[q]at h;simp at h|_=>rw[q]at h;simp at h
theorem UX(I:Inv X f σ H s)(C:CompSt X.N X.env.scope w d a)(n:∀b∈ex,NJ X f H b/\b<s.1.1.size){h':vu}{t':Nat}
  (hn:h'.Ns s.1.1.size (λ_=>kv)) (hs:qY s.1.1.size (s.1.push { cls:=.type "dict",data:=.dict #[] }) h') :
  Inv (SA X w d a s H ex) [] (tJ d.9 a σ) H { s with heap:=h',toks:=t' }:=by
 have kept:∀b u,s.1.get? b=jr u->h'.get? b=jr u:=λb u e=>hs.extBut b u (Qm (QY e)) (QH _ e);have look:∀x c,(GO X.env w.names []).lookup x=jr c->X.env.cells.lookup x=jr c:=λx c e=>HP w.names [] (C.cells I.ok) (λc z=>by simp at z) e;have nofs:∀b∈ex,b∉BZ X.stack:=λb hb z=>by let#[#[_,f1,f2,_],_]:=n b hb;rcases QK.mp (I.stkSub b z) with e|e;exact f1 e;exact f2 e
 refine#[#[I.ok.mod,C.kind,I.ok.glob,I.ok.blt,QT _,λx y c E j=>I.ok.inj x y c (look x c E) (look y c j),λx hx=>?_,λx c hf _=>im (show kd=kf from hf) QG,I.ok.hd,I.ok.frames,.inl rfl,λb hb=>?_,I.bs,QV I.ok.bsz I.sz,λb o e hb=>?_,nofs,I.stack,I.stkFree,I.tb],
  rfl,I.bare,Un.kept kept,#[_,hn,λi x v E j h3=>?_],λx c h=>?_,I.hok.fresh (QT _),λx c h=>I.freeC x c (look x c h),λp hp=>im (show p∈([]:TB) from hp) (by simp),I.hok.kept kept,?_]
 exact RN w.names [] (.inr (C.kindCF hx));let#[#[_,_,_,_,f4,_],lt]:=n b hb;exact#[Qm lt,λx c e=>f4 x c (look x c e)];let#[#[_,_,_,f3,_],_]:=n b hb;rcases f3 with z|z;exact I.ok.noex b o e z;exact im (Qp (QY (I.ok.bs b o e).1) z) (qS _)
 ·
  have hi:d.9<=i:=by rcases QBG i d.9 with z|z;unfold tJ at j;rw[qL (by simpa using z),we]at j;split at j<;>cases j;exact z
  have Z:(VB a 0 X.N)[i - d.9]?=jr x:=by have:(d++VB a 0 X.N)[i]?=jr x:=E;rw[Qy hi]at this;exact this
  have O:(VC a σ)[i - d.9]?=jr (jr v):=by unfold tJ at j;rw[Qy (by simpa using hi)]at j;simpa using j
  let#[g1,g2]:=iN a 0 X.N σ _ v O;rw[g2]at Z;have A:x∈d++VB a 0 X.N:=qN (show(d++VB a 0 X.N)[i]?=jr x from E);have K:x∉d:=λz=>by have nd:=C.nd;rw[qZ]at nd;exact nd.2.2 x z x (qN (by rw[g2];exact Z)) rfl
  have g:(x,NameKind.free)∈w.names:=by
   rcases h3 with z|z|z;exfalso;have e:(ln w X.env).names.lookup x=jr .local:=z;have Q:=ZC X.env.scope x w.names;have P:(ln w X.env).names.lookup x=(w.names.lookup x).map λk=>if(k==NameKind.free&&X.env.scope.kind==.function&&X.env.scope.names.lookup x==jr .cell) then NameKind.cell else k:=Q
   rw[P]at e;cases q:w.names.lookup x with
   |none=>rw[q]at e;cases e|some k =>
    rw[q]at e;have L:=qP q;have G:k=.local:=by
     cases k with|«local»=>rfl|free=>simp at e;split at e<;>cases e|_=>simp at e
    subst G;rcases C.loc _ L rfl with z|z;exact K z;exact C.no0 (z▸A)
   exact C.kindCF (.inl z);exact C.kindCF (.inr z)
  let#[m,hnm,hl]:=I.loc;have F:Ju X.env.scope x:=.inr (C.free _ g rfl);let#[u,r,l]:=hl _ x v Z g1 F;refine#[u,r,?_];rcases l with⟨k,_⟩| ⟨_,c,hc,Y⟩
  exfalso;have S:X.env.scope.names.lookup x=jr .local:=k;rcases C.free _ g rfl with z|z;have W:X.env.scope.names.lookup x=jr .cell:=z;rw[S]at W;cases W;have W:X.env.scope.names.lookup x=jr .free:=z;rw[S]at W;cases W;let#[R,B]:=RN (env:=X.env) w.names [] (.inr g);have:R=c:=by have:=look x R B;rw[hc]at this;exact(Ql this).symm
  subst this;refine .inr #[?_,R,B,?_];rcases h3 with z|z|z
  ·exfalso
   have e:(ln w X.env).names.lookup x=jr .local:=z;have Q:=ZC X.env.scope x w.names;have P:(ln w X.env).names.lookup x=(w.names.lookup x).map λk=>if(k==NameKind.free&&X.env.scope.kind==.function&&X.env.scope.names.lookup x==jr .cell) then NameKind.cell else k:=Q
   rw[P]at e;cases q:w.names.lookup x with
   |none=>rw[q]at e;cases e|some k =>
    rw[q]at e;have L:=qP q;have G:k=.local:=by
     cases k with|«local»=>rfl|free=>simp at e;split at e<;>cases e|_=>simp at e
    subst G;rcases C.loc _ L rfl with z|z;exact K z;exact C.no0 (z▸A)
  exact .inl z;exact .inr z;let#[o,J,M]:=Y;exact#[o,kept _ _ J,M]
 let#[v,o,J,M]:=I.cell x c (look x c h);exact#[v,o,kept _ _ J,M];show(tJ d.9 a σ).9=(d++VB a 0 X.N).9;unfold tJ;rw[QI,QI,qt,lK,DP,I.len]
end
section
variable{X:Cx}{h:TB}{σ a:St}{H k:Hp}{s s':kt}{x:hB}{d:LS}{w:List Bool}{ex:List ko}{D:ko}{y:LV}{its:LW}
theorem BX(I:Inv X h σ H s)(l:∀b∈ex,NJ X h H b/\b<s.1.1.size)(W:D∈ex)(J:Inv (SA X x d w s H ex) [] a k s')(f:k D=kv)(hv:oA y its)(B:y.9<=kn)
  (hl:s'.1.PlainList D its.toArray) {g:vu}(C:qY s.1.1.size s'.1 g):Inv X h σ (CA k D (.lst y)) { s' with heap:=g }:=by
 have un:Un (BZ X.stack) ex H k s.1 s'.heap:=J.base;have j:∀b o,s.1.get? b=jr o->b≠s.1.1.size:=λb o e=>Qm (QY e);have E:=l D W;have Z:k s.1.1.size=none:=J.free;have N:D≠s.1.1.size:=Qm E.2;have m:∀b u,b≠s.1.1.size->s'.1.get? b=jr u->g.get? b=jr u:=λb u A e=>C.extBut b u A e;refine I.call' (s':={ s' with heap:=g }) (ch:=ex) J.os #[λb o e n hb i=>?_,λb o e n hb i=>?_,λb o e n i=>?_,λb o e i=>?_,λb p e=>?_,λb o u e=>?_,λb r e=>?_] ?_ J.bare λb hb=>?_;exact m b o (j b o e) (un.keep b o e n hb i);let#[K,q]:=un.slot b o e n hb i;exact#[K,m b _ (j b o e) q];have q:=un.free b o e n i;rw[uA (λ(z:b=D)=>i (by rw[z];exact W))];exact q;let#[Y,q]:=un.there b o e i;exact#[Y,m b Y (j b o e) q];rw[uA (iA (un.tups b p e) f)];exact un.tups b p e;rw[uA (iA (un.frzs b o u e) f)];exact un.frzs b o u e;rw[uA (iA (un.tbls b r e) f)];exact un.tbls b r e;intro b u e;by_cases hb:b=D;subst hb;rw[YA]at e;cases e;let#[n,q]:=hl;exact#[B,its,n,hv,m _ _ N q];rw[uA hb]at e;refine(J.hok b u e).stay (λc v hc q=>m c v ?_ q) (λc q=>?_) λc p q=>?_;rintro rfl;rcases hc with z|z;subst z;rw[Z]at e;cases e;rw[Z]at z;cases z;rw[uA (iA q f)];exact q;rw[uA (iA q f)];exact q;let#[#[P,M,O,L,G,F],_]:=l b hb;exact#[L,M,G,F]
end
section
variable{X:Cx}{s:kt}{V Z K:Expr}{U:List Expr}{d:hB}{pos:Pos}{B:TI}{g:TG}{tc:TT}{te:TE}{Y:LS}{j:List Bool}{l:TB}
def Du(X:Cx)(U:List Expr)(t:TT):Prop:=∀(l:TB) (s:kt) (h:St) (H:Hp) (Q:Bool->Hp->Prop),Inv X l h H s->t h H Q ->
 ku (k0 X.prog X.w) X.A (forIn U kf λc r=>if r=kf then do let ok <- isTrue c X.env (g7 c X.env);tv (ForInStep.yield ok) else tv (ForInStep.yield r)) (TP X l h Q) X.xe s
theorem EY:Du X [] (λ_ H Q=>Q kf H):=λl s x H Q I h=>by rw[QBY];exact QL #[H,I,h]
theorem AY{c:Expr}{t:TT}(hc:PT X c t):Du X [c] t:=λl s x H Q I h=>by rw[QAD];simp only[if_true];refine QF (QF (GB (hc l s x H Q I h) λb y q=>QL ?_));dsimp only;rw[QBY];exact QL q
theorem nH{prog:k5}{w:xb}{A:x2}{R:Result->kt->Prop}{y:Expr}{it q:kb}{env:Env}(I:Nat->kt->Prop)
  (W:∀n s,I n s->ku (k0 prog w) A (me it) (λr k=>match r with
   |none=>R (.ok .next) k|some v=>ku (k0 prog w) A (dt y it v) (λ_ u=>ku (k0 prog w) A (ef y env v) (λ_ f =>
     ku (k0 prog w) A (forIn U kf λc r=>if r=kf then do let ok <- isTrue c env (g7 c env);tv (ForInStep.yield ok) else tv (ForInStep.yield r)) (λok z =>
      if ok=kf then ku (k0 prog w) A (g7 V env) (λx e =>
       ku (k0 prog w) A (Er (.builtin "list.append") [q,x]) (λ_ b=>∃m,m<n/\I m b) (λ_ _=>False) e) (λ_ _=>False) z
      else ∃m,m<n/\I m z) (λ_ _=>False) f) (λ_ _=>False) u) (λ_ _=>False) k) (λ_ _=>False) s)
  (n:Nat) (h:I n s) :
  mu (k0 prog w) A (.compLoop (.ListComp V [#[y,Z,U,0]] d pos) 0 it q env) R s:=by
 refine codeAny_loop rfl I (λn s G=>?_) n h;show ku _ A ((compTurn (.ListComp V [#[y,Z,U,0]] d pos) 0 it q env).onRaise (λx=>do noteFrame x env;theTreesLotGoes x)) _ _ s;refine wpAny_noted ?_;rw[compTurn_list];refine QF (QBr (QF (qw (W n s G) (λr k o=>?_) λ_ _ a=>a.elim)));cases r with
 |none=>exact QL o|some v =>
  refine QF (qw o (λ_ u p=>?_) λ_ _ a=>a.elim);refine QF (qw p (λ_ f F=>QF (qw F (λok z i=>?_) λ_ _ a=>a.elim)) λ_ _ a=>a.elim);cases ok with|false=>exact QL #[rfl,i]|true=>exact QF (QF (qw i (λx e E=>QF (qw E (λ_ b C=>QL (QL #[rfl,C])) λ_ _ a=>a.elim)) λ_ _ a=>a.elim))
def A5(B:TI)(g:TG)(tc:TT)(te:TE)(k:Nat)(j:List Bool):TE:=λa H Q=>B a H λJ q=>∃W:Nat->Nat->LV->St->Hp->Prop,(∃m,W 0 m [] (tJ k j a) q) /\
 ∀i m h v u,W i m h v u->(J.stop i u/\h.9<=kn/\∀p,u p=kv->Q (.ref p) (CA u p (.lst h))) ∨
  (J.go i u/\∀x f,J.yld i u x f->g x v f λz o=>tc z o λb e=>if b=kf then te z e λy n=>h.9<kn/\∃w,w < m/\W (i+1) w (h++[y]) z n else ∃w,w < m/\W (i+1) w h z e)
def Tu(X:Cx)(l:TB)(H:Hp)(s:kt)(C:ko):Prop :=
 H C=kv/\C≠X.env.locals/\X.s₀.1.1.size<=C/\(∀x c,X.env.cells.lookup x=jr c->c≠C)/\(∀p∈X.pn++l,p.1≠C)/\∃m,s.1.Ns C m
theorem EU{pos':Pos}{use:Option (kb->Sem Unit)}(hc:X.calm=kf)(hi:PI X K Z B)(C:CompSt X.N X.env.scope d Y j)
  (inner:∀s H ex,PG (SA X d Y j s H ex) K g/\Du (SA X d Y j s H ex) U tc/\PE (SA X d Y j s H ex) V te)
  (hs:∀x,hE Z X.env x=tv x) {σ:St}{H:Hp}{Q:VK}{QQ:mC}(I:Inv X l σ H s) (h:A5 B g tc te Y.9 j σ H Q)
  (fin:∀(D:ko) (f:Hp) (s6:kt) (F:ko),Inv X l σ f s6->Tu X l f s6 F->Q (.ref D) f->compPost (k0 X.prog X.w) X.A X.xe use QQ (.ref D) F (.ok .next) s6) :
  ku (k0 X.prog X.w) X.A (pu (.ListComp V [#[K,Z,U,0]] d pos) d X.env pos' (newList []) kd (g7 Z X.env) use) QQ X.xe s:=by
 refine wpAny_comprehension_free (use:=use) rfl hs (HX (C.cells I.ok)) C.kind C.names (GB (hi l s σ H _ I h) λv s1 h1=>GB h1 λitv s2 h2=>?_);let#[it,a,tn,J,E,e,I2,T,st2,f2,W,#[m0,w0],turn]:=h2;subst e;refine qM ?_;have I3:Inv X l σ E { s2 with heap:=s2.1.push { cls:=.type "list",data:=.seq ([]:LW).toArray } }:=I2.kept (t':=s2.toks) λb o e=>QH _ e;generalize hS:({ s2 with heap:=s2.1.push { cls:=.type "list",data:=.seq ([]:LW).toArray } }:kt)=s3 at I3;have sz3:s3.1.1.size=s2.1.1.size+1:=by rw[<- hS];exact WF ..
 have lst3:s3.1.PlainList s2.1.1.size ([]:LW).toArray:=#[0,by rw[<- hS];exact QS _ rfl]
 have old3:∀b o,s2.1.get? b=jr o->s3.1.get? b=jr o:=λb o e=>by rw[<- hS];exact QH _ e
 generalize hDd:s2.1.1.size=D at sz3 lst3;have fD:NJ X l E D:=by rw[<- hDd];exact I2.fpOk (QT _) (I2.hok.fresh (QT _))
 have fpl:∀b∈a,b<D:=λb hb=>by let#[o,e,_]:=T.obj _ _ st2 b hb;rw[<- hDd];exact QY e
 have hex:∀b∈D::a,NJ X l E b/\b<s3.1.1.size:=λb hb=>by rcases QK.mp hb with z|z;subst z;exact#[fD,by rw[sz3];exact QCM _];exact#[f2 b z,by rw[sz3];exact WC (fpl b z)]
 refine QBS C.nocell (by intro y hy;simp at hy) (λh' hn hsb=>?_) C.kind;have J0:Inv (SA X d Y j s3 E (D::a)) [] (tJ Y.9 j σ) E { s3 with heap:=h',toks:=s3.toks+([]:List (Str×kb)).9 }:=UX I3 C hex hn hsb;have kept:∀b u,s3.1.get? b=jr u->h'.get? b=jr u:=λb u e=>hsb.extBut b u (Qm (QY e)) (QH _ e);let#[pg,pf,pl]:=inner s3 E (D::a);have loop:∀s4:kt,s4={ s3 with heap:=h',toks:=s3.toks+([]:List (Str×kb)).9 } ->
   mu (k0 X.prog X.w) X.A (.compLoop (.ListComp V [#[K,Z,U,0]] d pos) 0 (.ref it) (.ref D) (compEnvC d (GO X.env d.names []) s3.1.1.size X.env))
    (compPost (k0 X.prog X.w) X.A X.xe use QQ (.ref D) s3.1.1.size) s4:=by
  rintro s4 rfl;have exok:∀{f:Hp},(∀b∈D::a,f b=kv)->∀(pp:TB),(∀p∈pp,p.1∉a)->∀b∈a,NJ (SA X d Y j s3 E (D::a)) pp f b:=λ{f} hn pp hpp b hb=>by have g:=J0.ok.exf b (QE _ hb);exact#[hn b (QE _ hb),g.1,J0.ok.exfs b (QE _ hb),.inl (QE _ hb),g.2,λp G z=>hpp p (by simpa[SA]using G) (z▸hb)]
  have DX:=J0.ok.exf D QD;have Dfp:D∉a:=λz=>qS _ (fpl D z);refine nH (λn M=>∃i m f L k,Inv (SA X d Y j s3 E (D::a)) [] m f M/\tn i M.1/\(∀b∈D::a,f b=kv)/\oA L k/\M.1.PlainList D k.toArray/\W i n L m f) ?_ m0
   #[0,_,E,[],[],J0,T.keep _ _ _ (T.keep _ _ _ st2 λb hb o e=>old3 b o e) λb hb o e=>kept b o e,λb hb=>((hex b hb).1).1,.nil,lst3.at λo e=>kept _ _ e,w0]
  rintro n s5 ⟨i,P,H5,L,k,I5,st5,fr5,va5,ls5,w5⟩;let#[R,lo]:=id ls5;have pinD:∀{m:St}{f:Hp}{M:kt},Inv (SA X d Y j s3 E (D::a)) [] m f M->(∀b∈D::a,f b=kv)->M.1.get? D=jr { cls:=.type "list",dict:=kv,data:=.seq k.toArray R } ->
    Inv (SA X d Y j s3 E (D::a)) [(D,{ cls:=.type "list",dict:=kv,data:=.seq k.toArray R })] m f M:=λ{m f M} I' fr' e' =>
   I'.pins_of λp G=>by
    have e:p=(D,{ cls:=.type "list",dict:=kv,data:=.seq k.toArray R }):=by simpa using G
    subst e;exact#[e',fr' D QD,DX.1,J0.ok.exfs D QD,λv z=>by cases z]
  have S:∀p∈[(D,({ cls:=.type "list",dict:=kv,data:=.seq k.toArray R }:Obj))],p.1∉a:=λp G=>by
   have e:p=(D,{ cls:=.type "list",dict:=kv,data:=.seq k.toArray R }):=by simpa using G
   subst e;exact Dfp
  have I5':=pinD I5 fr5 lo;rcases turn i n L P H5 w5 with⟨stop,hz,qn⟩| ⟨go,step⟩
  refine GB (T.done (SA X d Y j s3 E (D::a)) rfl rfl rfl hc i _ s5 P H5 (λ_ _=>False) I5' (exok fr5 _ S) st5 stop) λr s6 #[hr,I6]=>?_;subst hr;let#[m6,hn6,_]:=I6.loc;have l6:s6.1.PlainList D k.toArray:=#[R,(I6.pin _ (QU _ (QJ.mpr rfl))).1]
  have I6':Inv (SA X d Y j s3 E (D::a)) [] P H5 s6:=I6.pins_of λp G=>by simp at G
  have Iout:Inv X l σ (CA H5 D (.lst L)) s6:=BX I3 hex QD I6' (fr5 D QD) va5 hz l6 (qY.refl _ _);have lC:H5 s3.1.1.size=none:=I6'.free;refine fin D _ s6 s3.1.1.size Iout #[?_,wv I3.lt,I3.sz,λx c e z=>?_,λp G z=>?_,m6,hn6] (qn D (fr5 D QD));rw[uA (λ(z:s3.1.1.size=D)=>im (hex D QD).2 (by rw[z];exact qS _))];exact lC;let#[v,q]:=I3.cell x c e;exact im q.lt (by rw[z];exact qS _);exact im (QY (I3.pin p G).1) (by rw[z];exact qS _);refine GB (T.item (SA X d Y j s3 E (D::a)) rfl rfl rfl hc i _ s5 P H5 (λ_ _=>False) I5' (exok fr5 _ S) st5 go) λr s6 #[u,hr,h6]=>?_;subst hr;refine GB h6 λ_ s7 #[x,H7,I7,r7,y7,st7,fr7]=>?_;have hD7:=(I7.pin _ (QU _ (QJ.mpr rfl)))
  have fr7':∀b∈D::a,H7 b=none:=λb hb=>by rcases QK.mp hb with z|z;subst z;exact hD7.2.1;exact fr7 b z
  have I7':=I7.pinned (exok fr7' _ S) (T.obj _ _ st7);have bk:∀{m:St}{f:Hp}{M:kt},Inv (SA X d Y j s3 E (D::a)) ([(D,{ cls:=.type "list",dict:=kv,data:=.seq k.toArray R })]++xN a s7.1) m f M ->
    M.1.get? D=jr { cls:=.type "list",dict:=kv,data:=.seq k.toArray R }/\tn (i+1) M.1/\(∀b∈D::a,f b=kv):=λ{m f M} I'=>by
   have hD:=I'.pin (D,{ cls:=.type "list",dict:=kv,data:=.seq k.toArray R }) (QU _ (Qn _ (QJ.mpr rfl)));refine#[hD.1,T.keep _ _ _ st7 λb hb o e=>(I'.pin (b,o) (QU _ (QU _ (yF hb e)))).1,λb hb=>?_];rcases QK.mp hb with z|z;subst z;exact hD.2.1;let#[o,e,_]:=T.obj _ _ st7 b z;exact(I'.pin (b,o) (QU _ (QU _ (yF z e)))).2.1
  refine GB (pg _ s7 P H7 x u _ I7' r7 (step x H7 y7)) λ_ s8 #[O,H8,I8,q8]=>?_;refine GB (pf _ s8 O H8 _ I8 q8) λok s9 #[H9,I9,q9]=>?_;cases ok with
  |false=>let#[m',hm,w']:=q9;let#[b1,b2,b3]:=bk I9;exact#[m',hm,i+1,O,H9,L,k,I9.pins_of λp G=>by simp at G,b2,b3,va5,#[R,b1],w']|true =>
   refine GB (pl _ s9 O H9 _ I9 q9) λy s10 #[yv,H10,I10,r10,hz,m',hm,w']=>?_;let#[b1,b2,b3]:=bk I10;have hlen:=va5.9;refine wpAny_list_append_plain (hsz:=by rw[QN];omega) (show s10.1.PlainList D k.toArray from#[R,b1]) λh11 hl11 hs11=>?_;refine#[m',hm,i+1,O,H10,L++[yv],k++[y],?_,T.keep _ _ _ b2 λb hb o e=>(hs11.2 b (λz=>Dfp (z▸hb))).trans e,b3,va5.append (.cons r10 .nil),by simpa using hl11,w'];have I10':Inv (SA X d Y j s3 E (D::a)) [] O H10 s10:=I10.pins_of λp G=>by simp at G
   exact I10'.turned (t':=s10.toks) (λb o hb e=>(hs11.2 b hb).trans e) (b3 D QD) DX.1 (.inl QD) DX.2 λp G=>by simp[SA]at G
 refine codeAny_compStart_list (loop _ rfl) (T.self X.A 0 _ _ _ (T.keep _ _ _ (T.keep _ _ _ st2 λb hb o e=>old3 b o e) λb hb o e=>kept b o e) (loop _ rfl))
theorem DN{σ:St}{H:Hp}{F:ko}(I:Inv X l σ H s)(f:Tu X l H s F){h':vu}(h:qY F s.1 h'):Inv X l σ H { s with heap:=h' }:=by let#[v,u,z,y,x,_]:=f;exact I.turned (t':=s.toks) (λb o hb e=>(h.2 b hb).trans e) v u (.inr z) y x
theorem Sc(hc:X.calm=kf)(w:PI X K Z B)(C:CompSt X.N X.env.scope d Y j)
  (y:∀s H ex,PG (SA X d Y j s H ex) K g/\Du (SA X d Y j s H ex) U tc/\PE (SA X d Y j s H ex) V te)
  (u:∀x,hE Z X.env x=tv x:=by intro _;rfl):PE X (.ListComp V [#[K,Z,U,0]] d pos) (A5 B g tc te Y.9 j):=by
 intro l s b H Q I h;rw[eval_ListComp];refine EU hc w C y u I h λD a e F k f q=>?_;let#[m,v]:=f.2.2.2.2.2;exact#[m,v,λi z=>#[.ref D,a,DN k f z,rfl,q]]
theorem Bc{cpos u:Pos}{i:Nat}{x:Str}(hc:X.calm=kf)(S:X.N.Nodup)(n:X.N[i]?=jr x)(p:X.env.scope.names.lookup x=jr .local)
  (Q:PI X K Z B) (C:CompSt X.N X.env.scope d Y j)
  (y:∀s H ex,PG (SA X d Y j s H ex) K g/\Du (SA X d Y j s H ex) U tc/\PE (SA X d Y j s H ex) V te)
  (M:∀x,hE Z X.env x=tv x) (k:lb (.ListComp V [#[K,Z,U,0]] d cpos) (jr (.Name x u)) pos.line X.env=tv kf) :
  PS X (.Assign [.Name x u] (.ListComp V [#[K,Z,U,0]] d cpos) pos) (mj (A5 B g tc te Y.9 j) (VZ i)):=by
 intro l s σ H D0 I h;rw[exec_Assign_Name_used _ _ _ _ k];refine QF (QBr (QF ?_));show ku _ X.A (do let _ <- pu (.ListComp V [#[K,Z,U,0]] d cpos) d X.env _ (newList []) kd (g7 Z X.env) (jr (ef (.Name x u) X.env))) _ _ s;refine QF (qw (EU (use:=jr (ef (.Name x u) X.env)) (QQ:=λ_ o=>SP X l D0 .next o) hc Q C y M I h λD H' J F I6 f q=>?_) (λ_ o O=>QL (QL O)) λ_ _ e=>e);show ku _ X.A (ef (.Name x u) X.env (.ref D)) _ _ J;refine QB1 (bP I6 S n (.inl p) (v:=.ref D) rfl (λG I7 #[a,E,R]=>?_) (.inr p));let#[f0,W,f2,r,f4,m,P]:=f;have L:F≠a:=by rcases R with z|z;rw[z];exact W;exact λe=>r x a z e.symm
 have w:G.1.Ns F m:=P.sameBut E L;exact#[m,w,λh' b=>#[_,H',DN I7 #[f0,W,f2,r,f4,m,w] b,q]]
end
end L2
namespace L2.L3
open PySem PySem.Spec PyProof.Rows
def Mq(K:QA):R2:=λx y H Q=>match x,y with
 | .int i,.int j=>Q (.int (i+j)) H|.str a,.str b=>a.9+b.9<=kn/\Q (.str (a++b)) H|.ref a,.ref b=>∃z h,nC K H a z/\nC K H b h/\z.9+h.9<=kn/\∀p,H p=kv->Q (.ref p) (CA H p (.lst (z++h)))|_,_=>False
noncomputable def Vq:R2:=λx y H Q=>match x,y with
 | .int i,.int j=>Q (.int (i - j)) H|_,_=>False
noncomputable def Bq(K:QA):R2:=λx y H Q=>match x,y with
 | .int i,.int j=>l0 i j/\Q (.int (i * j)) H|_,_=>False
noncomputable def og:R2:=λx y H Q=>match x,y with
 | .int i,.int j=>(0<j/\j<2 ^ 200)/\Q (.int (i / j)) H|_,_=>False
noncomputable def Cq:R2:=λx y H Q=>match x,y with
 | .int i,.int j=>0<j/\Q (.int (i % j)) H|_,_=>False
section
variable{X:Cx}
theorem op_add:ME X (fy .Add) (Mq X.K):=by
 intro w s n H x y v u Q I g f h;cases x with
 |int i =>
  cases y with|int j=>exact _root_.L2.op_add w s n H _ _ v u Q I g f #[i,j,rfl,rfl,h]|_=>exact Qd h
 |str a =>
  cases y with|str b=>exact KW w s n H _ _ v u Q I g f #[a,b,rfl,rfl,h.1,h.2]|_=>exact Qd h
 |ref a =>
  cases y with
  |ref b =>
   let#[xs,ys,N,M,hz,q]:=h;cases g;cases f;let#[k,r,#[#[S,R,A,G],L,W,E,d1,p],z1]:=I.list N;let#[z,Y,#[#[B,l,m,e],J,Z,C,d2,o],z2]:=I.list M;simp only at E p C o;subst E p C o;have hl:=r.9;have O:=Y.9;refine concat_meets #[_,W,rfl] #[_,Z,rfl] noFill_list_add seq_list_add PySem.F.slot_list_add PySem.F.entry_list_add (PySem.F.args_list_add_2 _ _) (list_addW a b k.toArray z.toArray L J R l G e (by simp;omega)) #[W,Z,?_];have P:k.toArray++z.toArray=(k++z).toArray:=by simp
   rw[P];exact#[.ref _,_,I.lnew (t':=s.toks) (r.append Y) (by rw[QI];omega),rfl,q _ I.fresh]
  |_=>exact Qd h
 |_=>exact Qd h
theorem op_sub:ME X (fy .Sub) Vq:=by
 intro z s w H x y v u Q I a k h;cases x with
 |int i =>
  cases y with|int j=>exact _root_.L2.op_sub z s w H _ _ v u Q I a k #[i,j,rfl,rfl,h]|_=>exact Qd h
 |_=>exact Qd h
theorem zd:ME X (fy .FloorDiv) og:=by
 intro z s a H x y v u Q I k w h;cases x with
 |int i =>
  cases y with
  |int j =>
   let#[t,rfl]:=k;let#[b,rfl]:=w;let#[#[f,e],q]:=h;refine floordiv_int () ?_ (.inl (PyProof.noPylong_of_log2 ?_));rw[Int.fdiv_eq_ediv_of_nonneg i ()];exact#[.int _,H,I.tok _,#[_,rfl],q];have:j.natAbs<2 ^ 200:=()
   have:=(Nat.log2_lt (show j.natAbs≠0 by omega)).mpr this;omega
  |_=>exact Qd h
 |_=>exact Qd h
theorem op_mod:ME X (fy .Mod) Cq:=by
 intro z s w H x y v u Q I a k h;cases x with
 |int i =>
  cases y with|int j=>exact _root_.L2.op_mod z s w H _ _ v u Q I a k #[i,j,rfl,rfl,h.1,h.2]|_=>exact Qd h
 |_=>exact Qd h
theorem pk:ME X (fy .Mult) (Bq X.K):=by
 intro z s a H x y v u Q I k w h;cases x with
 |int i =>
  cases y with|int j=>let#[t,rfl]:=k;let#[b,rfl]:=w;exact mul_int #[.int _,H,I.tok _,#[_,rfl],h.2] h.1|_=>exact Qd h
 |_=>exact Qd h
end
end L2.L3
namespace L2
open PySem PySem.Spec PyProof.Rows
section
variable{x:Type}[DecidableEq x]
section
variable{p:x×V}{r kvs:List (x×V)}{vs:List (x×kb)}{u:kb}
noncomputable def pM(kvs:List (x×V))(k:x):Option V:=(kvs.find? λh=>decide (h.1=k)).map (·.2)
noncomputable def eW(kvs:List (x×V))(k:x)(v:V):List (x×V) :=
 if(kvs.any λh=>decide (h.1=k))=kf then kvs.map (λh=>if h.1=k then(h.1,v) else h) else kvs++[(k,v)]
theorem mM{k:x}(e:p.1=k):pM (p::r) k=jr p.2:=by simp[pM,wJ,e]
theorem oM{k:x}(e:¬ p.1=k):pM (p::r) k=pM r k:=by simp[pM,wJ,e]
theorem ES(k:x):∀kvs:List (x×V),(kvs.any λh=>decide (h.1=k))=(pM kvs k).isSome
 |[]=>rfl|p::r=>by rw[WB];by_cases e:p.1=k;simp only[mM e,dT e,QCF,Option.isSome_some];rw[oM e,dF e,QAs];exact ES k r
theorem sU(kvs:List (x×V))(k:x)(v:V):(eW kvs k v).9<=kvs.9+1:=by unfold eW;split;rw[QC];omega;rw[QI,QM,wV];omega
theorem mY.isSome_eq{o:Option V}{u:Option kb}(r:mY o u):o.isSome=u.isSome:=by
 cases o with
 |none=>cases u with|none=>rfl|some _=>exact(show False from r).elim
 |some _=>cases u with|none=>exact(show False from r).elim|some _=>rfl
theorem KV.val(r:KV kvs vs)(k:x):mY (pM kvs k) (lp vs k):=by
 unfold KV at r;induction r with
 |nil=>exact True.intro|@cons p q g y h t a =>
  let#[w,f]:=h;by_cases e:p.1=k;have v:q.1=k:=w.symm.trans e;have b:lp (q::y) k=jr q.2:=by simp[lp,wJ,v]
  rw[mM e,b];exact f;have v:¬ q.1=k:=λz=>e (w.trans z);have b:lp (q::y) k=lp y k:=by simp[lp,wJ,v]
  rw[oM e,b];exact a
theorem KV.any(r:KV kvs vs)(k:x):(kvs.any λy=>decide (y.1=k))=vs.any λy=>decide (y.1=k):=by
 unfold KV at r;induction r with|nil=>rfl|cons h t z=>rw[WB,WB,z,h.1]
theorem KV.repl(r:KV kvs vs)(k:x){y:V}(a:JA y u) :
  KV (kvs.map λv=>if v.1=k then(v.1,y) else v) (vs.map λv=>if v.1=k then(v.1,u) else v):=by
 unfold KV at r ⊢;induction r with|nil=>exact .nil|@cons p q i g h t b=>rw[QX,QX];refine .cons ?_ b;let#[w,f]:=h;by_cases e:p.1=k;rw[a9 e,a9 (w.symm.trans e)];exact#[w,a];rw[a8 e,a8 (λz=>e (w.trans z))];exact#[w,f]
theorem KV.put(r:KV kvs vs)(k:x){y:V}(h:JA y u):KV (eW kvs k y) (stored vs k u):=by unfold eW stored;rw[r.any k];by_cases e:(vs.any λz=>decide (z.1=k))=kf;rw[a9 e,a9 e];exact r.repl k h;rw[a8 e,a8 e];exact Paired.snoc r #[rfl,h]
theorem KV.length(r:KV kvs vs):kvs.9=vs.length:=qI r
end
end
theorem XN{P:k5}{w:xb}{k:Key}{u:kb}(r:JA (kV k) u):(ND P w).is k u=true:=by
 cases k with|inl i=>let#[t,e]:=(show ∃t,u=Value.int i t from r);subst e;exact gU P w i t|inr x=>let#[t,e]:=(show ∃t,u=Value.str x t from r);subst e;exact fU P w x t
end L2
namespace L2.L3
open PySem PySem.Spec PyProof.Rows
section
variable{r kvs:List KE}{xs:List (NK×ko×kb)}
noncomputable abbrev KE:=NK×ko×V
noncomputable def dH(kvs:List KE)(k:NK):Option V:=(kvs.find? λp=>decide (p.1=k)).map (·.2.2)
def LM(kvs:List KE)(k:NK)(b:ko)(v:V):List KE :=
 if(dH kvs k).isSome=kf then kvs.map (λp=>if p.1=k then(p.1,p.2.1,v) else p) else kvs++[(k,b,v)]
noncomputable abbrev KD:List KE->List (NK×ko×kb)->Prop:=x0 λ(p:NK×ko×V) (q:NK×ko×kb)=>p.1=q.1/\p.2.1=q.2.1/\JA p.2.2 q.2.2
theorem IS{p:KE}{k:NK}(e:p.1=k):dH (p::r) k=jr p.2.2:=by simp[dH,wJ,e]
theorem jT{p:KE}{k:NK}(e:¬ p.1=k):dH (p::r) k=dH r k:=by simp[dH,wJ,e]
theorem KD.val(r:KD kvs xs)(k:NK):mY (dH kvs k) ((eH xs k).map (·.2)):=by
 induction r with
 |nil=>exact True.intro|@cons p q a x h t v =>
  let#[u,_,w]:=h;by_cases e:p.1=k;have y:q.1=k:=u.symm.trans e;have b:eH (q::x) k=jr q.2:=by simp[eH,wJ,y]
  rw[IS e,b];exact w;have y:¬ q.1=k:=λz=>e (u.trans z);have b:eH (q::x) k=eH x k:=by simp[eH,wJ,y]
  rw[jT e,b];exact v
theorem KD.put(r:KD kvs xs)(k:NK)(b:ko){y:V}{u:kb}(v:JA y u):KD (LM kvs k b y) (ri xs k b u):=by
 have e:(dH kvs k).isSome=(eH xs k).isSome:=by rw[(r.val k).isSome_eq,QAl]
 unfold LM ri;rw[e];by_cases q:(eH xs k).isSome=kf;rw[a9 q,a9 q];clear e q;induction r with|nil=>exact .nil|@cons p q i g h t a=>rw[QX,QX];refine .cons ?_ a;let#[x,w,f]:=h;unfold putAt;by_cases e:p.1=k;rw[a9 e,a9 (x.symm.trans e)];exact#[x,w,v];rw[a8 e,a8 (λz=>e (x.trans z))];exact#[x,w,f]
 rw[a8 q,a8 q];exact Paired.snoc r #[rfl,rfl,v]
theorem tU(kvs:List KE)(k:NK)(b:ko)(v:V):(LM kvs k b v).9<=kvs.9+1:=by unfold LM;split;rw[QC];omega;rw[QI,QM,wV];omega
end
mutual
def ao(K:QA)(H:Hp):NK->V->Prop
 | .s x,v=>v=.str x|.t ks,v=>∃a h,v=.ref a/\ED K H a h/\KyVs K H ks h
def KyVs(K:QA)(H:Hp):List NK->LV->Prop
 |[],xs=>xs=[]|k::ks,xs=>∃x r,xs=x::r/\ao K H k x/\KyVs K H ks r
end
def yP(K:QA)(H:Hp)(b:ko)(k:NK):Prop:=ao K H k (.ref b)/\t8 k<=6
theorem kJ{P:k5}{w:xb}{A:x2}(h:A.units+60<gp):(EE P w).room A.in1:=by show A.in1.units+8<gp;rw[QA1];omega
def CG(K:QA)(H:Hp)(kvs:List KE):Prop:=∀p∈kvs,yP K H p.2.1 p.1
theorem Inv.big{X:Cx}{x:TB}{σ:St}{H:Hp}{s:kt}(I:Inv X x σ H s):zl<s.1.1.size:=by have h:k4<s.1.1.size:=(I.mod.glob.keeps I.bk).lt;exact wz (by decide) h
section
variable{X:Cx}{y:TB}{σ:St}{H:Hp}{s:kt}{a b:ko}
mutual
theorem Ks(I:Inv X y σ H s):∀{k:NK}{x:V}{u:kb},ao X.K H k x->JA x u->E4 s.1 k u
 | .s z,x,u,e,r=>by cases(show x=.str z from e);exact r|.t ks,x,u,#[a,xs,e,q,p],r=>by subst e;cases r;let#[h,v,#[o,g,f,n,w],_]:=I.tuple q;exact#[a,h.toArray,rfl,#[o,g,f,n,w],by simpa using ky_vs I p v]
theorem ky_vs(I:Inv X y σ H s):∀{ks:List NK}{xs:LV}{us:LW},KyVs X.K H ks xs->oA xs us->NKvs s.1 ks us
 |[],xs,us,e,r=>by cases(show xs=[] from e);cases r;rfl|k::ks,xs,us,#[x,r,e,p,q],rv=>by
  subst e;cases rv with|cons h t=>exact#[_,_,rfl,Ks I p h,ky_vs I q t]
end
theorem YU{k:NK}(I:Inv X pins σ H s)(h:yP X.K H b k):(EE X.prog X.w).is s.1 k b:=#[Ks I h.1 rfl,h.2]
theorem rL{ep:Nat}{kvs:List KE}(I:Inv X pins σ H s)(e:H a=jr (.dT ep kvs))(hk:CG X.K H kvs):kvs.9<=kn/\(a==zl)=kd/\∃xs,KD kvs xs/\s.1.DictOfH (EE X.prog X.w) a xs:=by
 let#[z,y,xs,r,o,l,j,i,g,k,v]:=(show uB X.prog X.w H s.1 a (.dT ep kvs) from I.hok a _ e)
 refine#[z,y,xs,r,o,l,ep,j,i,g,k,?_,v];clear k v z e;induction r with
 |nil=>intro x h;exact nomatch h
 |@cons p q n m u t b=>intro x h;rcases QK.mp h with e|h;subst e;rw[<- u.1,<- u.2.1];exact YU I (hk p QD);exact b (λp f=>hk p (QE _ f)) x h
theorem SU{kvs:List (Key×V)}(I:Inv X pins σ H s)(e:H a=jr (.dK kvs)):kvs.9<=kn/\(a==zl)=kd/\∃vs,KV kvs vs/\s.1.DictOf (ND X.prog X.w) a vs :=
 show uB X.prog X.w H s.1 a (.dK kvs) from I.hok a _ e
end
theorem R9{X:Cx}{h:TB}{σ:St}{H:Hp}{s:kt}{a:ko}{ep:Nat}(I:Inv X h σ H s)(e:H a=jr (.dT ep [])):(a==zl)=kd/\s.1.DictOf (ND X.prog X.w) a []:=by
 let#[z,y,g,r,o,f,b,k,v,u,i]:=(show uB X.prog X.w H s.1 a (.dT ep []) from I.hok a _ e)
 cases r;have x:f=#[]:=by apply WH.mp;simpa using u
 subst x;exact#[y,o,#[],ep,b,k,v,λe x=>by simp at x,.nil,Qq]
def kD:Key->y1
 | .inl i=>.int i|.inr x=>.str x
mutual
def tD:NK->y1
 | .s x=>.str x|.t h=>.tuple (tDs h)
def tDs:List NK->List y1
 |[]=>[]|k::ks=>tD k::tDs ks
end
theorem x9{a b:Key}(e:kD a=kD b):a=b:=by
 cases a with
 |inl i=>cases b with|inl j=>injection e with e;rw[e]|inr y=>exact nomatch (show j1 i=j0 y from e)
 |inr x=>cases b with
  |inl j=>exact nomatch (show j0 x=j1 j from e)
  |inr y=>injection e with e;rw[e]
mutual
theorem bW:∀{a b:NK},tD a=tD b->a=b
 | .s x,.s y,e=>by rw[PyData.str.inj e]|.s x,.t l,e=>QBu e|.t k,.s y,e=>QBu e|.t k,.t l,e=>by rw[tDs_inj (PyData.tuple.inj e)]
theorem tDs_inj:∀{a b:List NK},tDs a=tDs b->a=b
 |[],[],_=>rfl|[],_::_,e=>(nomatch e)
 |_::_,[],e=>(nomatch e)
 |x::xs,y::ys,e=>by have e:tD x::tDs xs=tD y::tDs ys:=e;injection e with e1 e2;rw[bW e1,tDs_inj e2]
end
def OJ(K:QA)(H:Hp)(b:Bool)(o:HO)(ks:List y1)(vs:LV):Prop:=match b with
 |true=>∃x,∃h:List KE,o=.dT x h/\ks=h.map (λp=>tD p.1)/\vs=h.map (·.2.2)/\CG K H h/\(h.map (·.1)).Nodup|false=>(∃h:List (Key×V),h≠[]/\o=.dK h/\ks=h.map (λp=>kD p.1)/\vs=h.map (·.2)/\(h.map (·.1)).Nodup)∨∃x,o=.dT x []/\ks=[]/\vs=[]
theorem OJ.len{K:QA}{H:Hp}{b:Bool}{o:HO}{ks:List y1}{vs:LV}(h:OJ K H b o ks vs):ks.9=vs.length:=by
 cases b with|true=>let#[y,x,_,rfl,rfl,_]:=h;simp|false=>rcases h with⟨x,_,_,rfl,rfl,_⟩| ⟨_,_,rfl,rfl⟩<;>simp
def US(K:QA)(H:Hp)(a:ko)(y:V)(r:Option V):Prop:=match y with
 | .str z=>(∃h,H a=jr (.dK h)/\r=pM h (.inr z))∨∃x,H a=jr (.dT x [])/\r=kv|.ref b=>∃x h k,H a=jr (.dT x h)/\CG K H h/\yP K H b k/\r=dH h k|_=>False
def Co(K:QA)(H:Hp)(a:ko)(y v:V)(Q:Hp->Prop):Prop:=match y with
 | .str z=>(∃h,H a=jr (.dK h)/\h.9<kn/\Q (CA H a (.dK (eW h (.inr z) v))))∨∃u,H a=jr (.dT u [])/\Q (CA H a (.dK [(.inr z,v)]))|.ref b=>∃u h k,H a=jr (.dT u h)/\CG K H h/\yP K H b k/\h.9<kn/\∀x,Q (CA H a (.dT x (LM h k b v)))|_=>False
theorem oP{v:V}{o:Option kb}(r:mY (jr v) o):∃w,o=jr w/\JA v w:=by
 cases o with|none=>exact(show False from r).elim|some w=>exact#[w,rfl,r]
section
variable{X:Cx}
section
variable{c:TB}{s:kt}{σ:St}{H:Hp}{a:ko}{u:kb}{o:Option V}{h':vu}{pos:Pos}
theorem Ue(P:X.A.units+66<gp):Aa X (λx y H Q=>∃a v,x=.ref a/\US X.K H a y (jr v)/\Q v H):=by
 intro n Y c s σ H x y v u Q I J C h E;let#[a,r,rfl,g,q]:=h;cases J;cases y with
 |str z =>
  rcases g with⟨W,e,l⟩| ⟨N,e,l⟩
  rotate_left
  cases l;let#[_,M,G,f,m]:=SU I e;let#[i,B,w]:=oP (v:=r) (o:=lp G (.inr z)) (by rw[l];exact f.val _);exact qh (x:=i) m.typeIs QAb.lookup
   (wpAny_getItem_of (Q:=λr Z=>r=i/\EP X c σ Q r Z) (XN (k:=.inr z) C) m.mapOf B #[rfl,r,H,I.tok _,w,q]) E
 |ref b =>
  let#[N,W,k,e,hk,O,l]:=g;cases C;let#[_,M,F,f,m]:=rL I e hk;let#[i,B,w]:=oP (v:=r) (o:=(eH F k).map (·.2)) (by rw[l];exact f.val _);let#[p,L,j]:=Option.map_eq_some_iff.mp B;refine qh (x:=i) m.typeIs QAb.lookup
   (wpAny_getItem_heap (Q:=λr Z=>r=i/\EP X c σ Q r Z) (kJ ()) (YU I O) m L ?_) E
  exact#[j,r,H,I.tok _,by rw[j];exact w,q]
 |_=>exact Qd g
theorem Fe(r:X.A.units+66<gp){y:V}{Q:VK}(I:Inv X c σ H s)(f:JA y u)(g:US X.K H a y o)(q:Q (.bl o.isSome) H) :
  ku (k0 X.prog X.w) X.A (vx .In u (.ref a)) (EP X c σ Q) X.xe s:=by
 cases y with
 |str z =>
  rcases g with⟨i,e,l⟩| ⟨j,e,l⟩
  rotate_left
  subst l;let#[x,v]:=R9 I e;exact wpAny_in_of (XN (k:=.inr z) f) x v.mapOf #[.bl kd,H,I.tok _,rfl,q];let#[_,x,p,h,v]:=SU I e;refine wpAny_in_of (XN (k:=.inr z) f) x v.mapOf #[.bl o.isSome,H,I.tok _,?_,q];rw[<- (h.val (.inr z)).isSome_eq,<- l];rfl
 |ref b=>let#[j,i,k,e,hk,m,l]:=g;cases f;let#[_,x,n,h,v]:=rL I e hk;refine wpAny_in_heap (kJ ()) (YU I m) x v #[.bl o.isSome,H,I.tok _,?_,q];have q:=(h.val k).isSome_eq;rw[QAl]at q;rw[<- q,<- l];rfl|_=>exact Qd g
theorem HW(r:X.A.units+66<gp){y:V}{Q:VK}(I:Inv X c σ H s)(f:JA y u)(g:US X.K H a y o)(q:Q (.bl (!o.isSome)) H) :
  ku (k0 X.prog X.w) X.A (vx .NotIn u (.ref a)) (EP X c σ Q) X.xe s:=by
 cases y with
 |str z =>
  rcases g with⟨i,e,l⟩| ⟨j,e,l⟩
  rotate_left
  subst l;let#[x,v]:=R9 I e;exact nL (XN (k:=.inr z) f) x v.mapOf #[.bl kf,H,I.tok _,rfl,q];let#[_,x,p,h,v]:=SU I e;refine nL (XN (k:=.inr z) f) x v.mapOf #[.bl (!o.isSome),H,I.tok _,?_,q];rw[<- (h.val (.inr z)).isSome_eq,<- l];rfl
 |ref b=>let#[j,i,k,e,hk,m,l]:=g;cases f;let#[_,x,n,h,v]:=rL I e hk;refine wpAny_notIn_heap (kJ ()) (YU I m) x v #[.bl (!o.isSome),H,I.tok _,?_,q];have q:=(h.val k).isSome_eq;rw[QAl]at q;rw[<- q,<- l];rfl|_=>exact Qd g
theorem zS{t':Nat}{ob:HO}(I:Inv X c σ H s)(h:Eo (H a))(y:qY a s.1 h')(v:∃q,h'.get? a=jr q)(new:uB X.prog X.w (CA H a ob) h' a ob) :
  Inv X c σ (CA H a ob) { s with heap:=h',toks:=t' } :=
 I.write (x:=a) (e:=a) h (.inl rfl) (λb q hb z=>(y.2 b hb).trans z) v new
theorem ON{t':Nat}{kvs:List KE}{xs:List (NK×ko×kb)}(I:Inv X c σ H s)(y:Eo (H a))(k:(a==zl)=kd)(z:kvs.9<=kn)(h:KD kvs xs)
  (j:h'.DictOfH (EE X.prog X.w) a xs) (v:qY a s.1 h'):∃ep,Inv X c σ (CA H a (.dT ep kvs)) { s with heap:=h',toks:=t' }:=by
 let#[q,i,ep,x,g,f,e,_,b]:=j;exact#[ep,zS I y v #[q,x] #[z,k,xs,h,q,i,x,g,f,e,b]]
def setD(K:QA)(o y v:V)(H:Hp)(Q:Hp->Prop):Prop:=match o with
 | .ref a=>Co K H a y v Q|_=>False
theorem pT(M:X.A.units+66<gp):Hf X (setD X.K):=by
 intro c s σ H o y v J L u Q I W n m h;cases o with
 |ref a =>
  cases W;cases y with
  |str z =>
   rcases h with⟨f,e,l,q⟩| ⟨B,e,q⟩
   rotate_left
   let#[i,j]:=R9 I e;refine QBf (hsz:=Qv _) (XN (k:=.inr z) n) j λh' x g=>#[_,?_,q]
   have Y:∃q,h'.get? a=jr q:=let#[q,_,_,r,_]:=x;#[q,r]
   exact zS I (by rw[e];exact True.intro) g Y #[by simp;decide,i,_,.cons #[rfl,m] .nil,x];let#[p,i,G,w,j]:=SU I e;have hl:(eW f (.inr z) v).9<=sizeLine:=by have:=sU f (.inr z) v;omega
   refine QBf (hsz:=by rw[<- w.9];exact p) (XN (k:=.inr z) n) j λh' x g=>#[_,?_,q]
   have Y:∃q,h'.get? a=jr q:=let#[q,_,_,r,_]:=x;#[q,r]
   exact zS I (by rw[e];exact True.intro) g Y #[hl,i,_,w.put _ m,x]
  |ref b =>
   let#[B,f,k,e,hk,C,l,q]:=h;cases n;let#[p,i,F,w,j]:=rL I e hk;have hl:(LM f k b v).9<=sizeLine:=by have:=tU f k b v;omega
   refine wpAny_setItem_heap (hsz:=by rw[<- qI w];exact p) (kJ ()) (YU I C) j λh' x g=>?_;let#[Z,E]:=ON (t':=_) I (by rw[e];exact True.intro) i hl (w.put k b m) x g;exact#[_,E,q Z]
  |_=>exact Qd h
 |_=>exact Qd h
theorem mh{P:k5}{w:xb}(h:vu)(hb:zl<h.1.size):uB P w H (h.push { cls:=.type "dict",data:=.dict #[] }) h.1.size (.dT 0 []) :=
 #[Qv _,beq_eq_false_iff_ne.mpr (Q7 (Qm hb)),[],.nil,_,#[],QS _ rfl,#[rfl,rfl,rfl],rfl,rfl,Qq]
theorem Rc:PE X (.Dict [] [] pos) (λ_ H Q=>∀p,H p=kv->Q (.ref p) (CA H p (.dT 0 []))):=λc s σ H Q I h =>
 wpAny_Dict_empty #[.ref s.1.1.size,_,I.laid (a:=s.1.1.size) (o:=.dT 0 []) (t':=s.toks) (λ_ _ q=>QH _ q) (QT _) (mh s.1 (Inv.big I)),rfl,h _ (I.hok.fresh (QT _))]
theorem Pc(hu:X.A.units+66<gp){k v:Expr}{l j:TE}(hk:PE X k l)(hv:PE X v j) :
  PE X (.Dict [jr k] [v] pos) (λσ H Q=>∀p,H p=kv->l σ (CA H p (.dT 0 [])) λy i=>j σ i λv h=>h p=jr (.dT 0 [])/\∃b ks,y=.ref b/\yP X.K h b ks/\∀ep,Q (.ref p) (CA h p (.dT ep [(ks,b,v)]))):=by
 intro c s σ H Q I q;have E:=I.hok.fresh (QT s.1.1.size);have N:=I.laid (a:=s.1.1.size) (o:=.dT 0 []) (h':=s.1.push { cls:=.type "dict",data:=.dict #[] }) (t':=s.toks) (λ_ _ q=>QH _ q) (QT _) (mh s.1 (Inv.big I));refine wpAny_Dict_any rfl rfl (by simp) (by simp) (pairTrees_cons_walk (GB (hk c _ σ _ _ N (q _ E)) λu n #[y,i,M,Y,W]=>GB (hv c n σ i _ M W) λm R #[z,h,g,r,e,b,ks,G,J,Z]=>pairTrees_nil_walk ?_));subst G;cases Y;let#[S,F,P,x,L]:=rL g e (λp C=>nomatch C);cases x;show ku _ _ (forIn [(kx b,m)] PUnit.unit _) _ _ _;rw[QAD];refine QF (QF (wpAny_dictSet_heap (hsz:=Qv _) (show X.A.units+8<gp by omega) (YU g J) L λh' f B=>QL ?_));show ku _ _ (forIn ([]:List (kb×kb)) _ _) _ _ _;rw[QBY];let#[w,O]:=ON (t':=_) (kvs:=[(ks,b,z)]) g (by rw[e];exact True.intro) F (by simp;decide) (.cons #[rfl,rfl,r] .nil) f B;exact QL #[.ref _,_,O,rfl,Z w]
end
end
mutual
inductive Rep(K:QA)(H:Hp):V->y1->Prop where
 |non:Rep K H .non .none
 |bl (b:Bool):Rep K H (.bl b) (.bool b)
 |int (i:Int):Rep K H (.int i) (.int i)
 |str (x:Str):Rep K H (.str x) (.str x)
 |lst {a:ko}{xs:LV}{ds:List y1}:nC K H a xs->Reps K H xs ds->Rep K H (.ref a) (.list ds)
 |tup {a:ko}{xs:LV}{ds:List y1}:ED K H a xs->Reps K H xs ds->Rep K H (.ref a) (.tuple ds)
 |dct {b:Bool}{a:ko}{o:HO}{ks:List y1}{xs:LV}{ds:List y1}:H a=jr o->OJ K H b o ks xs->Reps K H xs ds->Rep K H (.ref a) (.dict (ks.zip ds))
inductive Reps(K:QA)(H:Hp):LV->List y1->Prop where
 |nil:Reps K H [] []
 |cons {x:V}{d:y1}{xs:LV}{ds:List y1}:Rep K H x d->Reps K H xs ds->Reps K H (x::xs) (d::ds)
end
section
variable{K:QA}{H:Hp}{R:LV->List y1->Prop}{xs:LV}{ds:List y1}
theorem Rep.both{P:V->y1->Prop}(z:P .non .none)(v:∀b,P (.bl b) (.bool b))(int:∀i,P (.int i) (.int i))(str:∀x,P (.str x) (.str x))
    (lst:∀{a:ko}{xs:LV}{ds:List y1},nC K H a xs->Reps K H xs ds->R xs ds->P (.ref a) (.list ds))
    (tup:∀{a:ko}{xs:LV}{ds:List y1},ED K H a xs->Reps K H xs ds->R xs ds->P (.ref a) (.tuple ds))
    (dct:∀{b:Bool}{a:ko}{o:HO}{ks:List y1}{xs:LV}{ds:List y1},H a=jr o->OJ K H b o ks xs->Reps K H xs ds->R xs ds->P (.ref a) (.dict (ks.zip ds)))
    (u:R [] []) (y:∀{x:V}{d:y1}{xs:LV}{ds:List y1},Rep K H x d->Reps K H xs ds->P x d->R xs ds->R (x::xs) (d::ds)) :
    (∀{x:V}{d:y1},Rep K H x d->P x d)/\∀{xs:LV}{ds:List y1},Reps K H xs ds->R xs ds :=
  #[λh=>Rep.rec (motive_1:=λx d _=>P x d) (motive_2:=λx d _=>R x d) z v int str @lst @tup @dct u @y h,
   λh=>Reps.rec (motive_1:=λx d _=>P x d) (motive_2:=λx d _=>R x d) z v int str @lst @tup @dct u @y h]
theorem Reps.ind(z:R [] [])(y:∀{x:V}{d:y1}{xs:LV}{ds:List y1},Rep K H x d->R xs ds->R (x::xs) (d::ds))(h:Reps K H xs ds):R xs ds :=
 (Rep.both (P:=λ_ _=>True) trivial (λ_=>trivial) (λ_=>trivial) (λ_=>trivial) (λ_ _ _=>trivial) (λ_ _ _=>trivial) (λ_ _ _ _=>trivial) z λh _ _ r=>y h r).2 h
theorem Reps.length(h:Reps K H xs ds):xs.9=ds.length:=Reps.ind (R:=λxs ds=>xs.9=ds.9) rfl (λ_ e=>i3 Nat.succ e) h
end
section
variable{X:Cx}{y:TB}{σ:St}{H:Hp}{s:kt}
mutual
theorem ET{h:vu}:∀{k:NK}{u:kb},E4 h k u->∃z,Reads h u (tD k) z
 | .s x,u,#[t,e]=>by subst e;exact#[_,.str x t]|.t ks,u,#[a,its,e,#[o,e1,c,n,d],q]=>by subst e;let#[z,v]:=nks_reads q;exact#[_,.tuple e1 c d v]
theorem nks_reads{h:vu}:∀{ks:List NK}{us:LW},NKvs h ks us->∃x,lj h us (tDs ks) x
 |[],us,e=>by cases(show us=[] from e);exact#[_,.nil]|k::ks,us,#[v,r,e,p,q]=>by subst e;let#[x,u]:=ET p;let#[bs,z]:=nks_reads q;exact#[_,.cons u z]
end
section
variable{kvs:List (Key×V)}{xs:List (NK×ko×kb)}{vs:List (Key×kb)}
theorem P6(I:Inv X pins σ H s){kvs:List KE}(r:KD kvs xs)(hk:CG X.K H kvs):∃z,lj s.1 (xs.map λx=>.ref x.2.1) (kvs.map λp=>tD p.1) z:=by
 induction r with|nil=>exact#[_,.nil]|@cons p x _ _ h t u=>let#[z,q]:=u λp v=>hk p (QE _ v);let#[bs,y]:=ET (YU I (hk p QD)).1;rw[h.2.1]at y;exact#[_,.cons y q]
theorem ZT{P:k5}{w:xb}{es:List b8}(hk:KV kvs vs)(u:Pairs (ND P w) es vs):(∃v,lj s.1 (es.map (·.key)) (kvs.map λp=>kD p.1) v)/\es.map (·.val)=vs.map (·.2):=by
 unfold KV at hk;induction hk generalizing es with
 |nil=>cases u;exact#[#[_,.nil],rfl]|cons h t e =>
  cases u with
  |cons a b c =>
   let#[#[v,q],k]:=e c;refine#[?_,by rw[QX,QX,k,b]];rw[QX,QX];rw[<- h.1]at a;rcases AA a with⟨i,t,z,y⟩| ⟨x,t,z,y⟩
   rw[z,y];exact#[_,.cons (.int i t) q];rw[z,y];exact#[_,.cons (.str x t) q]
theorem Ob{kvs:List KE}(r:KD kvs xs):oA (kvs.map (·.2.2)) (xs.map (·.2.2)):=by
 induction r with|nil=>exact .nil|cons h _ x=>exact .cons h.2.2 x
theorem Nb(r:KV kvs vs):oA (kvs.map (·.2)) (vs.map (·.2)):=by
 induction r with|nil=>exact .nil|cons h _ x=>exact .cons h.2 x
theorem u4(I:Inv X pins σ H s){b:Bool}{a:ko}{o:HO}{ks:List y1}{xs:LV}(h:H a=jr o)(q:OJ X.K H b o ks xs):∃ob es ep us,s.1.get? a=jr ob/\ob.cls=.type "dict"/\ob.dict=kv/\ob.data=.dict es ep/\(a==zl)=kd /\
  (∃j,lj s.1 (es.toList.map (·.key)) ks j)/\oA xs us/\es.toList.map (·.val)=us:=by
 cases b with
 |true=>let#[e,kvs,rfl,rfl,rfl,hk,_]:=q;let#[_,v,f,x,ob,es,ep,k,y,w,u,_]:=rL I h hk;refine#[ob,es,ep,_,k,y.1,y.2.1,w,v,?_,Ob x,?_];rw[u,QW];exact P6 I x hk;rw[u,QW];rfl|false =>
  rcases q with⟨kvs,_,rfl,rfl,rfl,_⟩| ⟨e,rfl,rfl,rfl⟩
  rotate_left
  let#[_,v,f,x,ob,es,ep,k,y,w,u,_]:=rL I h λ_ z=>nomatch z;cases x;exact#[ob,es,ep,[],k,y.1,y.2.1,w,v,#[_,by rw[u];exact .nil],.nil,by rw[u];rfl];let#[_,v,vs,x,ob,es,ep,k,y,w,_,u,_]:=SU I h;let#[i,g]:=ZT (s:=s) x u;exact#[ob,es,ep,_,k,y.1,y.2.1,w,v,i,Nb x,g]
theorem Rep.reads2(I:Inv X pins σ H s):(∀{x:V}{d:y1},Rep X.K H x d->∀u,JA x u->∃y,Reads s.1 u d y)/\∀{xs:LV}{ds:List y1},Reps X.K H xs ds->∀us,oA xs us->∃y,lj s.1 us ds y:=by
 refine Rep.both (P:=λx d=>∀u,JA x u->∃y,Reads s.1 u d y) (R:=λxs ds=>∀us,oA xs us->∃y,lj s.1 us ds y) (λu r=>?_) (λb u r=>?_) (λi u r=>?_) (λx u r=>?_) (λh q v u r=>?_) (λh q v u r=>?_) (λ{b a o w xs ds} h q r v u l=>?_) (λus r=>?_) λ_ _ p m us r=>?_;cases r;exact#[_,.none];cases r;exact#[_,.bool b];let#[t,rfl]:=r;exact#[_,.int i t];let#[t,rfl]:=r;exact#[_,.str x t];cases r;let#[g,k,#[o,n,e,c,_,d],_]:=I.list h;let#[y,z]:=v _ k;exact#[_,.list e c d (by simpa using z)];cases r;let#[g,k,#[o,e,c,n,d],_]:=I.tuple h;let#[y,z]:=v _ k;exact#[_,.tuple e c d (by simpa using z)];cases l;let#[ob,L,M,us,C,B,J,A,G,#[y,W],Z,Y]:=u4 I h q;let#[bs,f]:=v _ Z;have hl:w.9=ds.length:=by rw[q.len,Reps.length r]
 have F:(w.zip ds).map (λx=>x.1)=w:=WI (wy hl);have E:(w.zip ds).map (λx=>x.2)=ds:=WJ (wy hl.symm);exact#[_,.dict C B A (by rw[F];exact W) (by rw[E,Y];exact f)];cases r;exact#[_,.nil];cases r with|cons r j=>let#[y,z]:=p _ r;let#[bs,f]:=m _ j;exact#[_,.cons z f]
theorem Rep.reads(I:Inv X pins σ H s){x:V}{d:y1}{u:kb}(h:Rep X.K H x d)(r:JA x u):∃y,Reads s.1 u d y:=(Rep.reads2 I).1 h u r
def HE(d:y1):Prop:=d.canLay0=kf/\d.depth<=64
noncomputable def rEq(K:QA)(neg:Bool):R2:=λx y H Q=>match x,y with
 | .int i,.int j=>Q (.bl (if neg then !decide (i=j) else decide (i=j))) H|.str a,.str b=>Q (.bl (if neg then !decide (a=b) else decide (a=b))) H|.bl a,.bl b=>Q (.bl (if neg then !decide (a=b) else decide (a=b))) H|x,y=>∃z h,Rep K H x z/\Rep K H y h/\HE z/\HE h/\Q (.bl (if neg then !PyData.eqv z h else Qt z h)) H
theorem op_eq(C:X.A.units+64<gp):ME X (vx .Eq) (rEq X.K kd):=by
 intro z s g H x y v u Q I o n h;have k:(∃f e,Rep X.K H x f/\Rep X.K H y e/\HE f/\HE e/\Q (.bl (if kd=kf then !PyData.eqv f e else Qt f e)) H)->ku (k0 X.prog X.w) X.A (vx .Eq v u) (EP X z g Q) X.xe s:=by rintro⟨f,e,m,l,⟨Z,B⟩,⟨Y,W⟩,q⟩;let#[E,r]:=m.reads I o;let#[bs,p]:=l.reads I n;exact SeqAt.compareEq_reads r p Z Y () #[.bl _,H,I,rfl,q]
 have sc:cc x y=kf->Q (.bl (decide (x=y))) H->ku (k0 X.prog X.w) X.A (vx .Eq v u) (EP X z g Q) X.xe s:=λm l=>_root_.L2.op_eq z s g H x y v u Q I o n #[m,l];cases x with
 |int i =>
  cases y with|int j=>exact sc rfl (by simpa[rEq]using h)|_=>exact k h
 |str a =>
  cases y with|str b=>exact sc rfl (by simpa[rEq]using h)|_=>exact k h
 |bl a =>
  cases y with|bl b=>exact sc rfl (by simpa[rEq]using h)|_=>exact k h
 |_=>exact k h
theorem op_ne(C:X.A.units+64<gp):ME X (vx .NotEq) (rEq X.K kf):=by
 intro z s g H x y v u Q I o n h;have k:(∃f e,Rep X.K H x f/\Rep X.K H y e/\HE f/\HE e/\Q (.bl (if kf=kf then !PyData.eqv f e else Qt f e)) H)->ku (k0 X.prog X.w) X.A (vx .NotEq v u) (EP X z g Q) X.xe s:=by rintro⟨f,e,m,l,⟨Z,B⟩,⟨Y,W⟩,q⟩;let#[E,r]:=m.reads I o;let#[bs,p]:=l.reads I n;exact SeqAt.compareNe_reads r p Z Y () #[.bl _,H,I,rfl,q]
 have sc:cc x y=kf->Q (.bl (!decide (x=y))) H->ku (k0 X.prog X.w) X.A (vx .NotEq v u) (EP X z g Q) X.xe s:=λm l=>_root_.L2.op_ne z s g H x y v u Q I o n #[m,l];cases x with
 |int i =>
  cases y with|int j=>exact sc rfl (by simpa[rEq]using h)|_=>exact k h
 |str a =>
  cases y with|str b=>exact sc rfl (by simpa[rEq]using h)|_=>exact k h
 |bl a =>
  cases y with|bl b=>exact sc rfl (by simpa[rEq]using h)|_=>exact k h
 |_=>exact k h
noncomputable def V1(f:Int->Int->Bool):R2:=λx y H Q=>match x,y with
 | .int i,.int j=>Q (.bl (f i j)) H|_,_=>False
theorem zR{w:dy}{f:Int->Int->Bool}(e:ME X (vx w) (Jc λi j=>.bl (f i j))):ME X (vx w) (V1 f):=by
 intro z s k H x y v u Q I b a h;cases x with
 |int i =>
  cases y with|int j=>exact e z s k H _ _ v u Q I b a #[i,j,rfl,rfl,h]|_=>exact Qd h
 |_=>exact Qd h
noncomputable def inStr(b a:Str):Bool:=match a.cps.toList with
 |[c]=>decide (c∈b.cps.toList)|_=>!(qB b a 0 b.9 1).isEmpty
theorem CU(b a:Str):inStr b a=!(qB b a 0 b.9 1).isEmpty:=by
 unfold inStr;split;rename_i c e;have x:a=#[(qG [c])]:=by
  let#[h]:=a;have:h=(qG [c]):=by apply WH.mp;simpa using e
  rw[this]
 rw[x];exact(StrLaws.found_one b c).symm;rfl
def VT(K:QA)(neg:Bool):R2:=λx y H Q=>match y with
 | .str b=>match x with
  | .str a=>Q (.bl (if neg then !inStr b a else inStr b a)) H|_=>False
 | .ref p=>Mw K neg x (.ref p) H Q∨(∃d h,Rep K H x d/\(Rep K H (.ref p) (.list h)∨Rep K H (.ref p) (.tuple h))/\HE d/\HE (.list h)/\Q (.bl (if neg then !(h.any λy=>Qt y d) else h.any λy=>Qt y d)) H)∨(∃o,US K H p x o/\Q (.bl (if neg then !o.isSome else o.isSome)) H)|_=>False
theorem eP{ds:List y1}(h:HE (.list ds)):wZ ds=kf/\w4 ds<=63:=by let#[x,y]:=h;simp only[QAc]at x;simp only[QBH]at y;exact#[x,()]
theorem yr(Y:X.A.units+66<gp):ME X (vx .In) (VT X.K kd):=by
 intro z s i H x y v u Q I e w h;cases y with
 |str b =>
  cases x with|str a=>refine M1 z s i H _ _ v u Q I e w #[a,b,rfl,rfl,?_];rw[<- CU];simpa[VT]using h|_=>exact Qd h
 |ref p =>
  rcases h with h|⟨d,Z,r,k,l,n,q⟩| ⟨o,g,q⟩
  rotate_left 2
  cases w;exact Fe Y I e g q;exact N1 z s i H _ _ v u Q I e w h;let#[B,j]:=r.reads I e;let#[m,W]:=eP n;rcases k with k|k;let#[bs,f]:=k.reads I w;exact SeqAt.in_list_reads f j m l.1 () #[.bl _,H,I,rfl,q];let#[bs,f]:=k.reads I w;exact SeqAt.in_tuple_reads f j m l.1 () #[.bl _,H,I,rfl,q]
 |_=>exact Qd h
theorem C7(Y:X.A.units+66<gp):ME X (vx .NotIn) (VT X.K kf):=by
 intro z s i H x y v u Q I e w h;cases y with
 |str b =>
  cases x with|str a=>refine kR z s i H _ _ v u Q I e w #[a,b,rfl,rfl,?_];rw[<- CU];simpa[VT]using h|_=>exact Qd h
 |ref p =>
  rcases h with h|⟨d,Z,r,k,l,n,q⟩| ⟨o,g,q⟩
  rotate_left 2
  cases w;exact HW Y I e g q;exact vR z s i H _ _ v u Q I e w h;let#[B,j]:=r.reads I e;let#[m,W]:=eP n;rcases k with k|k;let#[bs,f]:=k.reads I w;exact SeqAt.notIn_list_reads f j m l.1 () #[.bl _,H,I,rfl,q];let#[bs,f]:=k.reads I w;exact SeqAt.notIn_tuple_reads f j m l.1 () #[.bl _,H,I,rfl,q]
 |_=>exact Qd h
end
end
section
variable{X:Cx}
theorem sV:∀{bs:List Bool}{us:LW},oA (bs.map V.bl) us->∀(i:Nat) (v:kb),us[i]?=jr v->∃b,bs[i]?=jr b/\v=Value.bool b
 |[],_,.nil,i,v,h=>by simp at h|b::bs,_,.cons r t,0,v,h=>by simp at h;subst h;exact#[b,by simp,r]|b::bs,_,.cons r t,i+1,v,h=>by let#[c,y,x]:=sV (bs:=bs) t i v (by simpa using h);exact#[c,by simpa using y,x]
theorem K1(bs:List Bool):(Qo bs.9).any (λi=>bs.getD i kd)=bs.any id:=by
 rw[qA,WK,WK];constructor;rintro⟨i,x,e⟩;have h:i<bs.length:=by simpa using x
 exact#[bs[i],WL h,by simpa[QCl,h]using e];rintro⟨b,hb,e⟩;let#[i,x,y]:=List.getElem_of_mem hb;exact#[i,by simpa using x,by simp[QCl,x,y];simpa using e]
def Lq(K:QA):LV->Hp->VK->Prop:=λh H Q=>match h with
 |[.ref a]=>∃bs:List Bool,nC K H a (bs.map V.bl)/\Q (.bl (bs.any id)) H|_=>False
theorem ua(l:X.calm=kf):FC X (.builtin "any") (Lq X.K):=by
 intro k s Z H f W Q I r h
 match f,h with
 |[.ref a],#[bs,hq,q] =>
  let#[u,rfl,j]:=pI r;cases j;let#[x,w,p,C]:=I.list hq;have hl:=w.9;rw[QC]at hl;refine call_any_walk (QAm p.isList ?_);have y:a<s.1.1.size:=by let#[o,n,e,_]:=p;exact QY e
  refine#[s.1.1.size,_,_,_,_,_,λi=>bs.getD i kd,rfl,Walks.list (A:=X.A.in1) (I.ok.hd l) s.1.1.size a (Qm y) x.toArray,#[#[_,QS _ rfl,rfl,rfl],?_],?_,?_];let#[o,n,e,c,d,sq]:=p;exact#[o,QH _ e,c,n,sq];intro i v B F G m z;let#[b,hb,rfl]:=sV w i v (by simpa using m);refine wW ?_;have:bs.getD i kd=b:=by simp[QCl,hb]
  rw[<- this];exact z;intro E g hk;have Y:(Qo x.toArray.size).any (λi=>bs.getD i kd)=bs.any id:=by rw[QN,<- hl,K1]
  rw[Y];exact#[.bl _,H,I.kept (t':=g) (λb o e=>hk b o (by simp;exact Qm (QY e)) (QH _ e)),rfl,q]
def Dq(K:QA):LV->Hp->VK->Prop:=λx H Q=>(∃z,x=[.str z]/\z.9<=kn/\Q (.int z.9) H)∨∃a h,x=[.ref a]/\(nC K H a h∨ED K H a h)/\Q (.int h.9) H
theorem xa:FC X (.builtin "len") (Dq X.K):=λx s y H z u Q I r h=>h.elim (rS x s y H z u Q I r) (YJ x s y H z u Q I r)
def Lw(K:QA):V->Option Int->Option Int->Hp->VK->Prop:=λx h y H Q=>match x with
 | .str z=>z.9<=kn/\Q (.str (w6 z h y)) H|.ref a=>Xq K (.ref a) h y H Q|_=>False
theorem Zj:fo X (Lw X.K):=by
 intro y s p H x v G E W C g Q I Y B Z m h;cases x with
 |str z =>
  let#[t,rfl]:=Y;let#[J,q]:=h;refine#["str",_,F.slot_str_getitem.lookup,QCh _ _ _,?_];have fin:∀l u:Option (Int×Tok),l.map (·.1)=W->u.map (·.1)=C->s.1.IsSlice g l u kv->ku (k0 X.prog X.w) X.A (rn (.str z t) (.ref g)) (EP X y p Q) X.xe s:=λl u M L n=>by refine wpAny_getItem_str_slice n rfl ?_;subst M L;exact post_val_or_str #[QV (Txt.slice_le z _ _) J,λN k=>#[.str (w6 z _ _),H,I.tok k,#[_,rfl],q]]
  let#[o,b,hc,e]:=B;cases Z with
  |none =>
   cases m with|none=>exact fin kv kv rfl rfl #[o,b,hc,e]|int j f=>exact fin kv (jr (j,f)) rfl rfl #[o,b,hc,e]
  |int i r =>
   cases m with|none=>exact fin (jr (i,r)) kv rfl rfl #[o,b,hc,e]|int j f=>exact fin (jr (i,r)) (jr (j,f)) rfl rfl #[o,b,hc,e]
 |ref a=>exact xc y s p H _ v G E W C g Q I Y B Z m h|_=>exact Qd h
end
section
variable{h h':vu}{j:ko}{z:Src}{k:Nat}{xs:Array kb}
inductive Src where
 |l (a:ko)|t (a:ko)
def Src.adr:Src->ko
 | .l a=>a|.t a=>a
def AD(h:vu)(j:ko):Src->Nat->Prop
 | .l a,k=>h.IsListIter j a k|.t a,k=>h.IsTupleIter j a k
def OB(h:vu):Src->Array kb->Prop
 | .l a,xs=>h.IsList a xs|.t a,xs=>h.IsTuple a xs
theorem AD.keep(x:AD h j z k)(e:∀o,h.get? j=jr o->h'.get? j=jr o):AD h' j z k:=by
 cases z with|l a=>let#[o,u,y]:=x;exact#[o,e o u,y]|t a=>let#[o,u,y]:=x;exact#[o,e o u,y]
theorem AD.obj(x:AD h j z k):∃o,h.get? j=jr o/\∀v,o.data≠.cell v:=by
 cases z with|l a=>let#[o,u,w,y]:=x;exact#[o,u,λv q=>by rw[y]at q;cases q]|t a=>let#[o,u,w,y]:=x;exact#[o,u,λv q=>by rw[y]at q;cases q]
theorem OB.ext{b:ko}(x:OB h z xs)(e:QAF b h h')(n:z.adr≠b):OB h' z xs:=by
 cases z with|l a=>exact QCX.extBut x e n|t a=>exact Heap.IsTuple.extBut x e n
theorem OB.lt(x:OB h z xs):z.adr<h.1.size:=by
 cases z with|l a=>let#[o,y,_]:=x;exact QY y|t a=>let#[o,y,_]:=x;exact QY y
theorem AD.lt(x:AD h j z k):j<h.1.size:=by let#[o,y,_]:=x.obj;exact QY y
end
section
variable{prog:k5}{w:xb}{A:x2}{E:mC}{s:kt}
section
variable{j t:ko}{k:Nat}{xs:Array kb}{x:kb}{Q:mC}{z:Src}
theorem Xl(p:s.1.IsTupleIter j t k)(pt:s.1.IsTuple t xs)(a:xs[k]?=jr x)
  (q:∀h',h'.IsTupleIter j t (k+1)->qY j s.1 h'->Q x { s with heap:=h' }):ku (k0 prog w) A (qV (.ref j)) Q E s:=by
 let#[ob,y,b,h]:=id p;let#[e,v,_,f,u]:=pt;unfold qV;refine QF (qd (name:=Qc "__next__") p.typeIs qe (qR qe p.typeIs WX ?_ (WT _)));show ku _ _ (sn (.ref j) 0 >>= _) _ _ _;refine QF (WP y h (x:=.ref t) rfl ?_);show ku _ _ (if(kx t==j2)=kf then _ else _) _ _ _;rw[a8 (show ¬ (kx t==j2)=kf from QG)];show ku _ _ (sn (.ref j) 1 >>= _) _ _ _;refine QF (WP y h (x:=.int k 0) rfl ?_);show ku _ _ (seqItems? (.ref t) >>= _) _ _ _;refine QF (QAZ v u ?_);simp only[qa,a];refine QF (QAd y h (by simp) (QL #[x,rfl,QL (q _ ?_ (Q5 ..))]));refine#[_,wM _ y (QBI (WY h _)),(QB5 ..).trans b,?_];rw[WY h];simp[h7]
theorem GW(u:A.handled=kv)(p:s.1.IsTupleIter j t k)(pt:s.1.IsTuple t xs)(f:xs[k]?=kv)
  (q:∀h' e,QAF j s.1 h'->(∃o,h'.get? e=jr o/\o.cls=.type "StopIteration")->E (.ref e) { s with heap:=h' }):ku (k0 prog w) A (qV (.ref j)) Q E s:=by
 let#[ob,y,l,h]:=id p;let#[g,b,_,i,v]:=pt;unfold qV;refine QF (qd (name:=Qc "__next__") p.typeIs qe (qR qe p.typeIs WX ?_ (WT _)));show ku _ _ (sn (.ref j) 0 >>= _) _ _ _;refine QF (WP y h (x:=.ref t) rfl ?_);show ku _ _ (if(kx t==j2)=kf then _ else _) _ _ _;rw[a8 (show ¬ (kx t==j2)=kf from QG)];show ku _ _ (sn (.ref j) 1 >>= _) _ _ _;refine QF (WP y h (x:=.int k 0) rfl ?_);show ku _ _ (seqItems? (.ref t) >>= _) _ _ _;refine QF (QAZ b v ?_);simp only[qa,f];refine QF (QB6 (QF (QAd y h (by simp) ?_)));refine QF (m:=nP (.type "StopIteration") []) ?_;simp only[nP,nt];refine QF (qM ?made (by size_fits));refine QF (m:=h8 _ _) (QCY (a:=j2) (by first|rfl | (rw[h8];rfl)) ?arg);refine qM ?made2 (by size_fits);simp only[tj];refine QF (QBv ?_);first|rw[show A.in1.handled=kv from u]|rw[u]
 refine QF (QL (QCZ (q _ _ (((Q5 ..).extBut.push _).push _) #[_,QS _ rfl,rfl])))
theorem ze(p:AD s.1 j z k)(pt:OB s.1 z xs)(h:xs[k]?=jr x)
  (q:∀h',AD h' j z (k+1)->qY j s.1 h'->Q x { s with heap:=h' }):ku (k0 prog w) A (qV (.ref j)) Q E s:=by
 cases z with|l a=>exact wpAny_nextOf_list_item p pt h q|t a=>exact Xl p pt h q
theorem c8(y:A.handled=kv)(p:AD s.1 j z k)(pt:OB s.1 z xs)(h:xs[k]?=kv)
  (q:∀h' e,QAF j s.1 h'->(∃o,h'.get? e=jr o/\o.cls=.type "StopIteration")->E (.ref e) { s with heap:=h' }):ku (k0 prog w) A (qV (.ref j)) Q E s:=by
 cases z with|l a=>exact wpAny_nextOf_list_end y p pt h q|t a=>exact GW y p pt h q
noncomputable def Src.it:Src->Obj
 | .l a=>{ cls:=.type "list_iterator",data:=.fields (qG [.ref a,.int 0 0]) }|.t a=>{ cls:=.type "tuple_iterator",data:=.fields (qG [.ref a,.int 0 0]) }
theorem gT(pt:OB s.1 z xs)(q:Q (.ref s.1.1.size) { s with heap:=s.1.push z.it }):ku (k0 prog w) A (la (.ref z.adr)) Q E s:=by
 cases z with|l a=>exact QAm pt q|t a=>exact QBw pt q
theorem yc(h:vu)(z:Src):AD (h.push z.it) h.1.size z 0:=by
 cases z with|l a=>exact#[_,QS _ rfl,rfl,rfl]|t a=>exact#[_,QS _ rfl,rfl,rfl]
end
end
section
variable{prog:k5}{w:xb}{A:x2}{E:mC}{s:kt}
theorem Xj{h h':vu}{b:ko}{z:Src}{xs:Array kb}(x:OB h z xs)(e:qY b h h')(n:z.adr≠b):OB h' z xs:=x.ext e.extBut n
end
section
variable{X:Cx}{w:TB}{σ:St}{H:Hp}{s:kt}{h':vu}
theorem _root_.L2.Inv.turnedL{t':Nat}{ch:List ko}(I:Inv X w σ H s)(k:∀b o,b∉ch->s.1.get? b=jr o->h'.get? b=jr o)(f:∀b∈ch,NJ X w H b):Inv X w σ H { s with heap:=h',toks:=t' }:=by
 have h:∀b u,H b=jr u->b∉ch:=λb u e z=>by rw[(f b z).1]at e;cases e
 have a:X.env.locals∉ch:=λz=>(f _ z).2.1 rfl;refine I.step (g':=s.gens) (d':=s.drawn) (ch:=ch) (λb hb=>?_) (λb o _ _ hc e _=>k b o hc e) (λb o _ _ hc e _=>#[o.slots,k b o hc e]) (λ_ _ _ _ n=>n)
  (λb o hc e=>#[o,k b o hc e]) (λ_ _ e=>e) (λ_ _ _ e=>e) (λ_ _ e=>e) (λm y=>?_) (λb u e=>?_) I.bare
 let#[_,l,_,j,i,g]:=f b hb;exact#[j,l,i,g];let#[o,p,Y,x,r]:=y;exact#[o,p,Y,k _ o a x,r];refine(I.hok b u e).stay (λc v hc q=>k c v ?_ q) (λ_ q=>q) λ_ _ q=>q;rcases hc with z|z;rw[z];exact h b u e;exact h c _ z
def A4(K:QA)(H:Hp):Src->LV->Prop
 | .l a,xs=>nC K H a xs|.t a,xs=>ED K H a xs
theorem _root_.L2.Inv.src(I:Inv X w σ H s){z:Src}{xs:LV}(h:A4 X.K H z xs):∃its:LW,oA xs its/\OB s.1 z its.toArray/\xs.9<=sizeLine:=by
 cases z with|l a=>let#[its,x,p,y]:=I.list h;exact#[its,x,p.isList,y]|t a=>let#[its,x,p,y]:=I.tuple h;exact#[its,x,p,y]
theorem _root_.L2.Inv.src_inj(I:Inv X w σ H s){z:Src}{xs x:LV}(h:A4 X.K H z xs)(h':A4 X.K H z x):xs=x:=by
 cases z with|l a=>exact I.list_inj h h'|t a=>exact I.tuple_inj h h'
theorem _root_.L2.Inv.pair{p:ko}{a b:kb}{x y:V}{t':Nat}(I:Inv X w σ H s)(k:∀b u,s.1.get? b=jr u->h'.get? b=jr u)(v:s.1.1.size<=p)(e:h'.get? p=jr { cls:=.type "tuple",data:=.seq (qG [a,b]) })(z:JA x a)(h:JA y b) :
  Inv X w σ (CA H p (.tup [x,y])) { s with heap:=h',toks:=t' } :=
 I.laid k v #[by rw[Q6];show 2<=_;decide,[a,b],.cons z (.cons h .nil),_,e,rfl,_,rfl]
end
section
variable{prog:k5}{w:xb}{A:x2}{E:mC}{s:kt}
section
variable{z d:ko}{u:Obj}{es:Array b8}{i ep:Nat}{f c:kb}{Q:Option kb->kt->Prop}
theorem lD:QAA "dict_itemiterator"=true:=by decide +kernel
theorem uK(l:List String)(h:(l.contains "dict_itemiterator" || l.contains "object")=kd):(l.any λt=>[Value.type "dict_itemiterator",Value.type "object"].contains (.type t))=false:=by
 rw[List.any_eq_false];intro t x;rw[Bool.or_eq_false_iff]at h;have v:t≠"dict_itemiterator":=λe=>by subst e;rw[Q2.mpr x]at h;cases h.1
 have y:t≠"object":=λe=>by subst e;rw[Q2.mpr x]at h;cases h.2
 simp[v,y]
theorem u8{e:b8}
  (n:ej s.1 z d i es.size ep f c) (Y:s.1.get? d=jr u) (C:u.data=.dict es ep) (J:es[i]?=jr e)
  (q:∀h',p0 h' z d (i+1) es.size ep e.key e.val s.1.1.size->h'.get? s.1.1.size=jr { cls:=.type "tuple",data:=.seq (qG [e.key,e.val]) } ->
   h'.1.size=s.1.1.size+1->(∀b o,b≠z->s.1.get? b=jr o->h'.get? b=jr o)->Q (jr (.ref s.1.1.size)) { s with heap:=h' }) :
  ku (k0 prog w) A (me (.ref z)) Q E s:=by
 have G:s.TypeIs (.ref z) "dict_itemiterator":=#[_,n,rfl]
 show ku _ _ (bind _ _) _ _ _;refine QF (QAB (qd G qW (qR qW G Ws ?_ (Wm _))));show ku _ _ (bind _ _) _ _ _;refine QF (QL (QF (QF (QF (qu G (QL (QF (QAe n rfl ?_))))))));rw[lD];show ku _ _ (if(kx d==j2)=kf then _ else _) _ _ _;rw[a8 (show ¬ (kx d==j2)=kf from QG)];show ku _ _ (wP (.ref d) >>= _) _ _ _;refine QF (QL (QF (wC Y C ?_)));rw[a8 (show ¬ (((es.size:Nat):Int) != ((es.size:Nat):Int))=kf by simp)];refine QF (QL (QF (w8 Y C ?_)));rw[a8 (show ¬ (((ep:Nat):Int) != ((ep:Nat):Int))=kf by simp)];refine QL ?_;have L:(if((i:Nat):Int)<0 then kv else es[((i:Nat):Int).toNat]?)=jr e:=by rw[a8 (),qa];exact J
 simp only[L];refine QF ?_;show ku _ _ (d3 (.ref z) >>= _) _ _ _;refine QF (qu G (QL (QF (Wj G ?_))));rw[lD,a9 rfl];rw[show(List.any _ λt=>[Value.type "dict_itemiterator",Value.type "object"].contains (.type t))=kd from uK _ (by decide +kernel),a8 QG];refine QF (wN n (by simp) λa h X=>?_);have h:ej a z d (i+1) es.size ep f c:=h;refine QF (qm ?_);have F:({ s with heap:=a }:kt).TypeIs (.ref z) "dict_itemiterator":=#[_,h,rfl]
 show ku _ _ (Builtin.Dict_items.isOneOf (.ref z) _ >>= _) _ _ _;refine QF (Wj F ?_);rw[uK _ (by decide +kernel),a8 QG];refine QF (Wj F ?_);rw[uK _ (by decide +kernel),a8 QG];show ku _ _ (nt [e.key,e.val] >>= _) _ _ _;refine QF (QBZ ?_);have r:a.1.size=s.1.1.size:=X.1;have y:ej (a.push { cls:=.type "tuple",data:=.seq (qG [e.key,e.val]) }) z d (i+1) es.size ep f c:=QH _ h;show ku _ _ (Builtin.Dict_items.ownedTupleIsFree (.ref z) >>= _) _ _ _;refine QF ?_;show ku _ _ (sn (.ref z) 0 >>= _) _ _ _;refine QF (WP y rfl (x:=.none) rfl (QL ?_));rw[a9 rfl];show ku _ _ (sn (.ref z) 6 >>= _) _ _ _;refine QF (WP y rfl (x:=f) rfl ?_);refine QF (WP y rfl (x:=c) rfl ?_);refine QF (wN y (by simp) λO B m=>?_);refine QF (wN B (by simp) λN K l=>?_);refine QF (wN K (by simp) λM W j=>?_);refine QF (wN W (by simp) λI Z g=>?_);refine QF (QCa (QL ?_));refine QL #[_,rfl,QL ?_];have k:z<a.1.size:=QY h;have pt:I.get? a.1.size=jr { cls:=.type "tuple",data:=.seq (qG [e.key,e.val]) } :=
  g.extBut _ _ (wv k) (j.extBut _ _ (wv k) (l.extBut _ _ (wv k) (m.extBut _ _ (wv k) (QS _ rfl))))
 have p:I.1.size=a.1.size+1:=by rw[g.1,j.1,l.1,m.1,WF]
 have v:p0 I z d (i+1) es.size ep e.key e.val a.1.size:=Z;rw[r]at pt p v;have:=q I v pt p λb o hb x=>g.extBut _ _ hb (j.extBut _ _ hb (l.extBut _ _ hb (m.extBut _ _ hb (QH _ (X.extBut _ _ hb x)))));show Q (jr (.ref a.1.size)) _;rw[r];exact this
theorem gR(g:A.handled=kv)
  (h:ej s.1 z d i es.size ep f c) (x:s.1.get? d=jr u) (y:u.data=.dict es ep) (j:es[i]?=kv)
  (q:∀h',QAF z s.1 h'->Q kv { s with heap:=h' }) :
  ku (k0 prog w) A (me (.ref z)) Q E s:=by
 have v:s.TypeIs (.ref z) "dict_itemiterator":=#[_,h,rfl]
 show ku _ _ (bind _ _) _ _ _;refine QF (QAB (qd v qW (qR qW v Ws ?_ (Wm _))));show ku _ _ (bind _ _) _ _ _;refine QF (QL (QF (QF (QF (qu v (QL (QF (QAe h rfl ?_))))))));rw[lD];show ku _ _ (if(kx d==j2)=kf then _ else _) _ _ _;rw[a8 (show ¬ (kx d==j2)=kf from QG)];show ku _ _ (wP (.ref d) >>= _) _ _ _;refine QF (QL (QF (wC x y ?_)));rw[a8 (show ¬ (((es.size:Nat):Int) != ((es.size:Nat):Int))=kf by simp)];refine QF (QL (QF (w8 x y ?_)));rw[a8 (show ¬ (((ep:Nat):Int) != ((ep:Nat):Int))=kf by simp)];refine QL ?_;have l:(if((i:Nat):Int)<0 then kv else es[((i:Nat):Int).toNat]?)=none:=by rw[a8 (),qa];exact j
 simp only[l];refine QF ?_;show ku _ _ (d3 (.ref z) >>= _) _ _ _;refine QF (qu v (QL ?_));rw[lD,a9 rfl];refine QF (wN h (by simp) λn e k=>?_);refine QF (m:=nP (.type "StopIteration") []) ?_;simp only[nP,nt];refine QF (qM ?made (by size_fits));refine QF (m:=h8 _ _) (QCY (a:=j2) (by first|rfl | (rw[h8];rfl)) ?arg);refine qM ?made2 (by size_fits);simp only[tj];refine QF (QBv ?_);first|rw[show A.in1.handled=kv from g]|rw[g]
 refine QF (QL (QCZ ?_));refine QF (Wx (T:="StopIteration") (b:=kf) #[_,QS _ rfl,rfl] (by kernel_rfl) ?_);rw[a9 rfl];exact QL (q _ ((k.extBut.push _).push _))
theorem d9{v:ko}{Q:mC}(hv:s.1.IsItemsView v d)(h:s.1.get? d=jr u)(x:u.data=.dict es ep)
  (q:Q (.ref s.1.1.size) { s with heap:=s.1.push { cls:=.type "dict_itemiterator",data:=.fields (qG [.none,.bool kd,.ref d,.int 0 0,.int es.size 0,.int ep 0,.none,.none]) } }) :
  ku (k0 prog w) A (la (.ref v)) Q E s:=by
 have a:=Heap.IsItemsView.typeIs hv;let#[c,y,b,k]:=id hv;refine QB7 a QA6 (qR QA6 a F.entry_dict_items_iter ?_ (F.args_dict_items_iter_1 _));show ku _ _ (bind _ _) _ _ _;refine QF (QL (QF ?_));show ku _ _ (bind _ _) _ _ _;refine QF (WP y k rfl (QL (QF ?_)));show ku _ _ (bind _ _) _ _ _;refine QF (wC h x (QF (w8 h x ?_)));simp only[lD,if_true];refine qM (QL #[_,rfl,"dict_itemiterator",_,#[_,QS _ rfl,rfl],qW.lookup,q]) (show _<=kn+2 by simp[Builtin.Dict_items.ownedTupleFields,Q6])
theorem zY{Q:mC}(h:s.1.get? d=jr u)(x:u.cls=.type "dict")(v:(d==zl)=kd)
  (q:Q (.ref s.1.1.size) { s with heap:=s.1.push { cls:=.type "dict_items",data:=.fields (qG [.ref d]) } }):ku (k0 prog w) A (Er (.builtin "dict.items") [.ref d]) Q E s:=by
 have y:s.TypeIs (.ref d) "dict":=#[_,h,x]
 refine qR F.slot_dict_items y F.entry_dict_items ?_ (F.args_dict_items_1 _);show ku _ _ (bind _ _) _ _ _;refine QF ?_;show ku _ _ (bind _ _) _ _ _;refine QF (Wt y ?_);refine QL ?_;show ku _ _ ((if(d==zl)=kf then _ else _) >>= _) _ _ _;rw[v,a8 QG];exact QF (QL (QF (qM (QL #[_,rfl,q]) (show _<=kn+2 by simp[Q6]))))
theorem V0{Y:Type}[DecidableEq Y]{h:sh prog w Y}{d a:ko}{xs:List (Y×ko×kb)}{k:Y}{v:kb}{Q:mC}(B:h.room A)(g:h.is s.1 k a)(F:s.1.DictOfH h d xs)(hsz:xs.9<=kn)
  (I:∀p,eH xs k=jr p->Q p.2 { s with toks:=s.toks+h.draws k })
  (G:eH xs k=kv->∀h',h'.DictOfH h d (ri xs k a v)->qY d s.1 h'->Q v { s with heap:=h',toks:=s.toks+h.draws k }) :
  ku (k0 prog w) A (ni d (.ref a) v) Q E s:=by
 let#[o,es,ep,n,hc,m,Z,X,W]:=id F;have J:es.size=xs.length:=by have:=i3 qO Z;simpa using this
 unfold ni;refine qm (QF (h.pyHash B g (QF (wpAny_dictFind_heap B g n m Z X W (λr=>?_) λj p C=>?_))));have b:=atKey_none_of_get r;have q:=not_mem_keys_of_get r;refine QF (QB6 (QF (wpAny_updateDictKeys n m (QL (G b _ ?_ (Q5 ..))) () (by simp))));refine#[_,_,ep+1,wM _ n (Obj.isFreed_of_dict (QBT m _)),Obj.ExactDict.mapDictKeys hc _,QBT m _,?_,?_,?_];rw[QCb b];simp[Z,fk];rw[QCb b];intro x l;rcases Qg.mp l with l|l;exact h.keeps (X x l) n m (Q5 ..);rw[QJ.mp l];exact h.keeps g n m (Q5 ..);rw[QCb b,QO];exact qZ.mpr #[W,by simp,λx l y K e=>by rw[QX,ww,QJ]at K;rw[e,K]at l;exact q l];have b:=atKey_of_get W C;have L:es[j]?=jr (fk h (k,p)):=by
  have:es.toList[j]?=jr (fk h (k,p)):=by rw[Z,Qa,C];rfl
  simpa using this
 refine QF (wC n m ?_);rw[L];exact QF (QB6 (QL (I p b)))
theorem rV{y:Type}[DecidableEq y]{h:sh prog w y}{d a:ko}{xs:List (y×ko×kb)}{k:y}{v:kb}{Q:mC}(g:h.room A.in1)(x:h.is s.1 k a)(b:s.1.DictOfH h d xs)(hsz:xs.9<=kn)(m:(d==zl)=kd)
  (o:∀p,eH xs k=jr p->Q p.2 { s with toks:=s.toks+h.draws k })
  (n:eH xs k=kv->∀h',h'.DictOfH h d (ri xs k a v)->qY d s.1 h'->Q v { s with heap:=h',toks:=s.toks+h.draws k }) :
  ku (k0 prog w) A (Er (.builtin "dict.setdefault") [.ref d,.ref a,v]) Q E s:=by
 have e:s.TypeIs (.ref d) "dict":=Heap.DictOfH.typeIs b;refine qR F.slot_dict_setdefault e F.entry_dict_setdefault ?_ (F.args_dict_setdefault_3 _ _ _);show ku _ _ (bind _ _) _ _ _;refine QF ?_;show ku _ _ (bind _ _) _ _ _;refine QF (Wt e ?_);refine QL ?_;show ku _ _ (if(d==zl)=kf then _ else _) _ _ _;rw[m,a8 QG];exact QF (V0 g x b hsz (λp j=>QL #[_,rfl,o p j]) λl h' r q=>QL #[_,rfl,n l h' r q])
end
end
def EL(K:QA):V->LV->Hp->VK->Prop:=λx z H Q=>∃a b v w h k,x=.ref a/\z=[.ref b,v]/\H a=jr (.dT w h)/\CG K H h/\yP K H b k/\h.9<kn /\
   (∀u,dH h k=jr u->Q u H)/\(dH h k=kv->∀y,Q v (CA H a (.dT y (LM h k b v))))
theorem j3{X:Cx}(R:X.A.units+66<gp):Sa X "dict.setdefault" (EL X.K):=by
 intro m s L H x N v P Q I o r h;let#[a,b,y,ep,f,k,rfl,rfl,e,hk,F,l,Z,Y]:=h;cases o;let#[u,O,rfl,q,g]:=Tf r;cases q;let#[W,n,M,w,G]:=rL I e hk;have hl:(LM f k b y).9<=sizeLine:=by have:=tU f k b y;omega
 refine rV (kJ ()) (YU I F) G (by rw[<- qI w];exact W) n (λp C=>?_) λE S j B=>?_;have z:=w.val k;rw[C]at z;cases ev:dH f k with|none=>rw[ev]at z;exact(show False from z).elim|some u=>rw[ev]at z;exact#[u,H,I.tok _,z,Z u ev]
 have z:=w.val k;rw[E]at z;cases ev:dH f k with|some u=>rw[ev]at z;exact(show False from z).elim|none=>let#[i,J]:=ON (t':=_) I (by rw[e];exact True.intro) n hl (w.put k b g) j B;exact#[y,_,J,g,Y ev i]
def jAA(ep n:Nat)(a:ko):It :=
  #[λi H=>∃h p,H a=jr (.dT ep h)/\h.9=n/\h[i]?=jr p,
   λi H v x=>∃q p,H q=kv/\v=.ref q/\x=CA H q (.tup [.ref p.2.1,p.2.2])/\∀h,H a=jr (.dT ep h)->h[i]?=jr p,
   λi H=>∃h,H a=jr (.dT ep h)/\h.9=n/\n<=i]
theorem MH{α h:Type}{R:α->h->Prop}:∀{l:List α}{m:List h}{i:Nat}{x:α},x0 R l m->l[i]?=jr x->∃y,m[i]?=jr y/\R x y
 |_,_,i,_,.nil,e=>by simp at e|_,_,0,_,.cons r _,e=>by simp at e;subst e;exact#[_,rfl,r]|_,_,i+1,x,.cons _ t,e=>by let#[y,u,z]:=MH (i:=i) (x:=x) t (by simpa using e);exact#[y,by simpa using u,z]
theorem kW{P:k5}{w:xb}{K:QA}{es:List Expr}{kk:Nat}{pp:Pos}{a it:ko}{n ep:Nat}:Turn0 P w K (.Tuple es kk pp) (jAA ep n a) [it] it (λi h=>∃ok Y,ej h it a i n ep ok Y) where
 mem:=by simp
 obj:=λi h st b hb=>by let#[ok,Y,st]:=st;rw[QJ]at hb;subst hb;exact#[_,st,λv q=>by cases(show Data.fields _=Data.cell v from q)]
 keep:=λi h h' st k=>by let#[ok,Y,st]:=st;exact#[ok,Y,k it (by simp) _ st]
 item:=by
  intro X J C L hc i Z s σ H E I A st G;subst J C L;let#[j,p,e,F,ep]:=G;let#[ok,Y,st]:=st;let#[z,y,xs,r,o,u,N,h2,M,B,h5]:=(show uB X.prog X.w H s.1 a (.dT _ j) from I.hok a _ e)
  have l:u.size=n:=by have:=i3 qO B;rw[QC,Qz]at this;rw[this,<- qI r,F]
  let#[q,hq,rq]:=MH r ep;have he:u[i]?=jr (fk (EE X.prog X.w) q):=by
   have:u.toList[i]?=jr (fk (EE X.prog X.w) q):=by rw[B,Qa,hq];rfl
   simpa using this
  subst l;refine u8 st N M he λh' b1 b3 b4 b5=>#[_,rfl,wpAny_letOwnedTupleGo_items b1 λm c1 sb=>?_]
  have hp:=I.hok.fresh (QT s.1.1.size);have W:it<s.1.1.size:=QY st;have g:∀b∈[it],b<s.1.1.size:=λb hb=>by rw[QJ]at hb;subst hb;exact W
  have kept:∀b o,b∉[it]->s.1.get? b=jr o->m.get? b=jr o:=λb o hb q=>by rw[QJ]at hb;exact(sb.2 b hb).trans (b5 b o hb q)
  have f:m.get? s.1.1.size=jr { cls:=.type "tuple",data:=.seq (qG [.ref q.2.1,q.2.2]) }:=(sb.2 _ (wv W)).trans b3;have I1:=I.pair (x:=.ref p.2.1) (y:=p.2.2) (h':=s.1.push { cls:=.type "tuple",data:=.seq (qG [.ref q.2.1,q.2.2]) }) (t':=s.toks) (λb o e=>QH _ e) (QT _) (QS _ rfl) (show kx q.2.1=kx p.2.1 by rw[rq.2.1]) rq.2.2;have I2:=I1.turnedL (h':=m) (t':=s.toks) (ch:=[it]) (λb o hb e=>by
   rcases QBU e with⟨q1,q2⟩| q;subst q1 q2;exact f;exact kept b o hb q) λb hb=>by
   let#[f0,S,f2,R,Q,O]:=A b hb;exact#[by rw[uA (Qm (g b hb))];exact f0,S,f2,R,Q,O]
  refine#[.ref s.1.1.size,_,I2,rfl,#[s.1.1.size,p,hp,rfl,rfl,λkvs' g1=>?_],#[_,_,c1],λb hb=>?_];rw[e]at g1;cases g1;exact ep;rw[uA (Qm (g b hb))];exact(A b hb).1
 done:=by
  intro X J C L hc i Z s σ H E I A st G;subst J C L;let#[j,e,F,ep]:=G;let#[ok,Y,st]:=st;let#[z,y,xs,r,o,u,N,h2,M,B,h5]:=(show uB X.prog X.w H s.1 a (.dT _ j) from I.hok a _ e)
  have l:u.size=n:=by have:=i3 qO B;rw[QC,Qz]at this;rw[this,<- qI r,F]
  subst l;let#[f0,S,f2,R,Q,O]:=A it (by simp);exact gR (I.ok.hd hc) st N M (QA7 ep) λh' eb=>#[rfl,I.turned (t':=s.toks) (λb o hb e=>eb b o hb e) f0 S R Q O]
section
variable{prog:k5}{w:xb}{A:x2}{E:mC}{s:kt}
section
variable{d h:ko}{x:Obj}{es:Array b8}{ep i:Nat}{Q:Option kb->kt->Prop}
theorem EG:QAA "dict_keyiterator"=false:=by decide +kernel
theorem Ce{Q:mC}(v:(d==zl)=kd)(y:s.1.get? d=jr x)(hc:x.cls=.type "dict")(z:x.data=.dict es ep)
  (q:Q (.ref s.1.1.size) { s with heap:=s.1.push { cls:=.type "dict_keyiterator",data:=.fields (qG [.ref d,.int 0 0,.int es.size 0,.int ep 0]) } }) :
  ku (k0 prog w) A (la (.ref d)) Q E s:=by
 have u:s.TypeIs (.ref d) "dict":=#[_,y,hc]
 refine QB7 u QCR (qR QCR u F.entry_dict_iter ?body (F.args_dict_iter_1 _))
 case body =>
  show ku _ _ (bind _ _) _ _ _;refine QF ?sl
  case sl =>
   show ku _ _ (bind _ _) _ _ _;refine QF (Wt u (QL ?go))
   case go =>
    have e:Wu d=tv PUnit.unit:=by unfold Wu;rw[v];rfl
    show ku _ _ (Wu d >>= _) _ _ _;rw[e];refine QF (QL (QF (wC y z (QF (w8 y z (QF (qM (QL #[_,rfl,"dict_keyiterator",_,#[_,QS _ rfl,rfl],qb.lookup,?_]))))))));simpa[h7]using q
theorem ye{e:b8}
  (v:s.1.IsKeyIter h d i es.size ep) (u:s.1.get? d=jr x) (k:x.data=.dict es ep) (g:es[i]?=jr e)
  (q:∀h',h'.IsKeyIter h d (i+1) es.size ep->qY h s.1 h'->Q (jr e.key) { s with heap:=h' }) :
  ku (k0 prog w) A (me (.ref h)) Q E s:=by
 have a:=v.typeIs;let#[l,b,f,y]:=id v;show ku _ _ (bind _ _) _ _ _;refine QF (QAB (qd a qb (qR qb a W0 ?_ (Wv _))));show ku _ _ (bind _ _) _ _ _;refine QF (QL (QF (QF (QF (q0 a (QL (QF (QAe b y ?_))))))));rw[EG];show ku _ _ (if(kx d==j2)=kf then _ else _) _ _ _;rw[a8 (show ¬ (kx d==j2)=kf from QG)];show ku _ _ (wP (.ref d) >>= _) _ _ _;refine QF (QL (QF (wC u k ?_)));rw[a8 (show ¬ (((es.size:Nat):Int) != ((es.size:Nat):Int))=kf by simp)];refine QF (QL (QF (w8 u k ?_)));rw[a8 (show ¬ (((ep:Nat):Int) != ((ep:Nat):Int))=kf by simp)];refine QL ?_;have j:(if((i:Nat):Int)<0 then kv else es[((i:Nat):Int).toNat]?)=jr e:=by rw[a8 (),qa];exact g
 simp only[j];refine QF ?_;show ku _ _ (d3 (.ref h) >>= _) _ _ _;refine QF (q0 a (QL (QF (QBJ a ?_))));rw[EG];show ku _ _ (setField (.ref h) 1 _ >>= _) _ _ _;refine QF (QAd b y (by simp) ?_);have z:(s.1.update h (Obj.mapFields (·.setIfInBounds 1 (h7 ((i:Int)+1))))).IsKeyIter h d (i+1) es.size ep :=
  #[_,wM _ b (QBI (WY y _)),(QB5 ..).trans f,by rw[WY y];simp[h7]]
 refine QF (qm (QF (QBJ (s:={ s with heap:=s.1.update h (Obj.mapFields (·.setIfInBounds 1 (h7 ((i:Int)+1)))) }) z.typeIs ?_)));show ku _ _ (tv e.key) _ _ _;exact QL (QL #[_,rfl,QL (q _ z (Q5 ..))])
theorem OT(f:A.handled=kv)
  (z:s.1.IsKeyIter h d i es.size ep) (y:s.1.get? d=jr x) (v:x.data=.dict es ep) (g:es[i]?=kv)
  (q:∀h',QAF h s.1 h'->Q kv { s with heap:=h' }) :
  ku (k0 prog w) A (me (.ref h)) Q E s:=by
 have k:=z.typeIs;let#[n,e,j,u]:=id z;show ku _ _ (bind _ _) _ _ _;refine QF (QAB (qd k qb (qR qb k W0 ?_ (Wv _))));show ku _ _ (bind _ _) _ _ _;refine QF (QL (QF (QF (QF (q0 k (QL (QF (QAe e u ?_))))))));rw[EG];show ku _ _ (if(kx d==j2)=kf then _ else _) _ _ _;rw[a8 (show ¬ (kx d==j2)=kf from QG)];show ku _ _ (wP (.ref d) >>= _) _ _ _;refine QF (QL (QF (wC y v ?_)));rw[a8 (show ¬ (((es.size:Nat):Int) != ((es.size:Nat):Int))=kf by simp)];refine QF (QL (QF (w8 y v ?_)));rw[a8 (show ¬ (((ep:Nat):Int) != ((ep:Nat):Int))=kf by simp)];refine QL ?_;have l:(if((i:Nat):Int)<0 then kv else es[((i:Nat):Int).toNat]?)=none:=by rw[a8 (),qa];exact g
 simp only[l];refine QF ?_;show ku _ _ (d3 (.ref h) >>= _) _ _ _;refine QF (q0 k (QL ?_));rw[EG];show ku _ _ (setField (.ref h) 0 .none >>= _) _ _ _;refine QF (QAd e u (by simp) ?_);refine QF (m:=nP (.type "StopIteration") []) ?_;simp only[nP,nt];refine QF (qM ?made (by size_fits));refine QF (m:=h8 _ _) (QCY (a:=j2) (by first|rfl | (rw[h8];rfl)) ?arg);refine qM ?made2 (by size_fits);simp only[tj];refine QF (QBv ?_);first|rw[show A.in1.handled=kv from f]|rw[f]
 refine QF (QL (QCZ ?_));refine QF (Wx (T:="StopIteration") (b:=kf) #[_,QS _ rfl,rfl] (by kernel_rfl) ?_);rw[a9 rfl];exact QL (q _ (((Q5 ..).extBut.push _).push _))
end
end
noncomputable def jAC(ep n:Nat)(a:ko):It :=
  #[λi H=>∃h p,H a=jr (.dT ep h)/\h.9=n/\h[i]?=jr p,
   λi H v x=>x=H/\∀h,H a=jr (.dT ep h)->∃p,h[i]?=jr p/\v=.ref p.2.1,
   λi H=>∃h,H a=jr (.dT ep h)/\h.9=n/\n<=i]
theorem G0{P:k5}{w:xb}{K:QA}{S:Expr}{a it:ko}{n ep:Nat}:Turn P w K S (jAC ep n a) [it] it (λi h=>h.IsKeyIter it a i n ep) where
 mem:=by simp
 obj:=λi h st b hb=>by let#[o,e,c,d]:=st;rw[QJ]at hb;subst hb;exact#[o,e,λv z=>by rw[d]at z;cases z]
 keep:=λi h Y st k=>st.at λo e=>k it (by simp) o e
 item:=by
  intro X B Z C hc i u s Q H E I l st A;subst B Z C;let#[f,p,e,W,ep]:=A;let#[z,y,R,r,o,x,G,h2,F,m,h5]:=(show uB X.prog X.w H s.1 a (.dT _ f) from I.hok a _ e)
  have g:x.size=n:=by have:=i3 qO m;rw[QC,Qz]at this;rw[this,<- qI r,W]
  let#[q,hq,rq]:=MH r ep;have he:x[i]?=jr (fk (EE X.prog X.w) q):=by
   have:x.toList[i]?=jr (fk (EE X.prog X.w) q):=by rw[m,Qa,hq];rfl
   simpa using this
  subst g;let#[O,N,f2,M,L,J]:=l it (by simp);refine ye st G F he λY j sb=>?_;have I1:Inv X u Q H { s with heap:=Y }:=I.turned (t':=s.toks) (λb o hb e=>(sb.2 b hb).trans e) O N M L J;let#[oi,ei,ci,di]:=id j;exact#[_,rfl,go_of (s:={ s with heap:=Y }) ei ci di (by decide) #[.ref p.2.1,H,I1,show kx q.2.1=kx p.2.1 by rw[rq.2.1],#[rfl,λks hk=>by rw[e]at hk;cases hk;exact#[p,ep,rfl]],j,λb hb=>(l b hb).1]]
 done:=by
  intro X B Z C hc i u s Q H E I l st A;subst B Z C;let#[f,e,W,ep]:=A;let#[z,y,R,r,o,x,G,h2,F,m,h5]:=(show uB X.prog X.w H s.1 a (.dT _ f) from I.hok a _ e)
  have g:x.size=n:=by have:=i3 qO m;rw[QC,Qz]at this;rw[this,<- qI r,W]
  subst g;let#[O,N,f2,M,L,J]:=l it (by simp);exact OT (I.ok.hd hc) st G F (QA7 ep) λY eb=>#[rfl,I.turned (t':=s.toks) (λb o hb e=>eb b o hb e) O N M L J]
 self:=λ_ _ _ _ _ st h=>wpAny_pyIter_keyiter st h
open PySem.SeqAt
open AutoSeq1 (wpAny_loadPart')
open MeetsSeq MeetsSeq2 MeetsSeq3
noncomputable def Oo:LS->LS->Bool
 |[],[]=>kd|[],_::_=>kf|_::_,[]=>kd|x::a,y::b=>if(x==y)=kf then Oo a b else decide (x.cps.toList<y.cps.toList)
theorem sQ{vs:LW}{z:LS}(h:ti vs z):vs.9=z.9/\∀(i:Nat) (x:Str),z[i]?=jr x->∃t:Tok,vs[i]?=jr (Value.str x t):=by
 induction h with
 |nil=>exact#[rfl,λi x e=>by simp at e]|cons y t _ u =>
  refine#[by rw[QM,QM,u.1],λi x e=>?_];cases i with|zero=>simp at e;subst e;exact#[t,rfl]|succ i=>simp at e;simpa using u.2 i x e
theorem J3(l b:ko)(v x:Array kb)(n B:Nat)(L X:Option ko)(W o:Array (Option kb))(a ts:LS)(I:ti v.toList a)(G:ti x.toList ts)(k:Nat) :
  ∀i:Nat,v.size - i=k->i<=v.size->i<=x.size->Meets (Builtin.«list.__eq__.loop» #[[.ref l,.ref b,h7 i,h7 0],[]])
   (λA R s=>s.1.get? l=jr { cls:=.type "list",dict:=L,data:=.seq v n,slots:=W }/\s.1.get? b=jr { cls:=.type "list",dict:=X,data:=.seq x B,slots:=o } /\
    R (.ok (.ret (.bool (Oo (a.drop i) (ts.drop i))))) s):=by
 let#[S,Q]:=sQ I;let#[O,N]:=sQ G;rw[Qz]at S O;induction k with
 |zero =>
  intro i hk F p e w A R s h;let#[E,g,d,Z,K]:=s;let#[hl,hb,h]:=h;wp_walk using qE hl,qE hb;have m:v[((i:Nat):Int).toNat]?=none:=by simp;omega
  rw[m];wp_walk using qE hl,qE hb;have Y:a.drop i=[]:=by simp;omega
  rw[Y]at h;have f:Oo [] (ts.drop i)=decide (v.size<x.size):=by
   cases z:ts.drop i with
   |nil =>
    have:ts.9<=i:=by simpa using z
    exact(dF ()).symm
   |cons y r =>
    have:i<ts.length:=by by_cases c:i<ts.9;exact c;rw[Wk ()]at z;cases z
    exact(dT ()).symm
  rw[f]at h;exact h
 |succ k C =>
  intro i hk F p e w A R s h;let#[E,g,d,Z,K]:=s;let#[hl,hb,h]:=h;wp_walk using qE hl,qE hb;have j:i<a.length:=()
  let#[t,ev]:=Q i a[i] (Qh j);have m:v[((i:Nat):Int).toNat]?=jr (.str a[i] t):=by simpa using ev
  rw[m];have Y:a.drop i=a[i]::a.drop (i+1):=QAf j;rw[Y]at h;by_cases c:i<ts.9;let#[u,J]:=N i ts[i] (Qh c);have f:x[((i:Nat):Int).toNat]?=jr (.str ts[i] u):=by simpa using J
  have M:ts.drop i=ts[i]::ts.drop (i+1):=QAf c;rw[M]at h;have h:R (.ok (.ret (.bool (if(a[i]==ts[i])=kf then Oo (a.drop (i+1)) (ts.drop (i+1)) else decide (a[i].cps.toList<ts[i].cps.toList))))) _:=h;rw[f];refine QF (EqAt.str_str a[i] t ts[i] u e w _ _ ?_);have hc:((i:Int)+1)=((i+1:Nat):Int):=by push_cast;rfl
  cases q:(a[i]==ts[i]) with|true=>rw[q,a9 rfl]at h;wp_walk;rw[hc];exact#[QAv plain_eq_loop _,QAG entry_eq_loop (by rw[WE plain_eq_loop _];exact C (i+1) () () () e w A R _ #[hl,hb,h])]|false=>rw[q,a8 QG]at h;wp_walk using qE hl,qE hb;rw[m,f];show ku _ _ (vx .Lt (.str a[i] t) (.str ts[i] u) >>= _) _ _ _;refine QF (PySem.P.lt_str ?_);exact QL h
  have f:x[((i:Nat):Int).toNat]?=none:=by simp;omega
  rw[f];wp_walk using qE hl,qE hb;rw[Wk (show ts.9<=i by omega)]at h;have:decide (v.size<x.size)=false:=dF ();have h:R (.ok (.ret (.bool kd))) _:=h;rw[<- this]at h;exact h
theorem V3(l b:ko)(y x:Array kb)(n e:Nat)(f v:Option ko)(a z:Array (Option kb))(k ts:LS)(j:ti y.toList k)(i:ti x.toList ts) :
  Meets (Builtin.«list.__lt__» #[[.ref l,.ref b],[]])
   (λA R s=>s.1.get? l=jr { cls:=.type "list",dict:=f,data:=.seq y n,slots:=a }/\s.1.get? b=jr { cls:=.type "list",dict:=v,data:=.seq x e,slots:=z } /\
    R (.ok (.ret (.bool (Oo k ts)))) s):=by
 intro u w A R s h;let#[p,g,d,m,o]:=s;let#[hl,hb,h]:=h;have q:=AutoSeq1.sub_list_list;wp_walk using qE hl,qE hb;exact#[QAv plain_eq_loop _,QAG entry_eq_loop (by rw[WE plain_eq_loop _];exact J3 l b y x n e f v a z k ts j i _ 0 rfl (Qv _) (Qv _) u w A R _ #[hl,hb,h])]
section
variable{prog:k5}{w:xb}{A:x2}{E:mC}{s:kt}
theorem VW{l b:ko}{y x:Array kb}{n a:Nat}{e u:Option ko}{k z:Array (Option kb)}{v ts:LS}{Q:Bool->kt->Prop}(f:A.units<gp)(hl:s.1.get? l=jr { cls:=.type "list",dict:=e,data:=.seq y n,slots:=k })(hb:s.1.get? b=jr { cls:=.type "list",dict:=u,data:=.seq x a,slots:=z })
  (i:ti y.toList v) (g:ti x.toList ts) (h:Q (Oo v ts) s):ku (k0 prog w) A (keyLt' tt (.ref l) (.ref b)) Q E s:=by
 rw[keyLt'_oneType,oneLt'_eq];simp only[if_true];refine QF (wpAny_cRoomFor f (QF (wpAny_callSpecialIfBound?_slot (T:="list") #[_,hl,rfl] F.slot_list_lt ?_)));refine QB4 F.slot_list_lt #[_,hl,rfl] F.entry_list_lt (F.args_list_lt_2 _ _) (V3 l b y x n a e u k z v ts i g) #[hl,hb,?_];exact wW h
end
end L2.L3
namespace L2.L3
open PySem PySem.Spec PyProof.Rows PySem.W
def MC{α:Type}(n:Nat)(P:α->Prop):KasT α->Prop
 | .ret a=>P a|.ask i j k=>i<n/\j<n/\∀b,MC n P (k b)
theorem MC.bnd{α x:Type}{n:Nat}{P:α->Prop}{R:x->Prop}{f:α->KasT x}(y:∀a,P a->MC n R (f a)):∀{t:KasT α},MC n P t->MC n R (t.bind f)
 | .ret a,h=>y a h|.ask i j k,#[h1,h2,h]=>#[h1,h2,λb=>MC.bnd y (h b)]
theorem MC.wp{α:Type}{n:Nat}{P:α->Prop}{x:Nat->Nat->(Bool->kt->Prop)->kt->Prop}{Q:α->kt->Prop}{s:kt}(y:∀i j,i<n->j<n->∀C:Bool->kt->Prop,(∀b,C b s)->x i j C s)(z:∀a,P a->Q a s):∀{t:KasT α},MC n P t->t.kasWp x Q s
 | .ret a,h=>z a h|.ask i j k,#[h1,h2,h]=>y i j h1 h2 _ λb=>MC.wp y z (h b)
def Pm(n:Nat)(p:Array Nat):Prop:=p.Perm (qG (Qo n))
section
variable{n:Nat}
section
variable{p:Array Nat}
theorem Pm.lt(h:Pm n p)(x:0<n)(i:Nat):p.getD i 0<n:=by
 by_cases c:i<p.size;have e:p.getD i 0=p[i]:=by simp[QB8,c]
 rw[e];have m:p[i]∈p.toList:=by simp
 have:=(qH.mp h).mem_iff.mp m;simpa using this;have e:p.getD i 0=0:=by simp[QB8,c]
 rw[e];exact x
theorem Pm.rev(h:Pm n p)(i j:Nat):Pm n (kas_rev p i j):=(mirror_perm _ _ _ _).trans h
theorem JS{p:Array Nat}(h:Pm n p)(x:0<n):∀(f m:Nat),MC n (λ_=>True) (kas_asc p f m)
 |0,m=>trivial|f+1,m=>#[h.lt x _,h.lt x _,λb=>by
  cases b with|true=>exact trivial|false=>exact JS h x f (m+1)]
theorem XJ(x:0<n):∀(f:Nat) {p:Array Nat}(h:Pm n p) (m q:Nat),MC n (λr=>Pm n r.1) (kas_desc f p m q)
 |0,p,h,m,q=>h|f+1,p,h,m,q=>#[h.lt x _,h.lt x _,λb=>by
  cases b with
  |true=>show MC n _ (if q > 0 then _ else _);split;exact XJ x f (h.rev _ _) _ _;exact XJ x f h _ _|false =>
   refine#[h.lt x _,h.lt x _,λb=>?_];cases b with|true=>exact h|false=>exact XJ x f h _ _]
theorem yQ(x:0<n)(h:Pm n p)(a b:Nat):MC n (λr=>Pm n r.2) (kas_tail3 a b p):=by refine MC.bnd (f:=λm=>.ret (m,kas_rev p 0 a)) (λm _=>?_) (JS (h.rev _ _) x _ _);exact h.rev _ _
theorem VJ(x:0<n)(h:Pm n p)(a b:Nat):MC n (λr=>Pm n r.2) (kas_descPart a b p):=by refine MC.bnd (λr y=>?_) (XJ x _ h _ _);split;exact yQ x (Pm.rev y _ _) _ _;exact yQ x y _ _
theorem B4(x:0<n)(h:Pm n p)(b:Nat):MC n (λr=>Pm n r.2) (kas_count b p):=by
 refine MC.bnd (λm _=>?_) (JS h x _ _);split;exact h;split
 ·refine#[h.lt x _,h.lt x _,λc=>?_]
  cases c with|true=>exact h|false=>exact VJ x (h.rev _ _) _ _
 exact VJ x h _ _
theorem PK(x:0<n){p:Array Nat}(h:Pm n p)(k:Nat):∀(f l r:Nat),MC n (λ_=>True) (kas_place p k f l r)
 |0,l,r=>trivial|f+1,l,r=>by
  show MC n _ (if l ≥ r then _ else _);split;exact trivial;refine#[h.lt x _,h.lt x _,λb=>?_];cases b with|true=>exact PK x h k f _ _|false=>exact PK x h k f _ _
theorem AZ(x:0<n):∀(f:Nat) {p:Array Nat}(h:Pm n p) (k:Nat),MC n (Pm n) (kas_bin f p k)
 |0,p,h,k=>h|f+1,p,h,k=>MC.bnd (λl _=>AZ x f ((bubble_perm _ _ _).trans h) _) (PK x h _ _ _ _)
theorem Ba(x:0<n):MC n (Pm n) (kas_sort n):=by refine MC.bnd (λr h=>?_) (B4 x (QBK _) _);split;exact AZ x _ h _;exact h
end
end
theorem pP{α:Type}(vs:List α)(d:α):(Qo vs.9).map (λi=>vs.getD i d)=vs:=by apply qX;intro i;rw[Qa];by_cases c:i<vs.9;rw[ql c];simp[c];rw[Qk (by simp;omega),Qk ()];rfl
section
variable{prog:k5}{w:xb}{A:x2}{E:mC}{s:kt}
theorem Bs{M:Model}{vs:LW}{Q:SortKind->kt->Prop}(k:2<=vs.9)(z:∀v∈vs,s.TypeIs v "list")(h:Q tt s):ku M A (keyKind' vs.toArray) Q E s:=by
 cases vs with
 |nil=>simp at k|cons v r =>
  rw[keyKind'_eq,QB9,map_eq_pure_bind];refine QF (QF (kas_mapM (r:=kv) _ (λu y e q=>?_) (QL ?_)));rw[kas_first_eq];exact QF (QCI (z u y) (QL q));rw[a8 (by simp),a8 (by simp),oneTypeOnly'_eq,QB9,map_eq_pure_bind];refine QF (QF (QF (kas_mapM (r:=.type "list") _ (λu y e q=>QCI (z u y) q) (QL ?_))));have b:((v::r).map λ_=>Value.type "list").toArray[0]?=jr (.type "list"):=by simp
  have a:(((v::r).map λ_=>Value.type "list").toArray.all λx=>x==Value.type "list")=true:=by simp only[List.all_toArray,List.all_map,Q9];intro _ _;rfl
  rw[b];simp only[a,if_true];exact QL (QL h)
theorem Tl{a:ko}{vs:LW}{n:Nat}{P:PySem.Fin->kt->Prop}(Y:s.1.get? a=jr (th "list" vs.toArray n))(K:vs.9<64)(S:∀v∈vs,∃b o,v=.ref b/\b≠a/\s.1.get? b=jr o/\o.cls=.type "list")
  (G:∀B:vu,(∀b o,b≠a->s.1.get? b=jr o->B.get? b=jr o)->∀x∈vs,∀y∈vs,∀C:Bool->kt->Prop,(∀k,C k { s with heap:=B })->ku (k0 prog w) A (keyLt' tt x y) C (λ_ _=>False) { s with heap:=B })
  (k:∀out:LW,out.Perm vs->P (.done (.ret .none)) { s with heap:=sortedHeap s.1 a vs out.toArray }):ku (k0 prog w) A (Builtin.«list.sort» #[[.ref a],[]]) P E s:=by
 have ha:a<s.1.1.size:=QY Y;have J:=Q5 s.1 a (Q3 λ_=>(#[]:Array kb));obtain⟨Z,X⟩:∃Z,(s.1.update a (Q3 λ_=>(#[]:Array kb))).get? a=jr (th "list" #[] Z):=#[_,QAH Y λ_=>#[]]
 have r:(((s.1.update a (Q3 λ_=>(#[]:Array kb))).push (th "tuple" vs.toArray 0)).push (th "list" #[] 0)).get? a=jr (th "list" #[] Z):=QH _ (QH _ X);have kept:∀b o,b≠a->s.1.get? b=jr o->(((s.1.update a (Q3 λ_=>(#[]:Array kb))).push (th "tuple" vs.toArray 0)).push (th "list" #[] 0)).get? b=jr o:=λb o hb e=>QH _ (QH _ ((J.2 b hb).trans e));rw[list_sort_plain];refine QF (QCJ Y rfl (QF (WZ Y rfl ?_ (by rw[QN];omega) (Qv _))));refine QF (QBg X rfl (QF (QBZ ?_ (by show vs.9<=_;omega))));refine QF (QAw (qm ?_) (Qv _));show ku (k0 prog w) A _ P E { s with heap:=((s.1.update a (Q3 λ_=>(#[]:Array kb))).push (th "tuple" vs.toArray 0)).push (th "list" #[] 0) };dsimp only;have fin:∀out:LW,out.Perm vs->ku (k0 prog w) A (do
   let h:=(<- seqEpoch a) != Z
   QAx (.ref a) λ_=>out.toArray
   if h then rule "list.sort.modified";raiseError "ValueError" "list modified during sort"
   ret .none) P E { s with heap:=((s.1.update a (Q3 λ_=>(#[]:Array kb))).push (th "tuple" vs.toArray 0)).push (th "list" #[] 0) }:=λout m=>by
  have hl:=m.length_eq;refine QF (QBg r rfl (QF (WZ r rfl ?_ (Qv _) (by rw[QN];omega))));simp only[bne_self_eq_false,Qu,if_false];exact QL (k out m)
 by_cases I:vs.9<2;have u:vs.toArray.size<2:=by rw[QN];exact I
 rw[a9 u,a9 u];refine QF (QL ?_);rw[QCc];refine QF (QL ?_);have e:(arrOf (QCA general' (vs.toArray.zip vs.toArray) #[] 7 kv)).map (·.2)=vs.toArray:=by show(vs.toArray.zip vs.toArray).map (·.2)=_;apply WH.mp;simp[WJ]
 dsimp only;rw[e];exact fin vs (QBa _);have u:¬ vs.toArray.size<2:=by rw[QN];exact I
 rw[a8 u,a8 u];refine QF (Bs () (λv hv=>?_) ?_);let#[b,o,rfl,hb,e,c]:=S v hv;exact#[o,kept b o hb e,c];have F:QCA tt (vs.toArray.zip vs.toArray) #[] 7 kv=kas_st tt (aj vs) (qG (Qo vs.9)):=by have e:=kas_range (aj vs);rw[pairsOf_size]at e;show QCA tt (aj vs) #[] 7 kv=QCA tt ((qG (Qo vs.9)).map (kas_item (aj vs))) #[] 7 kv;rw[e]
 have all:=Ba (n:=vs.9) ();have f:(kas_sort vs.9).kasWp (kas_cmp prog w A tt (aj vs)) (λp g=>g={ s with heap:=((s.1.update a (Q3 λ_=>(#[]:Array kb))).push (th "tuple" vs.toArray 0)).push (th "list" #[] 0) }/\Pm vs.9 p) { s with heap:=((s.1.update a (Q3 λ_=>(#[]:Array kb))).push (th "tuple" vs.toArray 0)).push (th "list" #[] 0) }:=by
  rw[<- kas_ask_eq];refine MC.wp (λi j O N C H=>?_) (λp m=>#[rfl,m]) all;have gi:vs.getD i j2∈vs:=by
   have:vs.getD i j2=vs[i]:=by simp[O]
   rw[this];exact WL _
  have gj:vs.getD j j2∈vs:=by
   have:vs.getD j j2=vs[j]:=by simp[N]
   rw[this];exact WL _
  exact G _ kept _ gi _ gj C H
 have l:=kas_runs (prog:=prog) (w:=w) (A:=A) (E:=E) (Q:=λ_ z g=>∃p:Array Nat,p.size=vs.9/\arrOf z=p.map (kas_item (aj vs))/\ai z=kv/\g={ s with heap:=((s.1.update a (Q3 λ_=>(#[]:Array kb))).push (th "tuple" vs.toArray 0)).push (th "list" #[] 0) }/\Pm vs.9 p)
  () K (λM z g a1 a2 a3 a4=>#[M,a1,a2,a3,a4]) f
 rw[<- F]at l;refine QF (qw l ?_ λ_ _ e=>e);rintro⟨⟨⟩,z⟩ g ⟨p,m,W,R,rfl,L⟩;dsimp only;have q:(arrOf z).map (·.2)=qG (p.toList.map λi=>vs.getD i j2):=by apply WH.mp;rw[W,Array.map_map,Array.toList_map];exact wK λi _=>by show(kas_item (aj vs) i).2=_;rw[kas_item_eq]
 rw[q,R];refine fin _ ?_;have:=(qH.mp L).map λi=>vs.getD i j2;refine this.trans ?_;show((Qo vs.9).map λi=>vs.getD i j2).Perm vs;rw[pP]
theorem zc{l:ko}{vs:LW}{Q:mC}(hl:s.1.IsList l vs.toArray)(g:vs.9<64)(X:∀v∈vs,∃b o,v=.ref b/\s.1.get? b=jr o/\o.cls=.type "list")
  (i:∀f:vu,(∀b o,s.1.get? b=jr o->f.get? b=jr o)->∀x∈vs,∀y∈vs,∀C:Bool->kt->Prop,(∀k,C k { s with heap:=f })->ku (k0 prog w) A.in1.in1 (keyLt' tt x y) C (λ_ _=>False) { s with heap:=f })
  (k:∀out:LW,out.Perm vs->Q (.ref (s.1.1.size+1)) { s with heap:=sortedAll s.1 vs out.toArray }):ku (k0 prog w) A (Er (.builtin "sorted") [.ref l]) Q E s:=by
 refine Calls.call_function_entry kind_sorted plain_sorted entry_sorted (args_sorted1 _) ?_;unfold Builtin.«sorted»;refine QF (m:=checkCount "sorted" 1 1 _) (QL (QF (collect_list hl ?_ ())));refine QF (QAw ?_ (by show vs.9<=_;omega));have u:((s.1.push (th "list" #[] 0)).update s.1.1.size (Q3 (·++vs.toArray))).1.size=s.1.1.size+1:=by rw[QCS,size_push']
 have a:(((s.1.push (th "list" #[] 0)).update s.1.1.size (Q3 (·++vs.toArray))).push (th "list" vs.toArray 0)).get? (s.1.1.size+1)=jr (th "list" vs.toArray 0):=by rw[<- u];exact QS _ rfl
 have z:∀b o,s.1.get? b=jr o->(((s.1.push (th "list" #[] 0)).update s.1.1.size (Q3 (·++vs.toArray))).push (th "list" vs.toArray 0)).get? b=jr o:=λb o q=>by have h:b<s.1.1.size:=QY q;refine QH _ ?_;rw[Heap.get?_update_ne _ _ _ _ (Qm h)];exact QH _ q
 show ku _ _ _ _ _ { s with heap:=((s.1.push (th "list" #[] 0)).update s.1.1.size (Q3 (·++vs.toArray))).push (th "list" vs.toArray 0) };rw[u];refine QF (qm (qR ab #[_,a,rfl] ah ?body (args_list_sort _)))
 case body =>
  refine Tl (s:={ s with heap:=((s.1.push (th "list" #[] 0)).update s.1.1.size (Q3 (·++vs.toArray))).push (th "list" vs.toArray 0) }) a g (λv hv=>?_) (λf j x p y n C Y=>?_) λout r=>#[_,rfl,QL #[_,rfl,k out r]]
  let#[b,o,e,q,c]:=X v hv;have h:b<s.1.1.size:=QY q;exact#[b,o,e,Qm (WC h),z b o q,c];refine i f (λb o q=>?_) x p y n C Y;have h:b<s.1.1.size:=QY q;exact j b o (Qm (WC h)) (z b o q)
end
section
variable{prog:k5}{w:xb}{A:x2}
theorem Em(Z:A.handled=kv)(j:ko)(z:Src)(m:z.adr≠j)(y:Array kb)(c:Nat) :
  Draws prog w A j [j,z.adr] (c+y.size) (λi v=>∃k,i=c+k/\y[k]?=jr v) (λi h=>∃k,i=c+k/\AD h j z k/\OB h z y) where
 live:=λ_ _ #[_,_,p,_]=>let#[o,e,_]:=p.obj;#[o,e]
 frame:=λ_ h f #[k,e,p,q] u=>#[k,e,p.keep λo x=>u j (by simp) o x,by
  cases z with|l a=>exact QCX.at q λo x=>u a (by simp[Src.adr]) o x|t a=>let#[o,Y,X]:=q;exact#[o,u a (by simp[Src.adr]) o Y,X]]
 item:=λi s Q E W #[k,e,p,q] n=>by
  have hk:k<y.size:=()
  exact ze p q (x:=y[k]) (by simp[hk]) λf g b=>n _ f s.toks #[k,e,by simp[hk]] #[k+1,(),g,Xj q b m] b
 done:=λs Q E #[k,e,p,q] r=>by
  have hk:k=y.size:=()
  exact c8 Z p q (by simp[hk]) r
theorem Im(r:A.handled=kv)(j:ko)(z:Src)(y:Array kb)(n k:Nat)(v:y[k]?=kv) :
  Draws prog w A j [j,z.adr] n (λ_ _=>False) (λi h=>i=n/\AD h j z k/\OB h z y) where
 live:=λ_ _ #[_,p,_]=>let#[o,e,_]:=p.obj;#[o,e]
 frame:=λ_ h Y #[e,p,q] u=>#[e,p.keep λo x=>u j (by simp) o x,by
  cases z with|l a=>exact QCX.at q λo x=>u a (by simp[Src.adr]) o x|t a=>let#[o,m,g]:=q;exact#[o,u a (by simp[Src.adr]) o m,g]]
 item:=λi s Q E b #[e,_,_] X=>im b ()
 done:=λs Q E #[_,p,q] f=>c8 r p q v f
def jAD(K:QA)(z:Src)(c:Nat):It :=
  #[λi H=>∃h x,A4 K H z h/\h[i]?=jr x,
   λi H v y=>∃p x,H p=kv/\v=.ref p/\y=CA H p (.tup [.int ((c+i:Nat):Int),x])/\∀h,A4 K H z h->h[i]?=jr x,
   λi H=>∃h,A4 K H z h/\h.9<=i]
def oY(e j:ko)(z:Src)(c i:Nat)(h:vu):Prop:=(∃x,IsEnum h e j ((c+i:Nat):Int) x)/\AD h j z i
theorem L0{P:k5}{K:QA}{es:List Expr}{kk:Nat}{pp:Pos}{e j:ko}{z:Src}{c:Nat}(L:e≠j)(n2:z.adr≠e)(n3:z.adr≠j) :
  Turn P w K (.Tuple es kk pp) (jAD K z c) [e,j] e (oY e j z c) where
 mem:=by simp
 obj:=λi h st b hb=>by let#[#[a,g],n]:=st;simp only[QK,WM,or_false]at hb;rcases hb with rfl|rfl;exact#[_,g,λv q=>by cases(show Data.fields _=Data.cell v from q)];exact n.obj
 keep:=λi h h' st k=>by let#[#[a,g],n]:=st;exact#[#[a,k e (by simp) _ g],n.keep λo x=>k j (by simp) o x]
 item:=by
  intro X O M Q hc i r s σ H E I B st N;subst O M Q;let#[xs,x,C,ex]:=N;let#[f,J,F,_]:=I.src C;let#[u,hu,ru]:=J.get ex;let#[#[a,g],n]:=st;have hi:i<f.toArray.size:=by have:=(Qi.mp hu).1;simpa using this
  refine wpAny_pyNext_enum_itemD (Em (show X.A.in1.handled=kv from I.ok.hd hc) j z n3 f.toArray c) g #[i,rfl,n,F] () L (by simp[L,Q7 n2]) λy h' W #[k,ek,hy] b1 b2 b3 b4 b5=>?_;have ek:k=i:=()
  subst ek;have ey:y=u:=by
   have:f.toArray[k]?=jr u:=by simpa using hu
   rw[this]at hy;exact(Ql hy).symm
  subst ey;refine#[_,rfl,wpAny_letOwnedTupleGo_enum b1 λp c1 G=>?_];let#[k2,Z,b2,b2']:=b2;have Z:k2=k+1:=()
  subst Z;have hp:=I.hok.fresh (QT s.1.1.size);have Y:e<s.1.1.size:=QY g;have m:∀b∈[e,j],b<s.1.1.size:=λb hb=>by simp only[QK,WM,or_false]at hb;rcases hb with rfl|rfl;exact Y;exact n.lt
  have kept:∀b o,b∉[e,j]->s.1.get? b=jr o->p.get? b=jr o:=λb o hb q=>by simp only[QK,WM,or_false,not_or]at hb;exact(G.2 b hb.1).trans (b5 b o hb.1 hb.2 q)
  have l:p.get? s.1.1.size=jr { cls:=.type "tuple",data:=.seq (qG [.int ((c+k:Nat):Int) W,y]) }:=(G.2 _ (wv Y)).trans b3;have I1:=I.pair (x:=.int ((c+k:Nat):Int)) (h':=s.1.push { cls:=.type "tuple",data:=.seq (qG [.int ((c+k:Nat):Int) W,y]) }) (t':=W+1) (λb o e=>QH _ e) (QT _) (QS _ rfl) #[_,rfl] ru;have I2:=I1.turnedL (h':=p) (t':=W+1) (ch:=[e,j]) (λb o hb e=>by
   rcases QBU e with⟨q1,q2⟩| q;subst q1 q2;exact l;exact kept b o hb q) λb hb=>by
   let#[f0,f1,f2,f3,S,R]:=B b hb;exact#[by rw[uA (Qm (m b hb))];exact f0,f1,f2,f3,S,R]
  refine#[.ref s.1.1.size,_,I2,rfl,#[s.1.1.size,x,hp,rfl,rfl,λxs' g1=>?_],#[#[y,?_],b2.keep λo q=>(G.2 _ (Q7 L)).trans q],λb hb=>?_];rw[I.src_inj g1 C];exact ex;have:(((c+(k+1):Nat)):Int)=((c+k:Nat):Int)+1:=()
  rw[this];exact c1;rw[uA (Qm (m b hb))];exact(B b hb).1
 done:=by intro X O M Q hc i r s σ H E I B st N;subst O M Q;let#[xs,C,en]:=N;let#[f,J,F,_]:=I.src C;let#[#[a,g],n]:=st;have l1:=J.9;let#[f0,f1,f2,f3,S,R]:=B j (by simp);exact wpAny_pyNext_enum_endD (Im (show X.A.in1.handled=kv from I.ok.hd hc) j z f.toArray 0 i (by simp;omega)) g #[rfl,n,F] λh' eb=>#[rfl,I.turned (t':=s.toks) (λb o hb e=>eb b o hb e) f0 f1 f3 S R]
 self:=λ_ _ _ _ _ st h=>by let#[#[a,g],_]:=st;exact QCB g h
end
theorem v4(z:Src)(xs:Array kb):Meets (Builtin.«enumerate.__new__» #[[.type "enumerate",.ref z.adr],[]]) (λ_ R s=>OB s.1 z xs /\
   R (.ok (.ret (.ref (s.1.push z.it).1.size))) { s with heap:=(s.1.push z.it).push { cls:=.type "enumerate",data:=.fields (qG [.none,.bool kd,.ref s.1.1.size,h7 0,.none,.none]) } }) :=
 .of_wp λy w A R s h=>by
  let#[b,g,d,v,a]:=s;let#[k,h]:=h;have u:=sub_enumerate;have x:OB (Shared.heap #[b,g,d,v,a]) z xs:=k;wp_walk;refine wpAny_stack_any λst=>QL ?_;split;rename_i cl _ _ _ _ _;cases(cl==Value.type "enumerate")<;>(wp_walk using gT x;exact#[_,rfl,h])
  wp_walk using gT x;exact#[_,rfl,h]
section
variable{prog:k5}{w:xb}{A:x2}{E:mC}{s:kt}
theorem GZ{h:vu}{z:Src}{n:Int}:IsEnum ((h.push z.it).push { cls:=.type "enumerate",data:=.fields (qG [.none,.bool kd,.ref h.1.size,h7 n,.none,.none]) }) (h.1.size+1) h.1.size n .none:=by have:=QS (h.push z.it) (o:={ cls:=.type "enumerate",data:=.fields (qG [.none,.bool kd,.ref h.1.size,h7 n,.none,.none]) }) rfl;rw[WF]at this;exact this
theorem kY{z:Src}{xs:Array kb}{Q:mC}(y:OB s.1 z xs)
  (h:∀h',oY (s.1.1.size+1) s.1.1.size z 0 0 h'->(∀c o,s.1.get? c=jr o->h'.get? c=jr o)->Q (.ref (s.1.1.size+1)) { s with heap:=h' }):ku (k0 prog w) A (Er (.type "enumerate") [.ref z.adr]) Q E s:=by
 refine callType_new PySem.F.called_enumerate (by decide) (PySem.F.typeCall_enumerate_1 _) (PySem.F.newCall_enumerate_1 _) (λobj=>PySem.F.args_object_init_2 obj _) PySem.F.entry_enumerate_new (v4 z xs) #[y,?_];show _/\_;rw[WF];exact#[#[_,GZ,rfl],h _ #[#[.none,GZ],(yc s.1 z).keep λo e=>QH _ e] λc o x=>QH _ (QH _ x)]
end
theorem jAa{a b:Nat}(h:a≠b):((a:ko)≠(b:ko)):=h
theorem J2:nj (.type "list_reverseiterator") "__len__"=tv none:=by rw[mm,QBL];kernel_rfl
theorem r9:nj (.type "list_reverseiterator") "__length_hint__"=tv (jr (.builtin "list_reverseiterator.__length_hint__")):=by rw[mm,QBL];kernel_rfl
section
variable{d:k5}{a:xb}{u:x2}{g:mC}{h:kt}{f:mC}
noncomputable abbrev ke:Obj:={ cls:=.type "list",data:=.seq #[] }
theorem jP{j l:ko}{xs:Array kb}(Q:u.handled=kv)(N:l≠j)(J:h.1.IsRevIter j l ((xs.size:Int) - 1))(B:h.1.IsList l xs)(P:xs.size<=kn)
  (k:∀s' r c,(∀b o,b≠j->h.1.get? b=jr o->s'.1.get? b=jr o)->s'.gens=h.gens->s'.drawn=h.drawn->s'.os=h.os ->
   s'.1.get? h.1.1.size=jr { cls:=.type "list",dict:=kv,data:=.seq r c,slots:=#[] }->ItemsOf (λi v=>xs[xs.size - 1 - i]?=jr v) r xs.size->f (.ref h.1.1.size) s') :
  ku (k0 d a) u (Er (.type "list") [.ref j]) f g h:=by
 have W:=(Walks.listRev (prog:=d) (w:=a) (A:=u.in1.in1) Q j l N xs).toS;have ty:∀{i:Nat}{q:kt},(i<=xs.size/\q.1.IsRevIter j l ((xs.size:Int) - 1 - (i:Int))/\q.1.IsList l xs)->q.TypeIs (.ref j) "list_reverseiterator":=λz=>z.2.1.typeIs;let#[oj,H,_]:=id J;let#[ol,S,_]:=id B;have E:=QY H;have C:=QY S;generalize hn:h.1.1.size=n at E C k;have K:n∉[j,l]:=λz=>by rcases QK.mp z with z|z;exact qS _ (z▸E);exact qS _ (QJ.mp z▸C)
 have O:n≠j:=λz=>K (z▸QD);refine callType_codes (Q₁:=λp q=>p=.ref n/\q={ h with heap:=h.1.push ke }) F.called_list (F.typeCall_list_1 _) F.entry_list_init (code_list_new _ #[by rw[hn],rfl]) ?_;rintro p q ⟨rfl,rfl⟩;have Y:(h.1.push ke).get? n=jr ke:=hn▸QS _ rfl;refine#[#[_,Y,rfl],F.args_list_init_2 _ _,?_];show ku _ u.in1.in1 (do let Z <- QA8 (.ref n);QAx (.ref n) (λ_=>#[]);letGo Z.toList.reverse;w9 (.ref n) (.ref j) .none) _ _ _;unfold QA8;refine QF (QF (QAZ Y rfl (QL (QF (m:=updateSeq n λ_=>#[]) (wpAny_updateSeq Y rfl (QF (QCa ?_)))))));have e1:=wM (Q3 λ_=>(#[]:Array kb)) Y rfl;have I:∀b o,b≠n->h.1.get? b=jr o->((h.1.push ke).update n (Q3 λ_=>(#[]:Array kb))).get? b=jr o:=λb o z e=>(Wh _ _ (Q7 z)).trans (QH _ e);have L:0<=xs.size/\h.1.IsRevIter j l ((xs.size:Int) - 1 - ((0:Nat):Int))/\h.1.IsList l xs:=#[Qv _,by simpa using J,B]
 have s:=W.frame 0 h _ h.toks L (QT _) λb hb o e=>I b o (λz=>K (z▸hb)) e;have M:Builtin.List.listSameRef (.ref n) (.ref j)=false:=beq_eq_false_iff_ne.mpr O;unfold w9 Builtin.List.listLengthHint;refine QF (QCI (ty s) ?_);rw[a8 (by simp only[M];decide)];refine QF (W.self 0 _ _ _ s (QF (qm (QF (QBE (ty s) J2 ?_)))));show ku _ _ (specialOf (.ref j) (Qc "__length_hint__") >>= _) _ _ _;refine QF (QBE (ty s) r9 ?_);generalize hx:("list_reverseiterator.__length_hint__":String)=x
 wp_delta
 rw[show splitId x=jr ("list_reverseiterator","__length_hint__") by rw[<- hx];decide +kernel];subst hx;refine QF (Wx (b:=kf) (ty s) (by rw[isSubtype_type];kernel_rfl) (QL ?_));rw[a8 (by decide)];refine QL #[QAv F.plain_extend_loop _,codeAny_extend_loopS W P _ K _ xs.size 0 _ _ _ rfl (Qv _) s e1 (ItemsOf.nil _) ?_];intro s' r c X R it;refine#[rfl,k s' r c (λb o z e=>?_) X.gens X.drawn X.os R it];have G:b<n:=hn▸QY e;exact X.1 b o (λm=>(QK.mp m).elim (λy=>qS _ (y▸G)) λy=>z (QJ.mp y)) (I b o (Qm G) e)
end
def aW(K:QA)(x:V)(H:Hp)(Q:VK):Prop:=∃p h,x=.ref p/\nC K H p h/\∀l,H l=kv->Q (.ref l) (CA H l (.lst h.reverse))
theorem M3{its:LW}{x:Array kb}(h:ItemsOf (λi v=>its.toArray[its.toArray.size - 1 - i]?=jr v) x its.toArray.size):x.toList=its.reverse:=by
 let#[y,z]:=h;have y:x.toList.9=its.length:=y;refine List.ext_getElem (by rw[y,wf]) λi a b=>?_;have:=z i x[i] (QAg a);have e:its[its.9 - 1 - i]?=jr x[i]:=by simpa only[List.getElem?_toArray,QN]using this
 rw[Qh ()]at e;rw[List.getElem_reverse];exact(Ql e).symm
section
variable{X:Cx}{a:Expr}{ta:TE}{v p2 pos y:Pos}
theorem vk(hc:X.calm=kf)(g1:Gl X "list")(g2:Gl X "reversed")(P:X.mg "list"=kv)(O:X.mg "reversed"=kv)(ha:PE X a ta)(st:xk [a] X.env=(kd,g7 a X.env)::xk [] X.env) :
  PE X (.Call (.Name "list" v) [.Call (.Name "reversed" p2) [a] [] y] [] pos) λσ H Q=>ta σ H λx E=>aW X.K x E Q:=by
 intro g s σ H Q I h;refine qy (kF I g1 P QA9 ?_);refine qQ ?_ rfl rfl;show ku _ _ (lv ((kd,g7 (.Call (.Name "reversed" p2) [a] [] y) X.env)::[])) _ _ s;refine wL ?_;refine qy (kF I g2 O QAQ ?_);refine qQ ?_ st rfl;rw[st];show ku _ _ (lv ((kd,g7 a X.env)::[])) _ _ s;refine wL (GB (ha g s σ H _ I h) λu f #[x,E,l,J,p,F,e,hq,q]=>WA ?_);subst e;cases J;let#[k,W,L,S]:=l.list hq;have C:=W.9;have hl:=L.isList;refine QBx hl (WA ?_);let#[ol,n,_]:=id hl;have lt:=QY n;have M:p≠f.1.1.size:=Qm lt;have hd:X.A.handled=none:=l.ok.hd hc;have r:(f.1.push (n7 p ((k.toArray.size:Int) - 1))).IsList p k.toArray:=hl.at λo e=>QH _ e;have m:(f.1.push (n7 p ((k.toArray.size:Int) - 1))).IsRevIter f.1.1.size p ((k.toArray.size:Int) - 1 - ((0:Nat):Int)):=#[_,QS _ rfl,rfl,by simp[n7]]
 refine jP hd (by exact M) (by simpa using m) r (by rw[QN];omega) λZ j c' N e1 e2 e3 Y i=>?_;have ea:=M3 i;have R:∀b o,f.1.get? b=jr o->Z.1.get? b=jr o:=λb o e=>N b o (λz=>qS _ (z▸QY e)) (QH _ e);let#[B,gs,dr,G,oo]:=Z;cases e1;cases e2;cases e3;refine#[.ref (f.1.push (n7 p ((k.toArray.size:Int) - 1))).1.size,_,l.laid (t':=G) (h':=B) R (by rw[WF];omega) (show uB X.prog X.w _ B _ (.lst F.reverse) from#[by rw[wf];exact S,j.toList,c',by rw[ea];exact W.reverse,Y]),rfl,q _ (l.hok.fresh (by rw[WF];omega))]
end
noncomputable def Ez(K:QA)(a:ko)(n:Nat):It :=
 #[λi H=>i<n/\∃h x,nC K H a h/\h[n - 1 - i]?=jr x,λi H x y=>y=H/\∀h,nC K H a h->h[n - 1 - i]?=jr x,λi _=>n<=i]
theorem R5{P:k5}{w:xb}{K:QA}{L:Expr}(a it:ko)(n:Nat):Turn P w K L (Ez K a n) [it] it (λi h=>i<=n/\h.IsRevIter it a ((n:Int) - 1 - (i:Int))) where
 mem:=by simp
 obj:=λi h st b hb=>by
  have e:b=it:=by simpa using hb
  subst e;let#[_,o,e,c,d]:=st;exact#[o,e,λv z=>by rw[d]at z;cases z]
 keep:=λi h m st k=>#[st.1,st.2.at λo e=>k it (by simp) o e]
 item:=by intro X r q Y hc i f s F H E I l st j;subst r q Y;let#[hi,xs,x,J,G]:=j;let#[Q,N,p,hz]:=I.list J;let#[u,S,O]:=N.get G;let#[C,B,f2,A,W,Z]:=l it (by simp);have y:=st.2;rw[show(n:Int) - 1 - (i:Int)=((n - 1 - i:Nat):Int) by omega]at y;refine wpAny_pyNext_rev_item y p.isList (x:=u) (by simpa using S) λm g M=>?_;have I1:Inv X f F H { s with heap:=m }:=I.turned (t':=s.toks) (λb o hb e=>(M.2 b hb).trans e) C B A W Z;let#[o,e,c,d]:=id g;rw[show((n - 1 - i:Nat):Int) - 1=(n:Int) - 1 - ((i+1:Nat):Int) by omega]at g;exact#[u,rfl,go_of (s:={ s with heap:=m }) e c d (by decide) #[x,H,I1,O,#[rfl,λys R=>by rw[I.list_inj R J];exact G],#[hi,g],λb hb=>(l b hb).1]]
 done:=by intro X r q Y hc i f s F H E I l st j;subst r q Y;let#[C,B,f2,A,W,Z]:=l it (by simp);have j:n<=i:=j;have y:=st.2;rw[show(n:Int) - 1 - (i:Int)=-1 by have:=st.1;omega]at y;exact wpAny_pyNext_rev_end (I.ok.hd hc) y λm eb=>#[rfl,I.turned (t':=s.toks) (λb o hb e=>eb b o hb e) C B A W Z]
 self:=λ_ _ _ _ _ st h=>QBV st.2 h
inductive Bi where
 |len|any|min|list|sorted|tuple
 deriving DecidableEq
inductive Mt where
 |append|pop|setd|extend|index
 deriving DecidableEq
inductive ItK where
 |val|rng1|enum|itm|rev
 deriving DecidableEq
inductive Tg where
 |nm (i:Nat)|tp (is:LN)
 deriving DecidableEq
set_option genSizeOf false in
set_option genInjectivity false in
inductive PX where
 |var (i:Nat)|int (i:Int)|str (x:Str)|bl (b:Bool)|non
 |glo (x:Str)
 |bin (op:hZ) (a b:PX)
 |cmp (op:dy) (a b:PX)
 |and (a b:PX)|or (a b:PX)|not (a:PX)|ife (c a b:PX)
 |call (f:Str) (as:PX)
 |bi (f:Bi) (as:PX)
 |mt (m:Mt) (o as:PX)
 |idx (a b:PX)|slc (a lo hi:PX)|nop
 |lst (as:PX)|tup (as:PX)|dnew (b:Bool)|dsp (a b:PX)
 |comp (mask:List Bool) (tgs:LS) (tg:Tg) (ik:ItK) (its cond elt:PX)
 |anil|acons (a as:PX)|ng (i:Int)|lrv (a:PX)
structure Ev where
 sp:Str->Sp
 va:Str->V
structure W3 where
 e:TE
 t:TT
 a:TA
def never:W3:=#[λ_ _ _=>False,λ_ _ _=>False,λ_ _ _=>False]
def fH(K:QA)(x:V)(H:Hp)(Q:Bool->Hp->Prop):Prop:=match x with
 | .bl b=>Q b H|.int i=>Q (i != 0) H|.non=>Q kd H|.str z=>z.9<=kn/\Q ((z.9:Int) != 0) H|x=>∃k,xo K x H k/\Q k H
def Ua(x:V)(H:Hp)(Q:Bool->Hp->Prop):Prop:=match x with
 | .bl b=>Q b H|_=>False
def Vf(K:QA):hZ->R2
 | .Add=>Mq K|.Sub=>Vq|.Mult=>Bq K|.FloorDiv=>og|.Mod=>Cq|_=>λ_ _ _ _=>False
noncomputable def JZ(neg:Bool):R2:=λx y H Q=>match y with
 | .non=>Q (.bl (if neg then !decide (x=.non) else decide (x=.non))) H|.bl c=>∃b,x=.bl b/\Q (.bl (if neg then !decide (b=c) else decide (b=c))) H|_=>False
def ja(K:QA):dy->R2
 | .Eq=>rEq K kd|.NotEq=>rEq K kf|.Lt=>V1 λi j=>decide (i<j)|.LtE=>V1 λi j=>decide (i<=j)|.Gt=>V1 λi j=>decide (j<i)|.GtE=>V1 λi j=>decide (j<=i)|.In=>VT K kd|.NotIn=>VT K kf|.Is=>JZ kd|.IsNot=>JZ kf
def U1(K:QA):R2:=λx y H Q=>match x,y with
 | .str z,.int i=>z.9<=kn/\∃c,uD z.cps.toList i=jr c/\Q (.str #[(qG [c])]) H|.ref a,.int i=>∃h v,(nC K H a h∨ED K H a h)/\uD h i=jr v/\Q v H|.ref a,.str z=>∃v,US K H a (.str z) (jr v)/\Q v H|.ref a,.ref b=>∃v,US K H a (.ref b) (jr v)/\Q v H|_,_=>False
def ec(K:QA):LV->Hp->VK->Prop:=λx H Q=>∃p h,x=[.ref p]/\(nC K H p h∨ED K H p h)/\∀l,H l=kv->Q (.ref l) (CA H l (.lst h))
def NY(K:QA):LV->Hp->VK->Prop:=λk H Q=>∃p,k=[.ref p]/\((∃z:LS,nC K H p (z.map V.str)/\z.9<64/\∀l h,H l=kv->h.Perm z->t3 h=kf->Q (.ref l) (CA H l (.lst (h.map V.str)))) ∨
   (∃u,nC K H p u/\u.9<64/\(∀x∈u,∃a,∃z:LS,x=.ref a/\nC K H a (z.map V.str))/\∀l w,H l=kv->w.Perm u->Q (.ref l) (CA H l (.lst w))) ∨
   (∃v:LJ,nC K H p (v.map V.int)/\v.9<64/\∀l (y:LJ),H l=kv->y.Perm v->y.Pairwise (·<=·)->Q (.ref l) (CA H l (.lst (y.map V.int)))))
def S6(K:QA):LV->Hp->VK->Prop:=λx H Q=>∃p h,x=[.ref p]/\nC K H p h/\∀l,H l=kv->Q (.ref l) (CA H l (.tup h))
def gu(K:QA):Bi->LV->Hp->VK->Prop
 | .len=>Dq K|.any=>Lq K|.list=>ec K|.sorted=>NY K|.min=>λh H Q=>∃i j,h=[.int i,.int j]/\Q (.int (if j<i then j else i)) H|.tuple=>S6 K
def lg:V->LV->Hp->VK->Prop:=λx y H Q=>∃l i h k v,x=.ref l/\y=[.int i]/\H l=jr (.lst h)/\HS h.9 i=jr k/\h[k]?=jr v/\Q v (CA H l (.lst (h.eraseIdx k)))
def rg:V->LV->Hp->VK->Prop:=λx z H Q=>∃l b y h,x=.ref l/\z=[.ref b]/\H l=jr (.lst y)/\H b=jr (.lst h)/\y.9+h.9<=kn/\Q .non (CA H l (.lst (y++h)))
def T6:V->LV->Hp->VK->Prop:=λx u H Q=>∃z y i h,x=.str z/\u=[.str y]/\qB z y 0 z.9 1=i::h/\Q (.int (i:Int)) H
def ge(K:QA):Mt->V->LV->Hp->VK->Prop
 | .append=>OY|.pop=>lg|.setd=>EL K|.index=>T6|.extend=>rg
noncomputable def Mt.ty:Mt->String
 | .append=>"list"|.pop=>"list"|.setd=>"dict"|.index=>"str"|.extend=>"list"
def bN(x:V)(H:Hp)(Q:Option Int->Hp->Prop):Prop:=match x with
 | .int i=>Q (jr i) H|_=>False
inductive Item where
 |one (v:V)|tup (vs:LV)
def dC(K:QA):ItK->LV->Hp->(List Item->(Hp->Prop)->Hp->Prop)->Prop
 | .val,[.ref a],H,R=>(∃h,nC K H a h/\R (h.map .one) (λH=>nC K H a h) H)∨(∃h,ED K H a h/\R (h.map .one) (λH=>ED K H a h) H)∨(∃y,∃x:List KE,H a=jr (.dT y x)/\R (x.map λp=>.one (.ref p.2.1)) (λH=>H a=jr (.dT y x)) H)|.rng1,[.int j],H,R=>(-(2 ^ 62)<=j/\j<2 ^ 62)/\R ((Qo j.toNat).map λ(i:Nat)=>.one (.int (i:Int))) (λ_=>True) H|.enum,[.ref a],H,R=>∃z h,Src.adr z=a/\A4 K H z h/\R (h.zipIdx.map λp=>.tup [.int (p.2:Int),p.1]) (λH=>A4 K H z h) H|.rev,[.ref a],H,R=>∃h,nC K H a h/\R (h.reverse.map .one) (λH=>nC K H a h) H|.itm,[.ref a],H,R=>∃y,∃x:List KE,H a=jr (.dT y x)/\R (x.map λp=>.tup [.ref p.2.1,p.2.2]) (λH=>H a=jr (.dT y x)) H|_,_,_,_=>False
noncomputable def cB:LN->LV->St->Option St
 |[],[],σ=>jr σ|i::is,v::vs,σ=>cB is vs (σ.set i (jr v))|_,_,_=>kv
def lG(K:QA):Tg->TG
 | .nm i=>λv x H Q=>Q (x.set i (jr v)) H|.tp z=>λv x H Q=>match v with
  | .ref p=>∃y h,ED K H p y/\cB z y x=jr h/\Q h H|_=>False
def bindI(K:QA)(z:Tg):Item->St->Hp->(St->Hp->Prop)->Prop
 | .one v=>lG K z v|.tup y=>λx H Q=>match z with
  | .tp w=>∀u,Same H u->∃h,cB w y x=jr h/\Q h u|.nm i=>∀p,H p=kv->Q (x.set i (jr (.ref p))) (CA H p (.tup y))
def Vt(K:QA)(xs:List Item)(st:Hp->Prop)(bind:Item->St->Hp->(St->Hp->Prop)->Prop)(tc:TT)(te:TE)(σ:St)(H:Hp)(Q:VK):Prop :=
 ∃W:Nat->LV->Hp->Prop,W 0 [] H/\(∀i h H,i<=xs.9->W i h H->st H) /\
  (∀i x h H,xs[i]?=jr x->W i h H->bind x σ H λz u=>tc z u λb v=>if b=kf then te z v λy w=>h.9<kn/\W (i+1) (h++[y]) w else W (i+1) h v) /\
  ∀h u,W xs.9 h u->h.9<=kn/\∀p,u p=kv->Q (.ref p) (CA u p (.lst h))
structure Yields(J:It)(xs:List Item)(st:Hp->Prop):Prop where
 go:∀i H,st H->i<xs.9->J.go i H
 yld:∀i H x H',st H->i<xs.9->J.yld i H x H'->∃it,xs[i]?=jr it/\match it with
  | .one v=>x=v/\H'=H|.tup vs=>∃p,H p=kv/\x=.ref p/\H'=CA H p (.tup vs)
 stop:∀i H,st H->xs.9<=i->J.stop i H
def Ut(J:It)(g:TG)(tc:TT)(te:TE)(k:St)(l:Hp)(Q:VK):Prop:=∃W:Nat->Nat->LV->St->Hp->Prop,(∃m,W 0 m [] k l) /\
 ∀i m h v u,W i m h v u->(J.stop i u/\h.9<=kn/\∀p,u p=kv->Q (.ref p) (CA u p (.lst h))) ∨
  (J.go i u/\∀x e,J.yld i u x e->g x v e λz j=>tc z j λb a=>if b=kf then te z a λy f=>h.9<kn/\∃w,w < m/\W (i+1) w (h++[y]) z f else ∃w,w < m/\W (i+1) w h z a)
def Y0(K:QA)(xs:List Item)(st:Hp->Prop)(x:Tg)(tc:TT)(te:TE)(h:St)(H:Hp)(Q:VK):Prop:=∀J,Yields J xs st->Ut J (lG K x) tc te h H Q
def isNop:PX->Bool
 | .nop=>kf|_=>kd
def wp(K:QA)(Γ:Ev):PX->XK->W3
 | .var i,E=>let e:TE:=λh H Q=>match h[i]? with
   |some (jr v)=>Q v H|_=>False
  #[e,λh H Q=>e h H λx z=>fH K x z Q,never.a]
 | .int i,E=>#[λ_ H Q=>Q (.int i) H,λ_ H Q=>Q (i != 0) H,never.a]|.str x,E=>#[λ_ H Q=>Q (.str x) H,never.t,never.a]|.bl b,E=>#[λ_ H Q=>Q (.bl b) H,λ_ H Q=>Q b H,never.a]|.non,E=>#[λ_ H Q=>Q .non H,λ_ H Q=>Q kd H,never.a]|.glo x,E=>#[λ_ H Q=>Q (Γ.va x) H,λ_ H Q=>fH K (Γ.va x) H Q,never.a]|.bin op a b,E=>let e:TE:=λh H Q=>(wp K Γ a E).e h H λx z=>(wp K Γ b E).e h z λy w=>Vf K op x y w Q
  #[e,λh H Q=>e h H λx z=>fH K x z Q,never.a]
 | .cmp op a b,E=>let e:TE:=λh H Q=>(wp K Γ a E).e h H λx z=>(wp K Γ b E).e h z λy w=>ja K op x y w Q
  #[e,λh H Q=>e h H λx z=>Ua x z Q,never.a]
 | .and a b,E=>#[λh H Q=>(wp K Γ a E).e h H λx z=>Ua x z λc w=>if c=kf then(wp K Γ b E).e h w Q else Q (.bl kd) w,
   λh H Q=>(wp K Γ a E).t h H λc z=>if c=kf then(wp K Γ b E).t h z Q else Q kd z,never.a]
 | .or a b,E=>#[λh H Q=>(wp K Γ a E).e h H λx z=>Ua x z λc w=>if c=kf then Q (.bl kf) w else(wp K Γ b E).e h w Q,
   λh H Q=>(wp K Γ a E).t h H λc z=>if c=kf then Q kf z else(wp K Γ b E).t h z Q,never.a]
 | .not a,E=>#[λh H Q=>(wp K Γ a E).e h H λx z=>fH K x z λc w=>Q (.bl (!c)) w,λh H Q=>(wp K Γ a E).t h H λc z=>Q (!c) z,never.a]|.ife c a b,E=>#[λh H Q=>(wp K Γ c E).t h H λk z=>if k=kf then(wp K Γ a E).e h z Q else(wp K Γ b E).e h z Q,never.t,never.a]|.call f as,E=>let e:TE:=λh H Q=>(wp K Γ as E).a h H λj z=>Γ.sp f j z Q E
  #[e,λh H Q=>e h H λx z=>fH K x z Q,never.a]
 | .bi f as,E=>let e:TE:=λh H Q=>(wp K Γ as E).a h H λj z=>gu K f j z Q
  #[e,λh H Q=>e h H λx z=>fH K x z Q,never.a]
 | .mt m o as,E=>let e:TE:=λh H Q=>(wp K Γ o E).e h H λx z=>M4 K m.ty x z/\(wp K Γ as E).a h z λj w=>ge K m x j w Q
  #[e,λh H Q=>e h H λx z=>fH K x z Q,never.a]
 | .idx a b,E=>let e:TE:=λh H Q=>(wp K Γ a E).e h H λx z=>(wp K Γ b E).e h z λy w=>U1 K x y w Q
  #[e,λh H Q=>e h H λx z=>fH K x z Q,never.a]
 | .slc a lo hi,E=>#[λh H Q=>(wp K Γ a E).e h H λx z =>
   (if isNop lo=kf then λ(R:Option Int->Hp->Prop)=>R kv z else λR=>(wp K Γ lo E).e h z λl w=>bN l w R) λl w =>
   (if isNop hi=kf then λ(R:Option Int->Hp->Prop)=>R kv w else λR=>(wp K Γ hi E).e h w λu n=>bN u n R) λu n=>Lw K x l u n Q,never.t,never.a]
 | .nop,E=>never|.lst as,E=>#[λh H Q=>(wp K Γ as E).a h H λg z=>g.9<=kn/\∀p,z p=kv->Q (.ref p) (CA z p (.lst g)),never.t,never.a]|.tup as,E=>#[λh H Q=>(wp K Γ as E).a h H λg z=>g.9<=kn/\∀p,z p=kv->Q (.ref p) (CA z p (.tup g)),never.t,never.a]|.comp mask tgs tg ik its cond elt,E=>#[λh H Q=>(wp K Γ its E).a h H λj z=>dC K ik j z λg st w =>
   Y0 K g st tg (if isNop cond=kf then λ_ H Q=>Q kf H else(wp K Γ cond (λ_ _ _=>False)).t) (wp K Γ elt (λ_ _ _=>False)).e (tJ tgs.9 mask h) w Q,never.t,never.a]
 | .dnew b,E=>#[λ_ H Q=>∀p,H p=kv->Q (.ref p) (CA H p (.dT 0 [])),never.t,never.a]|.dsp a b,E=>#[λh H Q=>∀p,H p=kv->(wp K Γ a E).e h (CA H p (.dT 0 [])) λy z=>(wp K Γ b E).e h z λv w=>w p=jr (.dT 0 [])/\∃b q,y=.ref b/\yP K w b q/\∀r,Q (.ref p) (CA w p (.dT r [(q,b,v)])),never.t,never.a]|.ng i,E=>#[λh H Q=>Q (.int (-i)) H,never.t,never.a]|.lrv a,E=>#[λh H Q=>(wp K Γ a E).e h H λx z=>aW K x z Q,never.t,never.a]|.anil,E=>#[never.e,never.t,λ_ H Q=>Q [] H]|.acons a as,E=>#[never.e,never.t,λh H Q=>(wp K Γ a E).e h H λx z=>(wp K Γ as E).a h z λg w=>Q (x::g) w]
structure Glob where
 ev:Ev
 fn:Str->Prop
 val:Str->Prop
 no:Str->Prop
noncomputable def Bi.nm:Bi->Str
 | .len=>"len"|.any=>"any"|.list=>"list"|.sorted=>"sorted"|.min=>"min"|.tuple=>"tuple"
noncomputable def Mt.nm:Mt->Str
 | .append=>"append"|.pop=>"pop"|.setd=>"setdefault"|.index=>"index"|.extend=>"extend"
def Ps(G:Glob):ItK->Prop
 | .val=>True|.rng1=>G.no "range"|.enum=>G.no "enumerate"|.rev=>G.no "reversed"|.itm=>True
def gB(G:Glob):PX->Prop
 | .glo x=>G.val x|.bin _ a b | .cmp _ a b | .and a b | .or a b | .idx a b | .acons a b | .dsp a b=>gB G a/\gB G b
 | .not a | .lst a | .tup a=>gB G a
 | .lrv a=>G.no "list"/\G.no "reversed"/\gB G a|.ife a b c | .slc a b c=>gB G a/\gB G b/\gB G c
 | .call f y=>G.fn f/\gB G y|.bi f y=>G.no f.nm/\gB G y|.mt _ o y=>gB G o/\gB G y|.comp _ _ _ v z h u=>Ps G v/\gB G z/\gB G h/\gB G u|_=>True
structure SC where
 N:LS
 sc:hB
def EC:Expr->Bool
 | .Starred _ _=>kd|_=>kf
noncomputable def vj(S:SC)(i:Nat)(x:Str):Bool :=
 S.N[i]?==jr x&&(S.sc.names.lookup x==jr .local||S.sc.names.lookup x==jr .cell||S.sc.names.lookup x==jr .free)&&x != "__debug__" && x != "__classdict__"
noncomputable def El(S:SC)(i:Nat)(x:Str):Bool:=S.N[i]?==jr x&&S.sc.names.lookup x==jr .local
noncomputable def nX(S:SC)(x:Str):Bool:=S.sc.names.lookup x==jr .globalImplicit&&x != "__debug__" && x != "__name__"
def RZ(S:SC)(h:hB)(y:LS)(x:List Bool):SC:=#[y++VB x 0 S.N,GM h S.sc]
def cK:LS->Bool
 |[]=>kf|x::r=>!r.contains x&&cK r
def A9(S:SC)(h:hB)(z:LS)(x:List Bool):Bool :=
 h.kind==.function&&h.names.all (λy=>y.2 != .cell&&(y.2 != .local||(h.names.lookup y.1==jr .local&&(z.contains y.1||y.1==(".0":Str)))) &&
  (y.2 != .free||S.sc.names.lookup y.1==jr .cell||S.sc.names.lookup y.1==jr .free))&&cK (z++VB x 0 S.N)&&!(z++VB x 0 S.N).contains (".0":Str)
noncomputable def Po(c:Bool)(S:SC)(i:Nat)(x:Str):Bool:=S.N[i]?==jr x&&(S.sc.names.lookup x==jr .local||(c&&S.sc.names.lookup x==jr .cell))
def kw(c:Bool)(S:SC):Tg->Expr->Bool
 | .nm i,.Name x _=>Po c S i x|.tp is,.Tuple es _ _=>is.9==es.9&&(is.zip es).all λp=>match p.2 with
  | .Name x _=>Po c S p.1 x|_=>kd
 |_,_=>kd
noncomputable def oR:Expr->Bool
 | .Call (.Name _ _) [] [] _=>kd|_=>kf
def AT:Expr->Bool
 | .Set _ _ _=>kd|_=>kf
def rR:Expr->Bool
 | .Slice _ _ _ _=>kd|_=>kf
def xF:PX->Bool
 | .anil=>kf|.acons _ r=>xF r|_=>kd
def fX:Expr->Bool
 | .Tuple _ _ _=>kf|_=>kd
section
variable{α:Type}
section
variable{e:Expr}{l:List α}
noncomputable def bK(e:Expr)(f:Str->Pos->Bool):Bool:=match e with | .Name x p=>f x p|_=>kd
noncomputable def IG(e:Expr)(f:RB->Bool):Bool:=match e with | .Constant c _ _=>f c|_=>kd
noncomputable def Dg(e:Expr)(f:Expr->hZ->Expr->Pos->Bool):Bool:=match e with | .BinOp l o r p=>f l o r p|_=>kd
noncomputable def Kk(e:Expr)(f:rk->Expr->Bool):Bool:=match e with | .UnaryOp o x _=>f o x|_=>kd
noncomputable def Cg(e:Expr)(f:Expr->List dy->List Expr->Bool):Bool:=match e with | .Compare l x h _=>f l x h|_=>kd
noncomputable def CW(e:Expr)(f:BoolOp->List Expr->Pos->Bool):Bool:=match e with | .BoolOp o h p=>f o h p|_=>kd
noncomputable def br(e:Expr)(f:Expr->Expr->Expr->Bool):Bool:=match e with | .IfExp t l r _=>f t l r|_=>kd
noncomputable def BW(e:Expr)(f:Expr->List Expr->List ll->Pos->Bool):Bool:=match e with | .Call g x h p=>f g x h p|_=>kd
noncomputable def N7(e:Expr)(f:Expr->Str->Pos->Bool):Bool:=match e with | .Attribute v n p=>f v n p|_=>kd
noncomputable def zZ(e:Expr)(f:Expr->Expr->Pos->Bool):Bool:=match e with | .Subscript v i p=>f v i p|_=>kd
noncomputable def kZ(e:Expr)(f:Option Expr->Option Expr->Option Expr->Bool):Bool:=match e with | .Slice l h s _=>f l h s|_=>kd
noncomputable def uR(e:Expr)(f:List Expr->Pos->Bool):Bool:=match e with | .List h p=>f h p|_=>kd
noncomputable def Vg(e:Expr)(f:List Expr->Nat->Pos->Bool):Bool:=match e with | .Tuple h k p=>f h k p|_=>kd
noncomputable def Vk(e:Expr)(f:Expr->List p5->hB->Pos->Bool):Bool:=match e with | .ListComp x h sc p=>f x h sc p|_=>kd
noncomputable def UW(e:Expr)(f:List (Option Expr)->List Expr->Bool):Bool:=match e with | .Dict x h _=>f x h|_=>kd
noncomputable def nN(l:List α)(f:α->Bool):Bool:=match l with | [x]=>f x|_=>kd
noncomputable def Zd(l:List α)(f:α->List α->Bool):Bool:=match l with|x::r=>f x r|_=>kd
noncomputable def ur(o:Option α)(n:Bool)(f:α->Bool):Bool:=match o with|none=>n|some x=>f x
theorem IF{f:Str->Pos->Bool}(h:bK e f=kf):∃x p,e=.Name x p/\f x p=true:=by
 cases e with|Name x p=>exact#[x,p,rfl,h]|_=>exact(QG h).elim
theorem aE{f:RB->Bool}(h:IG e f=kf):∃c k p,e=.Constant c k p/\f c=true:=by
 cases e with|Constant c k p=>exact#[c,k,p,rfl,h]|_=>exact(QG h).elim
theorem Kd{f:Expr->hZ->Expr->Pos->Bool}(h:Dg e f=kf):∃l o r p,e=.BinOp l o r p/\f l o r p=true:=by
 cases e with|BinOp l o r p=>exact#[l,o,r,p,rfl,h]|_=>exact(QG h).elim
theorem G7{f:rk->Expr->Bool}(h:Kk e f=kf):∃o x p,e=.UnaryOp o x p/\f o x=true:=by
 cases e with|UnaryOp o x p=>exact#[o,x,p,rfl,h]|_=>exact(QG h).elim
theorem Yd{f:Expr->List dy->List Expr->Bool}(h:Cg e f=kf):∃l y x p,e=.Compare l y x p/\f l y x=true:=by
 cases e with|Compare l y x p=>exact#[l,y,x,p,rfl,h]|_=>exact(QG h).elim
theorem GT{f:BoolOp->List Expr->Pos->Bool}(h:CW e f=kf):∃o es p,e=.BoolOp o es p/\f o es p=true:=by
 cases e with|BoolOp o es p=>exact#[o,es,p,rfl,h]|_=>exact(QG h).elim
theorem Xk{f:Expr->Expr->Expr->Bool}(h:br e f=kf):∃t l r p,e=.IfExp t l r p/\f t l r=true:=by
 cases e with|IfExp t l r p=>exact#[t,l,r,p,rfl,h]|_=>exact(QG h).elim
theorem FT{f:Expr->List Expr->List ll->Pos->Bool}(h:BW e f=kf):∃g es ks p,e=.Call g es ks p/\f g es ks p=true:=by
 cases e with|Call g es ks p=>exact#[g,es,ks,p,rfl,h]|_=>exact(QG h).elim
theorem M7{f:Expr->Str->Pos->Bool}(h:N7 e f=kf):∃v n p,e=.Attribute v n p/\f v n p=true:=by
 cases e with|Attribute v n p=>exact#[v,n,p,rfl,h]|_=>exact(QG h).elim
theorem xR{f:Expr->Expr->Pos->Bool}(h:zZ e f=kf):∃v i p,e=.Subscript v i p/\f v i p=true:=by
 cases e with|Subscript v i p=>exact#[v,i,p,rfl,h]|_=>exact(QG h).elim
theorem O1{f:Option Expr->Option Expr->Option Expr->Bool}(h:kZ e f=kf):∃l u s p,e=.Slice l u s p/\f l u s=true:=by
 cases e with|Slice l u s p=>exact#[l,u,s,p,rfl,h]|_=>exact(QG h).elim
theorem mN{f:List Expr->Pos->Bool}(h:uR e f=kf):∃es p,e=.List es p/\f es p=true:=by
 cases e with|List es p=>exact#[es,p,rfl,h]|_=>exact(QG h).elim
theorem ud{f:List Expr->Nat->Pos->Bool}(h:Vg e f=kf):∃es k p,e=.Tuple es k p/\f es k p=true:=by
 cases e with|Tuple es k p=>exact#[es,k,p,rfl,h]|_=>exact(QG h).elim
theorem XW{f:Expr->List p5->hB->Pos->Bool}(h:Vk e f=kf):∃x y sc p,e=.ListComp x y sc p/\f x y sc p=true:=by
 cases e with|ListComp x y sc p=>exact#[x,y,sc,p,rfl,h]|_=>exact(QG h).elim
theorem DT{f:List (Option Expr)->List Expr->Bool}(h:UW e f=kf):∃ks vs p,e=.Dict ks vs p/\f ks vs=true:=by
 cases e with|Dict ks vs p=>exact#[ks,vs,p,rfl,h]|_=>exact(QG h).elim
theorem fL{f:α->List α->Bool}(h:Zd l f=kf):∃x r,l=x::r/\f x r=true:=by
 cases l with|nil=>exact(QG h).elim|cons x r=>exact#[x,r,rfl,h]
theorem HB{f:α->Bool}(h:nN l f=kf):∃x,l=[x]/\f x=true:=by
 cases l with
 |nil=>exact(QG h).elim|cons x r =>
  cases r with|nil=>exact#[x,rfl,h]|cons _ _=>exact(QG h).elim
end
end
section
variable{c:RB}{n:Str}{e:Expr}
noncomputable def Cn(c:RB)(f:Int->Bool):Bool:=match c with | .int i=>f i|_=>kd
noncomputable def xu(c:RB)(f:Str->Bool):Bool:=match c with | .str i=>f i|_=>kd
noncomputable def Zh(c:RB)(f:Bool->Bool):Bool:=match c with | .bool i=>f i|_=>kd
def Yh(c:RB):Bool:=match c with | .none=>kf|_=>kd
theorem ma{f:Int->Bool}(h:Cn c f=kf):∃i,c=.int i/\f i=true:=by
 cases c with|int i=>exact#[i,rfl,h]|_=>exact(QG h).elim
theorem Bn{f:Str->Bool}(h:xu c f=kf):∃i,c=.str i/\f i=true:=by
 cases c with|str i=>exact#[i,rfl,h]|_=>exact(QG h).elim
theorem Zf{f:Bool->Bool}(h:Zh c f=kf):∃i,c=.bool i/\f i=true:=by
 cases c with|bool i=>exact#[i,rfl,h]|_=>exact(QG h).elim
theorem Jf(h:Yh c=kf):c=.none:=by
 cases c with|none=>rfl|_=>exact(QG h).elim
theorem vA{a b:Bool}(h:(a&&b)=kf):a=kf/\b=true:=by cases a<;>cases b<;>first|exact#[rfl,rfl]| exact(QG h).elim
def tL(S:SC)(n:Str)(e:Expr)(f:List Expr->List ll->Pos->Bool):Bool:=BW e λg y h p=>bK g λx _=>n==x&&(nX S x&&f y h p)
theorem uF{S:SC}{f:List Expr->List ll->Pos->Bool}(h:tL S n e f=kf):∃y es ks p,e=.Call (.Name n y) es ks p/\nX S n=kf/\f es ks p=true:=by let#[g,es,ks,p,rfl,w]:=FT h;let#[x,y,rfl,v]:=IF w;have u:=vA v;have z:=vA u.2;have e:=qi u.1;exact#[y,es,ks,p,by rw[e],by rw[e];exact z.1,z.2]
def C8(n:Str)(e:Expr)(f:Expr->List Expr->Pos->Pos->Bool):Bool:=BW e λg z y p=>N7 g λv x h=>n==x&&(y.isEmpty&&(h.endLine==p.line&&f v z h p))
theorem lZ{f:Expr->List Expr->Pos->Pos->Bool}(h:C8 n e f=kf):∃v y es p,e=.Call (.Attribute v n y) es [] p/\(y.endLine==p.line)=kf/\f v es y p=true:=by let#[g,es,i,p,rfl,a]:=FT h;let#[v,x,y,rfl,k]:=M7 a;have w:=vA k;have u:=vA w.2;have z:=vA u.2;have e:=qi w.1;have b:=Qx.mp u.1;exact#[v,y,es,p,by rw[e,b],z.1,z.2]
noncomputable def Ag(x:BoolOp)(r:Expr)(h:List Expr)(pos:Pos):Expr:=match h with
 |[]=>r|q::t=>.BoolOp x (r::q::t) pos
def Zv(y:Bool)(S:SC)(z:ItK)(c:List Expr->Pos->Bool)(t it:Expr)(pos:Pos):Bool:=match z with
 | .val=>y&&c [it] pos|.rng1=>tL S "range" it λh x p=>x.isEmpty&&nN h λa=>c [a] p|.enum=>fX t&&tL S "enumerate" it λh x p=>x.isEmpty&&nN h λa=>c [a] p|.rev=>tL S "reversed" it λh x p=>x.isEmpty&&nN h λa=>c [a] p|.itm=>fX t&&(y&&C8 "items" it λv h _ p=>oR v&&(h.isEmpty&&c [v] p))
noncomputable def lx(h:List Expr)(n:Bool)(f:Expr->Bool):Bool:=match h with
 |[]=>n|c::r=>r.isEmpty&&(!n&&f c)
def isItm:ItK->Bool
 | .itm=>kf|_=>kd
def IB:PX->SC->Expr->Bool
 | .var i,S,e=>bK e λx _=>vj S i x|.int i,_,e=>IG e λc=>Cn c λj=>i==j|.str x,_,e=>IG e λc=>xu c λy=>x==y|.bl b,_,e=>IG e λc=>Zh c λk=>b==k|.non,_,e=>IG e Yh|.glo x,S,e=>bK e λy _=>x==y&&nX S x|.bin op a b,S,e=>Dg e λl o r _=>op==o&&(IB a S l&&IB b S r)|.cmp op a b,S,e=>Cg e λl Z Y=>nN Z λo=>nN Y λr=>op==o&&(AT r&&(IB a S l&&IB b S r))|.and a b,S,e=>CW e λo z p=>o==.And&&Zd z λl t=>Zd t λr t=>IB a S l&&IB b S (Ag .And r t p)|.or a b,S,e=>CW e λo z p=>o==.Or&&Zd z λl t=>Zd t λr t=>IB a S l&&IB b S (Ag .Or r t p)|.not a,S,e=>Kk e λo x=>o==.Not&&IB a S x|.ife c a b,S,e=>br e λt l r=>IB c S t&&(IB a S l&&IB b S r)|.call f as,S,e=>tL S f e λz w p=>w.isEmpty&&IB as S (.List z p)|.bi f as,S,e=>tL S f.nm e λz w p=>w.isEmpty&&Zd z λx t=>IB as S (.List (x::t) p)|.mt m o as,S,e=>C8 m.nm e λv z _ p=>xF as&&(oR v&&(decide (z.9<20)&&(IB o S v&&IB as S (.List z p))))|.idx a b,S,e=>zZ e λv i _=>rR i&&(IB a S v&&IB b S i)|.slc a lo hi,S,e=>zZ e λv X _=>kZ X λl h s=>s.isNone&&(IB a S v&&(ur l (isNop lo) (λe=>!isNop lo&&IB lo S e)&&ur h (isNop hi) λe=>!isNop hi&&IB hi S e))|.nop,_,_=>kd|.lst as,S,e=>uR e λz p=>IB as S (.List z p)|.tup as,S,e=>Vg e λz _ p=>IB as S (.List z p)|.comp mask tgs tg ik its cond elt,S,e=>Vk e λK W u p=>nN W λg=>g.is_async==0&&(!isItm ik&&(A9 S u tgs mask&&(kw kd (RZ S u tgs mask) tg g.target&&(AT g.iter &&
   (Zv (xF its) S ik (λz p=>IB its S (.List z p)) g.target g.iter p&&(lx g.ifs (isNop cond) (λc=>IB cond (RZ S u tgs mask) c)&&IB elt (RZ S u tgs mask) K))))))
 | .dnew _,_,e=>UW e λw q=>w.isEmpty&&q.isEmpty|.dsp a b,S,e=>UW e λw q=>nN w λk=>nN q λv=>ur k kd (IB a S)&&IB b S v|.ng i,_,e=>Kk e λo x=>o==.USub&&IG x λc=>Cn c λj=>i==j|.lrv a,S,e=>tL S "list" e λz w _=>w.isEmpty&&nN z λx=>tL S "reversed" x λz w _=>w.isEmpty&&nN z λy=>EC y&&IB a S y|.anil,_,e=>uR e λz _=>z.isEmpty|.acons a as,S,e=>uR e λz p=>Zd z λx t=>EC x&&(IB a S x&&IB as S (.List t p))
end
variable{Γ:Ev}
theorem En(x:V)(H:Hp)(Q:Bool->Hp->Prop):Ua x H Q=∃k,x=.bl k/\Q k H:=by
 apply ir;cases x with|bl b=>exact#[λh=>#[b,rfl,h],λ#[k,e,h]=>by cases e;exact h]|_=>exact#[λh=>Qd h,λ#[k,e,h]=>by cases e]
theorem K7(x:V)(H:Hp)(Q:Option Int->Hp->Prop):bN x H Q=∃i,x=.int i/\Q (jr i) H:=by
 apply ir;cases x with|int b=>exact#[λh=>#[b,rfl,h],λ#[k,e,h]=>by cases e;exact h]|_=>exact#[λh=>Qd h,λ#[k,e,h]=>by cases e]
theorem JY(K:QA)(x:V)(H:Hp)(Q:Bool->Hp->Prop):fH K x H Q=∃k,xo K x H k/\Q k H:=by
 apply ir;cases x with|bl b=>exact#[λh=>#[b,rfl,h],λ#[k,(e:k=b),h]=>by subst e;exact h]|int i=>exact#[λh=>#[i != 0,rfl,h],λ#[k,(e:k=(i != 0)),h]=>by subst e;exact h]|non=>exact#[λh=>#[kd,rfl,h],λ#[k,(e:k=kd),h]=>by subst e;exact h]|str z=>exact#[λh=>#[_,#[h.1,rfl],h.2],λ#[k,#[u,y],h]=>by subst y;exact#[u,h]]|_=>exact WQ
section
variable{X:Cx}
section
variable{e b:Expr}{es:List Expr}{env:Env}{its:LW}
theorem i7:PE X e never.e:=λ_ _ _ _ _ _ h=>Qd h
theorem NM:PT X e never.t:=λ_ _ _ _ _ _ h=>Qd h
theorem UT:PA X es never.a:=λ_ _ _ _ _ _ _ h=>Qd h
theorem zE{a:Expr}{ta:TE}(i:PE X a ta)(g:∀y,isTrue a X.env y=(do let v <- y;standAt a.pos;Rt [v] (truthy v))) :
  PT X a (λσ H Q=>ta σ H λx l=>fH X.K x l Q):=by
 intro z s σ H Q I h;refine isTrue_plain (GB (i z s σ H _ I h) λv k #[x,w,j,f,u]=>?_) (g _);have u:fH X.K x w Q:=u;rw[JY]at u;exact S5 z k σ w x v Q j f u
theorem D7{f:kb->kb->Sem kb}:ME X f (λ_ _ _ _=>False):=λ_ _ _ _ _ _ _ _ _ _ _ _ h=>h.elim
theorem Yk(h:hZ):ME X (fy h) (Vf X.K h):=by
 cases h with|Add=>exact op_add|Sub=>exact op_sub|Mult=>exact pk|FloorDiv=>exact zd|Mod=>exact op_mod|_=>exact D7
theorem UU(neg:Bool){h:TB}{s:kt}{σ:St}{H:Hp}{b c:Bool}{Q:VK}(I:Inv X h σ H s)(q:Q (.bl (if neg then !decide (b=c) else decide (b=c))) H):ku (k0 X.prog X.w) X.A (vx (if neg then .IsNot else .Is) (.bool b) (.bool c)) (EP X h σ Q) X.xe s:=by
 have e:vx (if neg then .IsNot else .Is) (.bool b) (.bool c)=tv (.bool (if neg then !decide (b=c) else decide (b=c))):=by cases neg<;>cases b<;>cases c<;>rfl
 rw[e];exact QL #[.bl _,H,I,rfl,q]
theorem F7(g:X.A.units+66<gp)(f:dy):ME X (vx f) (ja X.K f):=by
 cases f with
 |Eq=>exact op_eq ()|NotEq=>exact op_ne ()|Lt=>exact zR _root_.L2.op_lt|LtE=>exact zR _root_.L2.op_le|Gt=>exact zR _root_.L2.op_gt|GtE=>exact zR _root_.L2.op_ge|In=>exact yr g|NotIn=>exact C7 g|Is =>
  intro z s a H x y v u Q I k w h;cases y with|non=>exact Jk z s a H x _ v u Q I k w #[rfl,h]|bl c=>let#[b,rfl,q]:=h;cases k;cases w;cases b<;>cases c<;>exact UU kd I q|_=>exact Qd h
 |IsNot =>
  intro z s a H x y v u Q I k w h;cases y with|non=>exact yd z s a H x _ v u Q I k w #[rfl,h]|bl c=>let#[b,rfl,q]:=h;cases k;cases w;cases b<;>cases c<;>exact UU kf I q|_=>exact Qd h
theorem Ym(Z:X.A.units+66<gp):Aa X (U1 X.K):=by
 intro w k f s n H x y v u Q I r p h Y;have sq:=λh=>Jm (X:=X) w k f s n H x y v u Q I r p h Y;have dc:=λh=>Ue Z w k f s n H x y v u Q I r p h Y;cases x with
 |str z =>
  cases y with|int i=>let#[W,c,m,q]:=h;exact sq (.inr (.inr #[z,i,c,rfl,rfl,W,m,q]))|_=>exact Qd h
 |ref a =>
  cases y with
  |int i=>let#[o,j,l,m,q]:=h;rcases l with l|l;exact sq (.inl #[a,o,i,j,rfl,rfl,l,m,q]);exact sq (.inr (.inl #[a,o,i,j,rfl,rfl,l,m,q]))
  |str z=>let#[j,g,q]:=h;exact dc #[a,j,rfl,g,q]|ref b=>let#[j,g,q]:=h;exact dc #[a,j,rfl,g,q]|_=>exact Qd h
 |_=>exact Qd h
theorem r8{x:dy}(h:AT b=kf):lr x b=false:=by cases b<;>first|rfl|cases h
theorem Fc(h:rR b=kf):z0 b:=by intro o i;cases b<;>first|rfl|cases h
theorem sB(env:Env)(h:EC e=kf):xk (e::es) env=(kd,g7 e env)::xk es env:=by cases e<;>first|rfl|cases h
theorem NW(h:AT e=kf)(x:kb):hE e env x=tv x:=by cases e<;>first|rfl|cases h
theorem n8{o:Expr}{n:Str}(h:oR o=kf):DC o n env (g7 o env)=g7 o env:=by unfold DC;split;cases h;rfl
theorem de:Sa X "list.pop" lg:=by intro z s f H x u v g Q I j m h;let#[l,i,u,k,y,rfl,rfl,a,hk,n,q]:=h;let#[o,Y,r,p]:=HR hk;have hl:u.9<=sizeLine:=(show uB X.prog X.w H s.1 l (.lst u) from I.hok l _ a).1;rw[Q6]at hl;exact U8 z s f H _ _ v g Q I j m #[l,u,i,k,y,rfl,rfl,a,(),(),o,n,q]
theorem xT{x:LS}(h:oA (x.map V.str) its):ti its x:=by
 induction x generalizing its with
 |nil=>cases h;exact .nil|cons y x z =>
  cases h with|cons h t=>let#[k,rfl]:=h;exact .cons _ _ (z t)
theorem U0{x:LS}(h:ti its x):oA (x.map V.str) its:=by
 induction h with|nil=>exact .nil|cons y t _ z=>exact .cons #[t,rfl] z
theorem D1{out:LW}(g:its.Perm out):∀{xs:LV},oA xs its->∃z,z.Perm xs/\oA z out:=by
 induction g with
 |nil=>intro xs r;cases r;exact#[[],QBa _,.nil]|cons x _ k =>
  intro xs r;cases r with|cons h t=>let#[z,p,v]:=k t;exact#[_::z,p.cons _,.cons h v]
 |swap x y l =>
  intro xs r;cases r with
  |cons h t=>cases t with|cons i t=>exact#[_::_::_,List.Perm.swap _ _ _,.cons i (.cons h t)]
 |trans _ _ f a=>intro xs r;let#[z,p,v]:=f r;let#[w,q,u]:=a v;exact#[w,q.trans p,u]
theorem D5{xs:LV}{v:kb}(r:oA xs its)(h:v∈its):∃x∈xs,JA x v:=by
 induction r with
 |nil=>exact nomatch h
 |cons r t z=>rcases QK.mp h with e|h;subst e;exact#[_,QD,r];let#[x,u,y]:=z h;exact#[x,QE _ u,y]
theorem P3{vs:LW}{ns:LJ}(h:ak vs ns):oA (ns.map V.int) vs:=by
 induction h with|nil=>exact .nil|cons n t _ x=>exact .cons #[t,rfl] x
theorem pV(hu:X.A.units+66<gp):FC X (.builtin "sorted") (NY X.K):=by
 intro pins s σ H xs us Q I r h;let#[p,rfl,h]:=h;rcases h with⟨ss,W,E,q⟩| ⟨xs,W,E,hx,q⟩| ⟨ns,W,E,q⟩
 skip;let#[u,rfl,m]:=pI r;cases m;let#[its,g,Y,hz]:=I.list W;have hl:=g.9;rw[QC]at hl;refine sorted_strs Y.isList (by simpa using xT g) () λout l J F a3=>?_;let#[e,B]:=QCK s.1 its out;have hlen:=(sQ J).1;have hp:=F.length_eq;refine#[.ref (s.1.1.size+1),_,I.laid (t':=s.toks) (λb o z=>QBy z) (wI _) (show uB X.prog X.w _ _ _ (.lst (l.map V.str)) from#[by rw[QC,Q6];omega,out.toList,e,U0 J,by simpa using B]),rfl,q _ l (I.hok.fresh (wI _)) F a3];skip;let#[u,rfl,m]:=pI r;cases m;let#[its,g,Y,hz]:=I.list W;have hl:=g.9;have f:∀v∈its,∃b dd M n k,∃j:LS,v=.ref b/\s.1.get? b=jr { cls:=.type "list",dict:=dd,data:=.seq k n,slots:=M }/\ti k.toList j:=λv hv=>by let#[x,S,N]:=D5 g hv;let#[a,j,rfl,sq]:=hx x S;cases N;let#[i,O,#[o,n,e,c,d,z],_]:=I.list sq;let#[oc,od,R,P]:=o;cases c;exact#[a,od,P,n,i.toArray,j,rfl,by rw[e,show R=Data.seq i.toArray n from z],by simpa using xT O]
 refine zc Y.isList () (λv hv=>?_) (λh3 kp x hx y hy C hC=>?_) λout hp=>?_;let#[b,dd,M,n,k,j,rfl,e,_]:=f v hv;exact#[b,_,rfl,e,rfl];let#[b,dd,M,n,k,j,rfl,e,st]:=f x hx;let#[b2,dd2,sl2,n2,G,ts2,rfl,e2,L]:=f y hy;exact VW (s:={ s with heap:=h3 }) (show X.A.units+1+1<gp by omega) (kp _ _ e) (kp _ _ e2) st L (hC _);let#[e,B]:=QCK s.1 its out.toArray;let#[ys,py,vy]:=D1 hp.symm g;have hp2:=py.length_eq;refine#[.ref (s.1.1.size+1),_,I.laid (t':=s.toks) (λb o z=>QBy z) (wI _) (show uB X.prog X.w _ _ _ (.lst ys) from#[by rw[Q6];omega,out,e,vy,B]),rfl,q _ ys (I.hok.fresh (wI _)) py];let#[u,rfl,m]:=pI r;cases m;let#[its,g,Y,hz]:=I.list W;have hl:=g.9;rw[QC]at hl;refine sorted_ints Y.isList (lX g) () λout Z J F a3=>?_;let#[e,B]:=QCK s.1 its out;have hp:=F.length_eq;refine#[.ref (s.1.1.size+1),_,I.laid (t':=s.toks) (λb o z=>QBy z) (wI _) (show uB X.prog X.w _ _ _ (.lst (Z.map V.int)) from#[by rw[QC,Q6];omega,out.toList,e,P3 J,by simpa using B]),rfl,q _ Z (I.hok.fresh (wI _)) F a3]
theorem J4:FC X (.type "tuple") (S6 X.K):=by intro x s y H k u Q I r h;let#[p,z,rfl,w,v]:=h;exact EO x s y H _ u Q I r #[p,z,rfl,.inl #[w,v]]
theorem Nl:Sa X "str.index" T6:=by intro k s l H x m v n Q I a g h;let#[z,y,i,w,rfl,rfl,j,q]:=h;let#[t,rfl]:=a;let#[u,rfl,f]:=pI g;let#[o,rfl]:=f;exact PySem.SC.index j #[.int _,H,I.tok _,#[_,rfl],q]
theorem fe:Sa X "list.extend" rg:=by intro y s u H x z v k Q I a f h;let#[l,b,z,w,rfl,rfl,h]:=h;exact y3 y s u H _ _ v k Q I a f #[l,b,z,w,rfl,rfl,h]
theorem bu(h:X.A.units+66<gp)(hc:X.calm=kf)(f:Bi):(∃id,g6 f.nm=jr (.builtin id)/\FC X (.builtin id) (gu X.K f))∨∃T,g6 f.nm=jr (.type T)/\FC X (.type T) (gu X.K f):=by
 cases f with|len=>exact .inl #[_,PySem.boot_len,xa]|any=>exact .inl #[_,PyProof.Rows.boot_any,ua hc]|list=>exact .inr #[_,QA9,pS]|min=>exact .inl #[_,PyProof.Rows.boot_min,Y4 hc]|sorted=>exact .inl #[_,PyProof.Rows.boot_sorted,pV h]|tuple=>exact .inr #[_,by kernel_rfl,J4]
end
end
end L2.L3
namespace L2.L3
open PySem PySem.Spec PyProof.Rows
section
variable{S:SC}{i:Nat}{x:Str}
structure OkX(X:Cx)(S:SC)(G:Glob)(E:XK):Prop where
 N:X.N=S.N
 sc:X.env.scope=S.sc
 calm:X.calm=kf
 un:X.A.units+66<gp
 fn:∀f,G.fn f->∃(CX:zb) (k:Nat) (a:ko) (fd:gV) (ps:LS),FnOk X.prog X.w X.K X.mg X.base CX k a fd ps (G.ev.sp f)/\Room k X.A/\X.mg f=jr (.ref a)/\wO X.K (.ref a)=kf/\PJ X.K fd ps [] /\
  bO CX X E/\∀l H s e s',CX l H s (λ_ _ _=>False) e s'->False
 val:∀x,G.val x->∃u,X.mg x=jr u/\JA (G.ev.va x) u
 no:∀x,G.no x->X.mg x=kv
def CS(X:Cx)(Γ:Ev)(E:XK):PX->List Expr->Prop
 | .acons a as,e::es=>PE X e (wp X.K Γ a E).e/\CS X Γ E as es|_,_=>True
structure Snd(X:Cx)(Γ:Ev)(E:XK)(p:PX)(e:Expr):Prop where
 pe:PE X e (wp X.K Γ p E).e
 pt:PT X e (wp X.K Γ p E).t
 pw:∀op es pos,e=.BoolOp op es pos->PW X e (wp X.K Γ p E).t
 pa:∀es pos,e=.List es pos->PA X es (wp X.K Γ p E).a
 pas:∀es pos,e=.List es pos->CS X Γ E p es
theorem Mb(h:vj S i x=kf):S.N[i]?=jr x/\Ju S.sc x/\(x==("__debug__":Str))=kd/\(x==("__classdict__":Str))=false:=by simp only[vj,Qb,Wa,beq_iff_eq,bne_iff_ne,ne_eq]at h;let#[#[#[v,y],u],z]:=h;refine#[v,?_,by simpa using u,by simpa using z];rcases y with(y|y)|y;exact .inl y;exact .inr (.inl y);exact .inr (.inr y)
theorem Ye(h:El S i x=kf):S.N[i]?=jr x/\S.sc.names.lookup x=jr .local:=by simp only[El,Qb,beq_iff_eq]at h;exact h
theorem kH(h:nX S x=kf):S.sc.names.lookup x=jr .globalImplicit/\(x==("__debug__":Str))=kd/\x≠"__name__":=by simp only[nX,Qb,beq_iff_eq,bne_iff_ne,ne_eq]at h;exact#[h.1.1,by simpa using h.1.2,h.2]
theorem iE:∀{l:LS},cK l=kf->l.Nodup
 |[],_=>Qq|x::r,h=>by simp only[cK,Qb,Q4]at h;exact Qj.mpr #[by simpa using h.1,iE h.2]
theorem IU{z:hB}{w:LS}{u:List Bool}(h:A9 S z w u=kf):CompSt S.N S.sc z w u:=by simp only[A9,Qb,Q9,beq_iff_eq,Q4]at h;let#[#[#[f,k],b],a]:=h;refine#[f,λy v e=>?_,λy v e=>?_,λy v e=>?_,λy v e=>?_,iE b,by simpa using a];have:=(k y v).1.1;rw[e]at this;exact im this (by decide);have:=(k y v).1.2;rw[e]at this;simp at this;exact this.1;have:=(k y v).2;rw[e]at this;simp at this;exact this;have:=(k y v).1.2;rw[e]at this;simp at this;exact this.2
theorem OkX.comp{X:Cx}{G:Glob}{E:XK}(ok:OkX X S G E)(y:hB)(v:LS)(u:List Bool)(s:kt)(H:Hp)(ex:List ko):OkX (SA X y v u s H ex) (RZ S y v u) G (λ_ _ _=>False) where
 N:=by show v++VB u 0 X.N=v++VB u 0 S.N;rw[ok.N]
 sc:=by show GM y X.env.scope=GM y S.sc;rw[ok.sc]
 calm:=ok.calm
 un:=ok.un
 fn:=λf h=>by let#[o,k,a,n,b,m,l,j,g,e,p,w]:=ok.fn f h;exact#[o,k,a,n,b,m,l,j,g,e,λ_ _ _ _ _ _ _ z=>(w _ _ _ _ _ z).elim,w]
 val:=ok.val
 no:=ok.no
end
section
variable{X:Cx}
theorem P8{c:Bool}{S:SC}{i:Nat}{x:Str}(k:X.N=S.N)(y:X.env.scope=S.sc)(u:c=kf->∀x,X.fn x=kf)(h:Po c S i x=kf):X.N[i]?=jr x/\Io X.env.scope x/\(X.fn x=kf∨X.env.scope.names.lookup x=jr .local):=by
 simp only[Po,Qb,Wa,beq_iff_eq]at h;rw[k,y];rcases h.2 with z|⟨w,v⟩
 exact#[h.1,.inl z,.inr z];exact#[h.1,.inr v,.inl (u w x)]
theorem gP{c:Bool}{S:SC}(a:c=kf->∀x,X.fn x=kf)(j:X.N=S.N)(k:X.env.scope=S.sc)(nd:X.N.Nodup):∀(w:LN) (es:List Expr),w.9=es.9->((w.zip es).all λp=>match p.2 with | .Name x _=>Po c S p.1 x|_=>kd)=kf ->
  Kz X es (λvs σ H Q=>∃y,cB w vs σ=jr y/\Q y H)
 |[],[],_,_=>by
  intro z s σ H vs n Q I r h;let#[y,e,q]:=h;cases vs with|nil=>cases r;simp only[cB]at e;cases e;exact assignInOrder_nil #[σ,H,I,q]|cons _ _=>simp[cB]at e
 |[],_::_,h,_=>by cases h|_::_,[],h,_=>by cases h|i::w,e::es,hl,hz=>by
  simp only[QAT,qp,Qb]at hz;let#[l,W]:=hz;cases e with
  |Name x pos =>
   let#[g,f,b]:=P8 j k a l;have Z:=gP a j k nd w es (by simpa using hl) W;intro z s σ H vs n Q I r h;let#[y,e,q]:=h;cases vs with
   |nil=>simp[cB]at e|cons v vs =>
    simp only[cB]at e;cases r with|cons r Y=>show ku _ _ (P0 (ef (.Name x pos) X.env::(hQ es X.env).map (·.2)) _) _ _ _;refine assignInOrder_cons (GB (IY (pos:=pos) nd g f b z s σ H v _ _ I r (show VZ i v σ H (λu m=>u=σ.set i (jr v)/\m=H) from#[rfl,rfl])) λ_ o #[u,m,B,A,K]=>?_);subst A K;exact Z z o _ _ vs _ Q B Y #[y,e,q]
  |_=>simp at l
theorem aU{c:Bool}:∀(z:LN) (es:List Expr) (S:SC),z.9=es.9->((z.zip es).all λp=>match p.2 with | .Name x _=>Po c S p.1 x|_=>kd)=kf->(hQ es X.env).9=es.9/\(hQ es X.env).findIdx? (·.1)=kv
 |[],[],_,_,_=>#[rfl,rfl]|[],_::_,_,h,_=>by cases h|_::_,[],_,h,_=>by cases h|i::z,e::es,S,hl,hz=>by
  simp only[QAT,qp,Qb]at hz;let#[w,v]:=hz;cases e with|Name x y=>have u:=aU z es S (by simpa using hl) v;have k:hQ (.Name x y::es) X.env=(kd,ef (.Name x y) X.env)::hQ es X.env:=rfl;rw[k];refine#[by rw[QM,QM,u.1],?_];rw[List.findIdx?_cons];simp[u.2]|_=>simp at w
theorem XM:∀{y:LN}{vs:LV}{σ x:St},cB y vs σ=jr x->vs.9=y.9
 |[],[],_,_,_=>rfl|[],_::_,_,_,h=>by simp[cB]at h|_::_,[],_,_,h=>by simp[cB]at h|_::y,_::vs,σ,x,h=>by simp only[cB]at h;rw[QM,QM,XM h]
theorem d7{c:Bool}{S:SC}{G:Glob}{E:XK}(ok:OkX X S G E)(z:c=kf->∀x,X.fn x=kf)(nd:X.N.Nodup){b:Tg}{e:Expr}(h:kw c S b e=kf):PG X e (lG X.K b):=by
 cases b with
 |nm i =>
  cases e with|Name x pos=>let#[l,j,g]:=P8 ok.N ok.sc z h;exact IY nd l j g|_=>cases h
 |tp o =>
  cases e with
  |Tuple m k pos =>
   let#[J,Z]:=vA h;have f:=qi J;let#[C,B]:=aU (X:=X) o m S f Z;have w:=Tj (pos:=pos) (k:=k) (n:=m.9) ok.calm (gP z ok.N ok.sc nd o m f Z) C B;intro y s W H v u Q I r Y;refine w y s W H v u Q I r ?_;cases v with|ref p=>let#[A,a,F,e,q]:=Y;exact#[p,A,rfl,F,by rw[XM e,f],a,e,q]|_=>exact Qd Y
  |_=>cases h
end
variable{Γ:Ev}
theorem Vb(K:QA)(a:ko)(xs:LV):Yields (jAB K a) (xs.map .one) (λH=>nC K H a xs) :=
  { go:=λi H h u=>by
      have z:i<xs.length:=by simpa using u
      exact#[xs,xs[i],h,by simp[z]]
    yld:=λi H x v h _ #[e,y]=>#[.one x,by rw[Qa,y xs h];rfl,rfl,e]
    stop:=λi H h u=>#[xs,h,by simpa using u] }
theorem Ei(K:QA)(a:ko)(xs:LV):Yields (Ez K a xs.9) (xs.reverse.map .one) (λH=>nC K H a xs):=by
 have e:∀i,i<xs.9->xs.reverse[i]?=xs[xs.9 - 1 - i]?:=λi y=>List.getElem?_reverse y;have l:(xs.reverse.map Item.one).9=xs.length:=by rw[QC,wf]
 refine#[λi H h y=>?_,λi H x u h y z=>?_,λi H h y=>by rw[l]at y;exact y];rw[l]at y;exact#[y,xs,xs[xs.9 - 1 - i]'(),h,Qh _];rw[l]at y;exact#[.one x,by rw[Qa,e i y,z.2 xs h];rfl,rfl,z.1]
theorem Ti(K:QA)(a:ko)(xs:LV):Yields (Iz K a) (xs.map .one) (λH=>ED K H a xs) :=
  { go:=λi H h u=>by
      have z:i<xs.length:=by simpa using u
      exact#[xs,xs[i],h,by simp[z]]
    yld:=λi H x v h _ #[e,y]=>#[.one x,by rw[Qa,y xs h];rfl,rfl,e]
    stop:=λi H h u=>#[xs,h,by simpa using u] }
theorem Ai(u:Int)(n:Nat):Yields (Ly u n) ((Qo n).map λ(k:Nat)=>.one (.int (u+(k:Int)))) (λ_=>True) :=
  { go:=λi H h z=>by
      have y:i<n:=by simpa using z
      exact y
    yld:=λi H x w h z #[e,v]=>by
      have y:i<n:=by simpa using z
      exact#[.one x,by rw[Qa,ql y,v];rfl,rfl,e]
    stop:=λi H h z=>by
      have y:n<=i:=by simpa using z
      exact y }
theorem Ub(K:QA)(z:Src)(c:Nat)(xs:LV):Yields (jAD K z c) (xs.zipIdx.map λp=>.tup [.int ((c+p.2:Nat):Int),p.1]) (λH=>A4 K H z xs) :=
  { go:=λi H h u=>by
      have y:i<xs.length:=by simpa using u
      exact#[xs,xs[i],h,by simp[y]]
    yld:=λi H x g h u #[p,a,v,e,w,k]=>by
      have y:i<xs.length:=by simpa using u
      have f:=k xs h;refine#[.tup [.int ((c+i:Nat):Int),a],?_,p,v,e,w];have b:xs.zipIdx[i]?=jr (a,i):=by rw[List.getElem?_zipIdx,f];simp
      rw[Qa,b];rfl
    stop:=λi H h u=>#[xs,h,by simpa using u] }
theorem x5(ep:Nat)(a:ko)(kvs:List KE):Yields (jAA ep kvs.9 a) (kvs.map λp=>.tup [.ref p.2.1,p.2.2]) (λH=>H a=jr (.dT ep kvs)) :=
  { go:=λi H h y=>by
      have z:i<kvs.length:=by simpa using y
      exact#[kvs,kvs[i],h,rfl,by simp[z]]
    yld:=λi H x w h y #[q,p,u,e,v,k]=>#[.tup [.ref p.2.1,p.2.2],by rw[Qa,k kvs h];rfl,q,u,e,v]
    stop:=λi H h y=>#[kvs,h,rfl,by simpa using y] }
theorem Xb(ep:Nat)(a:ko)(kvs:List KE):Yields (jAC ep kvs.9 a) (kvs.map λp=>.one (.ref p.2.1)) (λH=>H a=jr (.dT ep kvs)) :=
  { go:=λi H h y=>by
      have z:i<kvs.length:=by simpa using y
      exact#[kvs,kvs[i],h,rfl,by simp[z]]
    yld:=λi H x b h y #[u,k]=>by let#[p,w,v]:=k kvs h;exact#[.one (.ref p.2.1),by rw[Qa,w];rfl,v,u]
    stop:=λi H h y=>#[kvs,h,rfl,by simpa using y] }
noncomputable def SS(h:St->Hp->(List Item->(Hp->Prop)->Hp->Prop)->Prop):TI:=λx H R=>h x H λy st z=>∀J,Yields J y st->R J z
section
variable{X:Cx}{f:Expr}
section
variable{a:Expr}{ta:TA}{p pos k:Pos}{x:Str}{es:List Expr}{d:Nat}
theorem Gc{l:Expr}{t:TE}(hl:PE X l t):PI X f l (SS λσ H R=>t σ H λv m=>dC X.K .val [v] m R):=by
 intro g s σ H R I h;refine GB (hl g s σ H _ I h) λv y #[x,m,i,F,C]=>?_;have j:∀b∈[y.1.1.size],NJ X g m b:=λb hb=>by
  have e:b=y.1.1.size:=by simpa using hb
  subst e;exact i.fpOk (QT _) (i.hok.fresh (QT _))
 cases x with
 |ref a =>
  cases F;rcases C with⟨Z,A,q⟩| ⟨Z,A,q⟩| ⟨ep,u,e,q⟩
  let#[Y,E,p,G]:=i.list A;refine QAm p.isList ?_;exact#[y.1.1.size,[y.1.1.size],_,_,m,rfl,i.kept (t':=y.toks) λb o e=>QH _ e,C0 a _,#[_,QS _ rfl,rfl,rfl],j,q _ (Vb _ a Z)];let#[Y,E,p,G]:=i.tuple A;refine QBw (show y.1.IsTuple a Y.toArray from p) ?_;exact#[y.1.1.size,[y.1.1.size],_,_,m,rfl,i.kept (t':=y.toks) λb o e=>QH _ e,yW a _,#[_,QS _ rfl,rfl,rfl],j,q _ (Ti _ a Z)];let#[z,J,Z,r,ob,B,O,N,M,L,P]:=(show uB X.prog X.w m y.1 a (.dT ep u) from i.hok a _ e)
  have W:B.size=u.length:=by have:=i3 qO L;rw[QC,Qz]at this;rw[this,<- qI r]
  refine Ce J O N.1 M ?_;exact#[y.1.1.size,[y.1.1.size],_,_,m,rfl,i.kept (t':=y.toks) λb o e=>QH _ e,G0 (a:=a) (n:=u.9) (ep:=ep),#[_,QS _ rfl,rfl,by rw[<- W];rfl],j,q _ (Xb ep a u)]
 |_=>exact Qd C
theorem Hc(g:x="range")(m:Gl X x)(l:X.mg x=kv)(n:PA X [a] ta)(i:EC a=kf) :
  PI X f (.Call (.Name x p) [a] [] pos) (SS λσ H R=>ta σ H λvs v=>dC X.K .rng1 vs v R):=by
 subst g;intro z s σ H R I h;refine Call_ (kF I m l boot_range (qQ (GB (n pos z s σ H _ I h) λY Z #[vs,v,o,b,u]=>?_) (sB _ i) rfl))
 match vs,u with
 |[.int j],#[#[u,q2],q] =>
  cases b with
  |cons r w =>
   cases w;let#[t,rfl]:=r;refine call_range_1 (R6 o () () u q2 ?_);have e:(j - 0).toNat=j.toNat:=by simp
   rw[e];have y:=Ai 0 j.toNat;refine q _ ?_;simpa using y
theorem Rj(Z:x="reversed")(B:Gl X x)(A:X.mg x=kv)(C:PA X [a] ta)(W:EC a=kf) :
  PI X f (.Call (.Name x p) [a] [] pos) (SS λσ H R=>ta σ H λvs w=>dC X.K .rev vs w R):=by
 subst Z;intro z s σ H R I h;refine Call_ (kF I B A QAQ (qQ (GB (C pos z s σ H _ I h) λE y #[vs,w,u,m,n]=>?_) (sB _ W) rfl))
 match vs,n with
 |[.ref l],#[xs,hq,q] =>
  cases m with
  |cons r j =>
   cases j;cases r;let#[v,i,Y,F]:=u.list hq;have hl:=i.9;refine QBx Y.isList ?_;have g:(y.1.push (n7 l ((v.toArray.size:Int) - 1))).IsRevIter y.1.1.size l ((xs.9:Int) - 1 - ((0:Nat):Int)):=#[_,QS _ rfl,rfl,by simp[n7,hl]]
   refine QBV g ?_;refine#[y.1.1.size,[y.1.1.size],_,_,w,rfl,u.kept (t':=y.toks) λb o e=>QH _ e,R5 l _ xs.9,#[Qv _,g],λb hb=>?_,q _ (Ei _ l xs)];have e:b=y.1.1.size:=by simpa using hb
   subst e;exact u.fpOk (QT _) (u.hok.fresh (QT _))
theorem K4:g6 ("enumerate":Str)=jr (.type "enumerate"):=by kernel_rfl
theorem L9{y:TB}{σ:St}{e:Hp}{h:kt}{R:It->Hp->Prop}{c:Nat}{z:Src}{xs:LV}{its:Array kb}{h':vu}(v:Inv X y σ e h)(g:OB h.1 z its)(st:oY (h.1.1.size+1) h.1.1.size z c 0 h')(j:∀c o,h.1.get? c=jr o->h'.get? c=jr o)
  (q:∀J,Yields J (xs.zipIdx.map λp=>.tup [.int ((c+p.2:Nat):Int),p.1]) (λH=>A4 X.K H z xs)->R J e):ku (k0 X.prog X.w) X.A (la (.ref (h.1.1.size+1))) (Uy X y σ (.Tuple es d k) R) X.xe { h with heap:=h' }:=by
 let#[#[i,l],_]:=id st;refine QCB l ?_;have m:=v.kept (h':=h') (t':=h.toks) j;have lt:=g.lt;refine#[_,[h.1.1.size+1,h.1.1.size],_,_,e,rfl,m,L0 (jAa (Nat.succ_ne_self _)) (Qm (WC lt)) (Qm lt),st,λb hb=>?_,q _ (Ub _ z c xs)];have u:h.1.1.size<=b:=by simp only[QK,WM,or_false]at hb;rcases hb with rfl|rfl;exact QA4 _ _;exact QT _
 exact v.fpOk u (v.hok.fresh u)
theorem Mc(l:x="enumerate")(o:Gl X x)(n:X.mg x=kv)(Y:PA X [a] ta)(m:EC a=kf) :
  PI X (.Tuple es d k) (.Call (.Name x p) [a] [] pos) (SS λσ H R=>ta σ H λvs w=>dC X.K .enum vs w R):=by
 subst l;intro u s σ H R I h;refine Call_ (kF I o n K4 (qQ (GB (Y pos u s σ H _ I h) λZ W #[vs,w,v,e,g]=>?_) (sB _ m) rfl))
 match vs,g with
 |[.ref l1],#[z,xs,e1,h1,q] =>
  subst e1;cases e with|cons r b=>cases b;cases r;let#[j,_,y,_]:=v.src h1;refine kY y λA st i=>L9 (xs:=xs) v y st i ?_;simpa using q
theorem Be{K:QA}{u:V}{H:Hp}{R:List Item->(Hp->Prop)->Hp->Prop}(h:dC K .itm [u] H R):∃a ep kvs,u=.ref a/\H a=jr (.dT ep kvs)/\R (kvs.map λp=>.tup [.ref p.2.1,p.2.2]) (λH=>H a=jr (.dT ep kvs)) H:=by
 cases u with|ref a=>let#[ep,kvs,e,q]:=h;exact#[a,ep,kvs,rfl,e,q]|_=>exact Qd h
theorem Sj{o:Expr}{B:TE}{apos cpos:Pos}(J:PE X o B)(i:DC o "items" X.env (g7 o X.env)=g7 o X.env)(g:(apos.endLine==cpos.line)=kf) :
  Cv X (.Tuple es d k) (.Call (.Attribute o "items" apos) [] [] cpos) (SS λσ H R=>B σ H λv l=>dC X.K .itm [v] l R):=by
 intro u s σ H R I h;refine QAu i g (GB (J u s σ H _ I h) λv j #[x,l,C,E,G]=>?_);let#[a,ep,y,rfl,e,q]:=Be G;cases E;let#[z,L,P,r,ob,W,m,Z,N,M,Q]:=(show uB X.prog X.w l j.1 a (.dT ep y) from C.hok a _ e)
 refine#["dict",_,QAy,PySem.F.slot_dict_items,PySem.F.type_dict_items,#[ob,m,Z.1],λb O=>?_,Wi rfl (QBe (zY m Z.1 L ?_))];cases O;exact#[ob,m,Z.2.1];have A:Inv X u σ l { j with heap:=j.1.push { cls:=.type "dict_items",data:=.fields (qG [.ref a]) } }:=C.kept (t':=j.toks) λb o e=>QH _ e;refine d9 #[_,QS _ rfl,rfl,rfl] (QH _ m) N ?_;have Y:W.size=y.length:=by have:=i3 qO M;rw[QC,Qz]at this;rw[this,<- qI r]
 refine#[_,[_],_,_,l,rfl,A.kept (t':=j.toks) λb o e=>QH _ e,kW (a:=a) (n:=y.9) (ep:=ep),#[.none,.none,?_],λb hb=>?_,q _ (x5 ep a y)];rw[<- Y];exact QS _ rfl;have e:=QJ.mp hb;subst e;exact A.fpOk (QT _) (A.hok.fresh (QT _))
end
end
section
variable{u σ:St}{K:QA}{k:Tg}{H:Hp}{Q:St->Hp->Prop}
def Tg.at:Tg->LN
 | .nm i=>[i]|.tp h=>h
def DV(k:Tg)(u σ:St):Prop:=u.9=σ.9/\∀(j:Nat),j∉k.at->u[j]?=σ[j]?
theorem A0{i:Nat}{v:Option V}(h:u.9=σ.9)(x:∀j,j≠i->u[j]?=σ[j]?):u.set i v=σ.set i v:=by apply qX;intro j;by_cases e:j=i;subst e;by_cases hl:j<σ.9;rw[qg (),qg hl];rw[Qk (by rw[wH];omega),Qk (by rw[wH];omega)];rw[qT (Q7 e),qT (Q7 e)];exact x j e
theorem BI:∀(x:LN) (vs:LV) (u σ:St),u.9=σ.9->(∀j,j∉x->u[j]?=σ[j]?)->cB x vs u=cB x vs σ
 |[],[],u,σ,hl,h=>by have:u=σ:=qX λj=>h j (by simp);rw[this]|[],_::_,_,_,_,_=>rfl|_::_,[],_,_,_,_=>rfl|i::x,v::vs,u,σ,hl,h=>by simp only[cB];refine BI x vs _ _ (by simp[hl]) λj z=>?_;by_cases e:j=i;subst e;by_cases y:j<σ.9;rw[qg (),qg y];rw[Qk (by rw[wH];omega),Qk (by rw[wH];omega)];rw[qT (Q7 e),qT (Q7 e)];exact h j (by simp[e,z])
theorem SE:∀(h:LN) (vs:LV) (σ u:St),cB h vs σ=jr u->u.9=σ.9/\∀j,j∉h->u[j]?=σ[j]?
 |[],[],σ,u,e=>by simp only[cB]at e;cases e;exact#[rfl,λ_ _=>rfl]|[],_::_,_,_,e=>by simp[cB]at e|_::_,[],_,_,e=>by simp[cB]at e|i::h,v::vs,σ,u,e=>by simp only[cB]at e;let#[w,y]:=SE h vs _ _ e;refine#[by rw[w,wH],λj x=>?_];rw[y j (λz=>x (QE _ z)),qT (λz=>x (by simp[z]))]
theorem aV{v:V}(a:DV k u σ)(h:lG K k v σ H Q):lG K k v u H λx m=>DV k x σ/\Q x m:=by
 let#[f,g]:=a;cases k with
 |nm i=>have e:u.set i (jr v)=σ.set i (jr v):=A0 f λj y=>g j (by simpa[Tg.at]using y);show DV (.nm i) (u.set i (jr v)) σ/\Q (u.set i (jr v)) H;rw[e];exact#[#[by simp,λj y=>qT (λz=>y (by simp[Tg.at,z]))],h]|tp b =>
  cases v with|ref p=>let#[w,x,l,e,q]:=h;exact#[w,x,l,by rw[BI b w u σ f λj y=>g j y];exact e,#[(SE b w σ x e).1,λj y=>(SE b w σ x e).2 j y],q]|_=>exact Qd h
theorem xY{v:V}{y:St->Hp->Prop}(m:∀σ H,Q σ H->y σ H)(h:lG K k v σ H Q):lG K k v σ H y:=by
 cases k with
 |nm i=>exact m _ _ h|tp a =>
  cases v with|ref p=>let#[z,x,w,e,q]:=h;exact#[z,x,w,e,m _ _ q]|_=>exact Qd h
theorem yO{it:Item}{x:V}{y:Hp}(w:match it with | .one v=>x=v/\y=H | .tup vs=>∃p,H p=kv/\x=.ref p/\y=CA H p (.tup vs))(h:bindI K k it σ H Q):lG K k x σ y Q:=by
 cases it with
 |one v=>let#[rfl,rfl]:=w;exact h|tup vs =>
  let#[p,z,rfl,rfl]:=w;cases k with
  |nm i=>exact h p z|tp a =>
   let#[u,e,q]:=h (CA H p (.tup vs)) λb o e=>by rw[uA (iA e z)];exact e
   exact#[vs,u,ED.of YA,e,q]
theorem T9{xs:List Item}{st:Hp->Prop}{tc:TT}{te:TE}{a:St}{Q:VK}(h:Vt K xs st (bindI K k) tc te a H Q):Y0 K xs st k tc te a H Q:=by
 let#[W,Z,o,j,done]:=h;intro J Y;refine#[λi m v u f=>m=xs.9 - i/\i<=xs.9/\DV k u a/\W i v f,#[xs.9,by simp,Qv _,#[rfl,λ_ _=>rfl],Z],?_];rintro i m v u f ⟨rfl,C,F,w⟩;have n:=o i v f C w;by_cases g:i<xs.9;refine .inr #[Y.go i f n g,λx G y=>?_];let#[it,p,B]:=Y.yld i f x G n g y;have b:=aV F (yO B (j i it v f p w));refine xY (λl I q=>?_) b;let#[r,q]:=q;have E:∀(z:LV) (s:Hp),(∃X,X < xs.9 - i/\X=xs.9 - (i+1)/\i+1<=xs.9/\DV k l a/\W (i+1) z s)=W (i+1) z s:=λz s =>
  ir #[λ#[_,_,_,_,_,w]=>w,λw=>#[_,(),rfl,g,r,w]]
 simp only[E];exact q
 ·have e:i=xs.length:=()
  subst e;let#[A,q]:=done v f w;exact .inl #[Y.stop _ f n (QT _),A,q]
end
end L2.L3
namespace L2.L3
open PySem PySem.Spec PyProof.Rows
variable{Γ:Ev}
section
variable{X:Cx}{E:XK}{p its:PX}{es:List Expr}{e t n:Expr}{pos:Pos}{S:SC}{Q:LV->Hp->Prop}{G:Glob}{d:ItK}
def mR:PX->Bool
 | .acons _ _=>kd|_=>kf
theorem JV(h:mR p=kf):CS X Γ E p es:=by cases p<;>first|trivial|cases h
theorem eS(Q:Bool->Hp->Prop):(λ(x:V) (h:Hp)=>Ua x h Q)=λ(x:V) (h:Hp)=>∃k,x=.bl k/\Q k h:=by funext x h;exact En x h Q
theorem Snd.of(pe:PE X e (wp X.K Γ p E).e)(pt:PT X e (wp X.K Γ p E).t)(hb:∀h es pos,e≠.BoolOp h es pos)(y:(wp X.K Γ p E).a=never.a)(x:mR p=true:=by rfl):Snd X Γ E p e :=
 #[pe,pt,λh es pos z=>im z (hb h es pos),λes pos z=>by rw[y];exact UT,λ_ _ _=>JV x]
theorem Snd.lit(pe:PE X e (wp X.K Γ p E).e)(x:(wp X.K Γ p E).t=never.t)(hb:∀h es pos,e≠.BoolOp h es pos)(z:(wp X.K Γ p E).a=never.a)(y:mR p=true:=by rfl):Snd X Γ E p e :=
 Snd.of pe (by rw[x];exact NM) hb z y
theorem Snd.args(w:PA X es (wp X.K Γ p E).a)(u:CS X Γ E p es)(v:(wp X.K Γ p E).e=never.e)(y:(wp X.K Γ p E).t=never.t):Snd X Γ E p (.List es pos) :=
 #[by rw[v];exact i7,by rw[y];exact NM,λ_ _ _ z=>(by cases z),λx h z=>by cases z;exact w,λx h z=>by cases z;exact u]
theorem uk{x:Str}{v:V}{u:kb}(y:X.env.scope=S.sc)(h:nX S x=kf)(z:X.mg x=jr u)(r:JA v u):PE X (.Name x pos) (λ_ H Q=>Q v H):=by let#[k,w,a]:=kH h;exact Oc (show X.env.scope.names.lookup x=jr .globalImplicit by rw[y];exact k) z r w
theorem cD:∀(p:PX) {es:List Expr},IB p S (.List es pos)=kf->es.all EC=true:=by
 intro p;induction p with|anil=>intro es h;have h:es.isEmpty=true:=h;rw[Qx.mp h];rfl|acons a u _ y=>intro es h;have h:Zd es _=true:=h;let#[x,t,rfl,h]:=fL h;have z:=vA h;rw[qp,z.1,y (vA z.2).2];rfl|lst u y=>exact λh=>y h|_=>exact λh=>(QG h).elim
theorem iV{K:QA}{σ:St}{H:Hp}:∀(p:PX),xF p=kf->IB p S (.List [] pos)=kf->((wp K Γ p E).a σ H Q↔Q [] H):=by
 intro p;cases p with|anil=>exact λ_ _=>WQ|acons _ _=>exact λ_ h=>(QG h).elim|_=>exact λh=>(QG h).elim
theorem U4{K:QA}{σ:St}{H:Hp}(p:PX)(h:IB p S (.List [] pos)=kf)(q:(wp K Γ p E).a σ H Q):Q [] H:=by
 cases x:xF p with
 |true=>exact(iV p x h).mp q|false =>
  cases p with|anil=>exact q|acons _ _=>exact(QG h).elim|_=>exact q.elim
theorem eV{a:Expr}(p:PX)(y:xF p=kf)(h:IB p S (.List [a] pos)=kf):∃x,p=.acons x .anil:=by
 cases p with
 |acons x r =>
  have z:IB r S (.List [] pos)=true:=(vA (vA h).2).2;cases r with|anil=>exact#[x,rfl]|acons _ _=>exact(QG z).elim|_=>exact(QG y).elim
 |anil=>exact(QG h).elim|_=>exact(QG y).elim
theorem Gr(h:X.A.units+66<gp)(m:Mt):∃id,nc m.ty/\Slot m.ty m.nm id/\typeOf (.builtin id)=tv (.type "method_descriptor")/\Sa X id (ge X.K m):=by
 cases m with|append=>exact#[_,Wb,PySem.F.slot_list_append,PySem.F.type_list_append,v3]|pop=>exact#[_,Wb,PySem.F.slot_list_pop,PySem.F.type_list_pop,de]|extend=>exact#[_,Wb,PySem.F.slot_list_extend,PySem.F.type_list_extend,fe]|setd=>exact#[_,QAy,PySem.F.slot_dict_setdefault,PySem.F.type_dict_setdefault,j3 h]|index=>exact#[_,PySem.F.plainAttrs_str,PySem.F.slot_str_index,PySem.F.type_str_index,Nl]
theorem KG{env:Env}{pos:Pos}:∀{es:List Expr},es.all EC=kf->(fb pos (xk es env)).any (·.1)=kd
 |[],_=>rfl|e::es,h=>by rw[qp]at h;let#[y,x]:=vA h;rw[sB env y];show(kd||(fb pos (xk es env)).any (·.1))=kd;rw[KG x];rfl
theorem YV{env:Env}{pos:Pos}:∀{es:List Expr},es.all EC=kf->(fb pos (xk es env)).all (λx=>!x.1)=kf
 |[],_=>rfl|e::es,h=>by rw[qp]at h;let#[z,y]:=vA h;rw[sB env z];show(kf&&(fb pos (xk es env)).all (λx=>!x.1))=kf;rw[YV y];rfl
theorem iW(ok:OkX X S G E)(y:Zv (xF its) S d (λes p=>IB its S (.List es p)) t n pos=kf)(j:Ps G d)(o:isItm d=kd)
  (f:∀es p,IB its S (.List es p)=kf->Snd X G.ev E its (.List es p)):PI X t n (SS λσ H R=>(wp X.K G.ev its E).a σ H λvs q=>dC X.K d vs q R):=by
 have v:∀{x:Str},nX S x=kf->Gl X x:=λ{x} h=>by show X.env.scope.names.lookup x=jr .globalImplicit;rw[ok.sc];exact(kH h).1
 have w:fX t=kf->∃es k p,t=.Tuple es k p:=λh=>by
  cases t with|Tuple es k p=>exact#[es,k,p,rfl]|_=>exact(QG h).elim
 cases d with|val=>have i:=vA y;have g:=(f _ pos i.2).pas _ pos rfl;let#[a,rfl]:=eV its i.1 i.2;exact Gc g.1|rng1=>let#[l,es,m,p,rfl,b,h]:=uF y;have u:=vA h;cases Qx.mp u.1;let#[a,rfl,z]:=HB u.2;exact Hc rfl (v b) (ok.no _ j) ((f _ p z).pa _ p rfl) (by simpa using cD its z)|rev=>let#[l,es,m,p,rfl,b,h]:=uF y;have u:=vA h;cases Qx.mp u.1;let#[a,rfl,z]:=HB u.2;exact Rj rfl (v b) (ok.no _ j) ((f _ p z).pa _ p rfl) (by simpa using cD its z)|enum=>have i:=vA y;let#[es,k,pt,rfl]:=w i.1;let#[l,es,m,p,rfl,b,h]:=uF i.2;have u:=vA h;cases Qx.mp u.1;let#[a,rfl,z]:=HB u.2;exact Mc rfl (v b) (ok.no _ j) ((f _ p z).pa _ p rfl) (by simpa using cD its z)|itm=>cases o
theorem Lc(ok:OkX X S G E)(x:Zv (xF its) S d (λes p=>IB its S (.List es p)) t n pos=kf)(g:Ps G d)
  (u:∀es p,IB its S (.List es p)=kf->Snd X G.ev E its (.List es p)):Cv X t n (SS λσ H R=>(wp X.K G.ev its E).a σ H λvs j=>dC X.K d vs j R):=by
 cases b:isItm d with
 |false=>exact(iW ok x g b u).to0|true =>
  cases d with
  |itm =>
   have i:=vA x;have w:=vA i.2;cases t with|Tuple es k pt=>let#[v,l,es,p,rfl,hl,h]:=lZ w.2;have f:=vA h;have z:=vA f.2;cases Qx.mp z.1;have y:=(u _ p z.2).pas _ p rfl;let#[a,rfl]:=eV its w.1 z.2;exact Sj y.1 (n8 f.1) hl|_=>exact(QG i.1).elim
  |_=>cases b
theorem AG{te x:TE}(h:PE X e te)(q:∀σ H Q,x σ H Q->te σ H Q):PE X e x:=λy s σ H Q I z=>h y s σ H Q I (q σ H Q z)
theorem snd:∀(p:PX) {X:Cx}{S:SC}{E:XK}(ok:OkX X S G E) {e:Expr},IB p S e=kf->gB G p->Snd X G.ev E p e:=by
 intro p;induction p with
 |var i =>
  intro X S E ok e h _;let#[x,pos,rfl,h]:=IF h;let#[Y,B,M,h4]:=Mb h;have base:=l7 (pos:=pos) (show X.N[i]?=jr x by rw[ok.N];exact Y) (show Ju X.env.scope x by rw[ok.sc];exact B) M h4;have pe:PE X (.Name x pos) (wp X.K G.ev (.var i) E).e:=AG base λA H Q q=>by
   have q:(match A[i]? with|some (jr v)=>Q v H|_=>False):=q;cases hs:A[i]? with
   |none=>rw[hs]at q;exact q.elim|some o =>
    rw[hs]at q;cases o with|none=>exact q.elim|some v=>exact#[v,hs,q]
  exact Snd.of pe (zE pe λ_=>rfl) (λ_ _ _ z=>by cases z) rfl
 |int i=>intro X S E ok e h _;let#[c,k,pos,rfl,h]:=aE h;let#[j,rfl,h]:=ma h;cases qi h;exact Snd.of JW (zE (ta:=λ_ H Q=>Q (.int i) H) JW λ_=>rfl) (λ_ _ _ z=>by cases z) rfl|str x=>intro X S E ok e h _;let#[c,k,pos,rfl,h]:=aE h;let#[j,rfl,h]:=Bn h;cases qi h;exact Snd.lit jk rfl (λ_ _ _ z=>by cases z) rfl|bl b=>intro X S E ok e h _;let#[c,k,pos,rfl,h]:=aE h;let#[j,rfl,h]:=Zf h;cases qi h;exact Snd.of Kg (zE (ta:=λ_ H Q=>Q (.bl b) H) Kg λ_=>rfl) (λ_ _ _ z=>by cases z) rfl|non=>intro X S E ok e h _;let#[c,k,pos,rfl,h]:=aE h;cases Jf h;exact Snd.of e7 (zE (ta:=λ_ H Q=>Q .non H) e7 λ_=>rfl) (λ_ _ _ z=>by cases z) rfl|glo x=>intro X S E ok e h nd;let#[y,pos,rfl,h]:=IF h;have h:=vA h;cases qi h.1;let#[u,hm,r]:=ok.val x nd;have pe:=uk (pos:=pos) ok.sc h.2 hm r;exact Snd.of pe (zE pe λ_=>rfl) (λ_ _ _ z=>by cases z) rfl|bin op a b Z J=>intro X S E ok e h nd;let#[l,o,r,pos,rfl,h]:=Kd h;have Y:=vA h;have B:=vA Y.2;cases qi Y.1;have pe:=Pq (pos:=pos) (Yk op) (Z ok B.1 nd.1).pe (J ok B.2 nd.2).pe;exact Snd.of pe (zE pe λ_=>rfl) (λ_ _ _ z=>by cases z) rfl|cmp op a b Z J=>intro X S E ok e h nd;let#[l,os,rs,pos,rfl,h]:=Yd h;let#[o,rfl,h]:=HB h;let#[r,rfl,h]:=HB h;have Y:=vA h;have B:=vA Y.2;have M:=vA B.2;cases qi Y.1;have pa:=(Z ok M.1 nd.1).pe;have pb:=(J ok M.2 nd.2).pe;refine Snd.of (Tc (pos:=pos) (F7 ok.un op) pa pb (r8 B.1)) (λL s A H Q I q=>Xc (pos:=pos) (F7 ok.un op) pa pb (r8 B.1) L s A H Q I ?_) (λ_ _ _ z=>by cases z) rfl;show vq _ _ _ A H (λ(x:V) (W:Hp)=>∃k,x=.bl k/\Q k W);rw[<- eS Q];exact q|and a b Z J =>
  intro X S E ok e h nd;let#[o,es,pos,rfl,h]:=GT h;have Y:=vA h;cases qi Y.1;let#[l,t,rfl,B]:=fL Y.2;let#[r,t,rfl,M]:=fL B;have h4:=vA M;have P:=Z ok h4.1 nd.1;have sb:=J ok h4.2 nd.2;have eqA:∀(A:St) (Q:VK),(λ(x:V) (W:Hp)=>∃c,x=.bl c/\if c=kf then(wp X.K G.ev b E).e A W Q else Q (.bl kd) W)=λ(x:V) (W:Hp)=>Ua x W λc H2=>if c=kf then(wp X.K G.ev b E).e A H2 Q else Q (.bl kd) H2:=λA Q=>(eS _).symm
  have key:PW X (.BoolOp .And (l::r::t) pos) (wp X.K G.ev (.and a b) E).t/\PE X (.BoolOp .And (l::r::t) pos) (λA H Q=>(wp X.K G.ev a E).e A H λx W=>∃c,x=.bl c/\if c=kf then(wp X.K G.ev b E).e A W Q else Q (.bl kd) W):=by
   cases t with|nil=>exact#[j7 P.pt (Kc sb.pt),Z7 (pos:=pos) P.pe (t7 sb.pe)]|cons q t=>exact#[j7 P.pt (sb.pw _ _ _ rfl),Z7 (pos:=pos) P.pe sb.pe]
  refine#[AG key.2 λA H Q q=>?_,key.1.pt,λ_ _ _ _=>key.1,λ_ _ z=>(by cases z),λ_ _ z=>trivial];rw[eqA];exact q
 |or a b Z J =>
  intro X S E ok e h nd;let#[o,es,pos,rfl,h]:=GT h;have Y:=vA h;cases qi Y.1;let#[l,t,rfl,B]:=fL Y.2;let#[r,t,rfl,M]:=fL B;have h4:=vA M;have P:=Z ok h4.1 nd.1;have sb:=J ok h4.2 nd.2;have eqA:∀(A:St) (Q:VK),(λ(x:V) (W:Hp)=>∃c,x=.bl c/\if c=kf then Q (.bl kf) W else(wp X.K G.ev b E).e A W Q)=λ(x:V) (W:Hp)=>Ua x W λc H2=>if c=kf then Q (.bl kf) H2 else(wp X.K G.ev b E).e A H2 Q:=λA Q=>(eS _).symm
  have key:PW X (.BoolOp .Or (l::r::t) pos) (wp X.K G.ev (.or a b) E).t/\PE X (.BoolOp .Or (l::r::t) pos) (λA H Q=>(wp X.K G.ev a E).e A H λx W=>∃c,x=.bl c/\if c=kf then Q (.bl kf) W else(wp X.K G.ev b E).e A W Q):=by
   cases t with|nil=>exact#[ig P.pt (Fj sb.pt),Zg (pos:=pos) P.pe (t7 sb.pe)]|cons q t=>exact#[ig P.pt (sb.pw _ _ _ rfl),Zg (pos:=pos) P.pe sb.pe]
  refine#[AG key.2 λA H Q q=>?_,key.1.pt,λ_ _ _ _=>key.1,λ_ _ z=>(by cases z),λ_ _ z=>trivial];rw[eqA];exact q
 |not a Z=>intro X S E ok e h nd;let#[o,x,pos,rfl,h]:=G7 h;have Y:=vA h;cases qi Y.1;have P:=Z ok Y.2 nd;refine Snd.of (λL s A H Q I q=>?_) (Gj P.pt) (λ_ _ _ z=>by cases z) rfl;refine UnaryOp_ (GB (P.pe L s A H _ I q) λv s1 #[x,W,I1,r1,q1]=>?_);have q1:fH X.K x W (λc H2=>Q (.bl (!c)) H2):=q1;rw[JY]at q1;refine not_of (GB (S5 L s1 A W x v _ I1 r1 q1) λc s2 #[H2,I2,q2]=>?_);exact#[.bl (!c),H2,I2,rfl,q2]|ife c a b ihc Z J=>intro X S E ok e h nd;let#[t,l,r,pos,rfl,h]:=Xk h;have Y:=vA h;have B:=vA Y.2;exact Snd.lit (J7 (pos:=pos) (ihc ok Y.1 nd.1).pt (Z ok B.1 nd.2.1).pe (J ok B.2 nd.2.2).pe) rfl (λ_ _ _ z=>by cases z) rfl|call f as ih =>
  intro X S E ok e h nd;let#[p,es,ks,pos,rfl,hg,h]:=uF h;have Y:=vA h;cases Qx.mp Y.1;let#[g1,g2,g3]:=kH hg;have hg:Gl X f:=show X.env.scope.names.lookup f=jr .globalImplicit by rw[ok.sc];exact g1
  let#[CX,k,a,fd,ps,F,hr,hm,hk,hb,hx,_]:=ok.fn f nd.1;have pa:=(ih ok Y.2 nd.2).pa es pos rfl;have st:=cD as Y.2;have pe:PE X (.Call (.Name f p) es [] pos) (wp X.K G.ev (.call f as) E).e:=by
   cases es with|nil=>exact AG (Y7 (pos:=pos) (p:=p) F hr hg hm hk hb .nil hx g2) λA H Q q=>U4 as Y.2 q|cons e1 O=>have st:=vA st;refine AG (Ac (pos:=pos) (p:=p) F hr hg hm hk hb .nil hx pa g2 (sB _ st.1) (KG st.2)) λA H Q q=>?_;show(wp X.K G.ev as E).a A H λvs W=>G.ev.sp f (vs++[]) W Q E;simp only[qJ];exact q
  exact Snd.of pe (zE pe λ_=>rfl) (λ_ _ _ z=>by cases z) rfl
 |idx a b Z J=>intro X S E ok e h nd;let#[v,i,pos,rfl,h]:=xR h;have Y:=vA h;have B:=vA Y.2;have pe:=Rq (pos:=pos) (Ym ok.un) (Z ok B.1 nd.1).pe (J ok B.2 nd.2).pe (Fc Y.1);exact Snd.of pe (zE pe λ_=>rfl) (λ_ _ _ z=>by cases z) rfl|nop=>intro X S E ok e h nd;exact(QG h).elim|lst as ih=>intro X S E ok e h nd;let#[es,pos,rfl,h]:=mN h;have pa:=(ih ok h nd).pa es pos rfl;exact#[zk pa,NM,λ_ _ _ z=>(by cases z),λ_ _ z=>UT,λ_ _ z=>trivial]|tup as ih=>intro X S E ok e h nd;let#[es,k,pos,rfl,h]:=ud h;exact Snd.lit (Ij ((ih ok h nd).pa es pos rfl)) rfl (λ_ _ _ z=>by cases z) rfl|dnew b=>intro X S E ok e h nd;let#[ks,vs,pos,rfl,h]:=DT h;have Y:=vA h;cases Qx.mp Y.1;cases Qx.mp Y.2;exact Snd.lit Rc rfl (λ_ _ _ z=>by cases z) rfl|dsp a b Z J =>
  intro X S E ok e h nd;let#[ks,vs,pos,rfl,h]:=DT h;let#[k,rfl,h]:=HB h;let#[v,rfl,h]:=HB h;have Y:=vA h;cases k with|none=>exact(QG Y.1).elim|some k=>exact Snd.lit (Pc ok.un (Z ok Y.1 nd.1).pe (J ok Y.2 nd.2).pe) rfl (λ_ _ _ z=>by cases z) rfl
 |ng i=>intro X S E ok e h nd;let#[o,x,pos,rfl,h]:=G7 h;have Y:=vA h;cases qi Y.1;let#[c,k,pos2,rfl,B]:=aE Y.2;let#[j,rfl,B]:=ma B;cases qi B;exact Snd.lit (λL s A H Q I q=>Oq (pos:=pos) (cj (X:=X)) (ta:=λ_ H Q=>Q (.int i) H) JW L s A H Q I #[i,rfl,q]) rfl (λ_ _ _ z=>by cases z) rfl|lrv a Z=>intro X S E ok e h nd;let#[p,es,ks,pos,rfl,hg,h]:=uF h;have Y:=vA h;cases Qx.mp Y.1;let#[x,rfl,h]:=HB Y.2;let#[p',es,ks,pos',rfl,hg',h]:=uF h;have B:=vA h;cases Qx.mp B.1;let#[y,rfl,h5]:=HB B.2;have M:=vA h5;refine Snd.lit (vk ok.calm (show X.env.scope.names.lookup _=jr .globalImplicit by rw[ok.sc];exact(kH hg).1) (show X.env.scope.names.lookup _=jr .globalImplicit by rw[ok.sc];exact(kH hg').1) (ok.no _ nd.1) (ok.no _ nd.2.1) (Z ok M.2 nd.2.2).pe (sB _ M.1)) rfl (λ_ _ _ z=>by cases z) rfl|anil=>intro X S E ok e h nd;let#[es,pos,rfl,h]:=mN h;cases Qx.mp h;exact Snd.args YW trivial rfl rfl|acons a as Z ih=>intro X S E ok e h nd;let#[es,pos,rfl,h]:=mN h;let#[e1,O,rfl,h]:=fL h;have Y:=vA h;have B:=vA Y.2;have P:=(Z ok B.1 nd.1).pe;have ss:=ih ok B.2 nd.2;exact Snd.args (jR P (ss.pa O pos rfl) (sB _ Y.1)) #[P,ss.pas O pos rfl] rfl rfl|bi f as ih =>
  intro X S E ok e h nd;let#[p,es,ks,pos,rfl,hg,h]:=uF h;have Y:=vA h;cases Qx.mp Y.1;let#[e1,O,rfl,M]:=fL Y.2;let#[g1,g2,g3]:=kH hg;have hg:Gl X f.nm:=show X.env.scope.names.lookup f.nm=jr .globalImplicit by rw[ok.sc];exact g1
  have pa:=(ih ok M nd.2).pa _ pos rfl;have st:=vA (cD as M);have pe:PE X (.Call (.Name f.nm p) (e1::O) [] pos) (wp X.K G.ev (.bi f as) E).e:=by
   rcases bu ok.un ok.calm f with⟨id,hb,hc⟩| ⟨T,hb,hc⟩
   exact XT (pos:=pos) (p:=p) hc hg (ok.no _ nd.1) hb pa g3 g2 (sB _ st.1) (KG st.2);exact G1 (pos:=pos) (p:=p) hc hg (ok.no _ nd.1) hb pa g3 g2 (sB _ st.1) (KG st.2)
  exact Snd.of pe (zE pe λ_=>rfl) (λ_ _ _ z=>by cases z) rfl
 |mt m o as iho ih =>
  intro X S E ok e h nd;let#[v,ap,es,pos,rfl,B,h]:=lZ h;have h0:=vA h;have Y:=vA h0.2;have M:=vA Y.2;have h4:=vA M.2;have po:=(iho ok h4.1 nd.1).pe;have pa:=(ih ok h4.2 nd.2).pa _ pos rfl;have st:=cD as h4.2;let#[id,pat,sl,ty,mr]:=Gr (X:=X) ok.un m;have pe:PE X (.Call (.Attribute v m.nm ap) es [] pos) (wp X.K G.ev (.mt m o as) E).e:=by
   cases es with
   |nil =>
    refine AG (ck (apos:=ap) (cpos:=pos) pat sl ty mr po (n8 Y.1) B) λA H Q q=>?_;have e:(λ(x:V) (W:Hp)=>M4 X.K m.ty x W/\ge X.K m x [] W Q)=λ(x:V) (W:Hp)=>M4 X.K m.ty x W/\(wp X.K G.ev as E).a A W λvs H2=>ge X.K m x vs H2 Q:=by funext x W;rw[ir (iV as h0.1 h4.2)]
    show(wp X.K G.ev o E).e A H (λ(x:V) (W:Hp)=>M4 X.K m.ty x W/\ge X.K m x [] W Q);rw[e];exact q
   |cons e1 O=>have s2:=vA st;refine Sq (apos:=ap) (cpos:=pos) pat sl ty mr po pa (n8 Y.1) ?_ B (sB _ s2.1) (KG s2.2);rw[YV st];have hl':(e1::O).9<20:=ii M.1;show(kf&&kf&&decide ((e1::O).9+0+0<30))=kf;rw[dT (Qp hl' (by decide:20<=30):(e1::O).9+0+0<30)];rfl
  exact Snd.of pe (zE pe λ_=>rfl) (λ_ _ _ z=>by cases z) rfl
 |slc a lo hi Z ihl ihh =>
  intro X S E ok e h nd;let#[v,sl,pos,rfl,h]:=xR h;let#[l,u,st,p2,rfl,h]:=O1 h;have Y:=vA h;have B:=vA Y.2;have M:=vA B.2;have part:∀(q:PX) (w:Option Expr),(∀{e:Expr},IB q S e=kf->PE X e (wp X.K G.ev q E).e)->ur w (isNop q) (λe=>!isNop q&&IB q S e)=kf ->
    PO X w (λA H R=>(if isNop q=kf then λ(R:Option Int->Hp->Prop)=>R kv H else λR=>(wp X.K G.ev q E).e A H λl H2=>bN l H2 R) R):=by
   intro q w ihq hq;cases w with
   |none=>have e:isNop q=true:=hq;simp only[e,if_true];exact Dc|some e' =>
    have q1:=vA hq;have e:isNop q=false:=(Q4 _).mp q1.1;simp only[e,Qu,if_false];intro L s A H Q I w;refine Cc (ihq q1.2) L s A H Q I ?_;show(wp X.K G.ev q E).e A H (λ(x:V) (W:Hp)=>∃i,x=.int i/\Q (jr i) W);have e2:(λ(x:V) (W:Hp)=>∃i,x=.int i/\Q (jr i) W)=λ(x:V) (W:Hp)=>bN x W Q:=by funext x W;exact(K7 x W Q).symm
    rw[e2];exact w
  cases QAh.mp Y.1;exact Snd.lit (m7 (pos:=pos) (p2:=p2) Zj (Z ok B.1 nd.1).pe (part lo l (λhc=>(ihl ok hc nd.2.1).pe) M.1) (part hi u (λhc=>(ihh ok hc nd.2.2).pe) M.2)) rfl (λ_ _ _ z=>by cases z) rfl
 |comp mask tgs tg d its cond elt ihi ihc ihe =>
  intro X S E ok e h nd;let#[e,gens,scope,pos,rfl,h]:=XW h;let#[#[t,n,ifs,asy],rfl,h]:=HB h;have h0:=vA h;have hi:=vA h0.2;have Y:=vA hi.2;have B:=vA Y.2;have M:=vA B.2;have h4:=vA M.2;have h5:=vA h4.2;have ea:asy=0:=qi h0.1;cases ea;have C:CompSt X.N X.env.scope scope tgs mask:=by rw[ok.N,ok.sc];exact IU Y.1
  let#[n1,n2,n3,n4]:=nd;have pi:PI X t n (SS λA H R=>(wp X.K G.ev its E).a A H λvs W=>dC X.K d vs W R):=iW ok h4.1 n1 ((Q4 _).mp hi.1) λes p q=>ihi ok q n2;refine Snd.lit (Sc (pos:=pos) (g:=lG X.K tg) (tc:=if isNop cond=kf then λ_ H Q=>Q kf H else(wp X.K G.ev cond (λ_ _ _=>False)).t) (te:=(wp X.K G.ev elt (λ_ _ _=>False)).e) ok.calm pi C (λs H ex=>?_) (λx=>NW M.1 x)) rfl (λ_ _ _ z=>by cases z) rfl;have okc:=ok.comp scope tgs mask s H ex;refine#[d7 okc (λz=>(QG z).elim) C.nd B.1,?_,(ihe okc h5.2 n4).pe];have hif:=h5.1;cases ifs with|nil=>have e:isNop cond=true:=hif;simp only[e,if_true];exact EY|cons c r=>have q1:=vA hif;have q2:=vA q1.2;cases Qx.mp q1.1;have e:isNop cond=false:=(Q4 _).mp q2.1;simp only[e,Qu,if_false];exact AY (ihc okc q2.2 n3).pt
end
end L2.L3
namespace L2.L3
open PySem PySem.Spec PyProof.Rows
section
variable{s:gl}{f:Expr->List gl->List gl->Bool}
set_option genSizeOf false in
set_option genInjectivity false in
inductive PT where
 |nil|seq (s r:PT)
 |set (i:Nat) (e:PX)
 |expr (e:PX)|ret (e:PX)
 |ife (c:PX) (a b:PT)
 |for_ (tg:Tg) (ik:ItK) (its:PX) (body:PT)
 |own (i:Nat) (e:PX)|six (o i e:PX)|sdf (i:Nat) (k:PX)|whl (c:PX) (body:PT)|frz (is:LN) (s:PT)
def rT(K:QA):V->V->V->Hp->(Hp->Prop)->Prop:=λo i v H Q=>match o,i with
 | .ref p,.int k=>∃h j,H p=jr (.lst h)/\HS h.9 k=jr j/\Q (CA H p (.lst (h.set j v)))|.ref p,.str z=>Co K H p (.str z) v Q|.ref p,.ref b=>Co K H p (.ref b) v Q|_,_=>False
noncomputable def Zq(i:Nat)(k:PX):PX:=.mt .setd (.var i) %[k,.dnew kf|1]
def Ox(J:It)(g:TG)(tb:TS)(D:Ends)(σ:St)(w:Hp):Prop:=∃W:Nat->Nat->St->Hp->Prop,(∃m,W 0 m σ w)/\∀i m σ H,W i m σ H ->
 (J.stop i H/\D.nx σ H)∨(J.go i H/\∃N:St->Hp->Prop,(∀h y,N h y->∃u,u < m/\W (i+1) u h y)/\∀x y,J.yld i H x y->g x σ y λz v=>tb { D with nx:=N,ct:=N,bk:=D.nx } z v)
def Vo(K:QA)(xs:List Item)(st:Hp->Prop)(h:Tg)(tb:TS)(D:Ends)(σ:St)(H:Hp):Prop:=∀J,Yields J xs st->Ox J (lG K h) tb D σ H
def OS(K:QA)(Γ:Ev)(E:XK):PT->TS
 | .nil=>λD h H=>D.nx h H|.seq s r=>λD h H=>OS K Γ E s { D with nx:=λh H=>OS K Γ E r D h H } h H|.set i e=>λD h H=>(wp K Γ e E).e h H λx y=>D.nx (h.set i (jr x)) y|.own i e=>λD h H=>(wp K Γ e E).e h H λx y=>D.nx (h.set i (jr x)) y|.expr e=>λD h H=>(wp K Γ e E).e h H λ_ y=>D.nx h y|.ret e=>λD h H=>(wp K Γ e E).e h H D.rt|.ife c a b=>λD h H=>(wp K Γ c E).t h H λk y=>if k=kf then OS K Γ E a D h y else OS K Γ E b D h y|.for_ l p u z=>λD h H=>(wp K Γ u E).a h H λj y=>dC K p j y λg st w=>Vo K g st l (OS K Γ E z) D h w|.six o i e=>λD h H=>(wp K Γ e E).e h H λv y=>(wp K Γ o E).e h y λm w=>(wp K Γ i E).e h w λn X=>rT K m n v X λq=>D.nx h q|.sdf i k=>λD h H=>(wp K Γ (Zq i k) E).e h H λ_ y=>D.nx h y|.whl c z=>T5 (wp K Γ c E).t (OS K Γ E z)|.frz _ s=>OS K Γ E s
def IE(G:Glob):PT->Prop
 | .nil=>True|.seq s r=>IE G s/\IE G r|.set _ e=>gB G e|.own _ e=>gB G e|.six o i e=>gB G o/\gB G i/\gB G e|.sdf i k=>gB G (Zq i k)|.whl c h=>gB G c/\IE G h|.frz _ s=>IE G s|.expr e=>gB G e|.ret e=>gB G e|.ife c a b=>gB G c/\IE G a/\IE G b|.for_ _ y x h=>Ps G y/\gB G x/\IE G h
noncomputable def PH:Expr->Bool
 | .ListComp _ _ _ _ | .SetComp _ _ _ _ | .DictComp _ _ _ _ _=>kd
 |_=>kf
noncomputable def tQ(S:SC)(i:Nat)(x:Str):Bool:=S.N[i]?==jr x&&(S.sc.names.lookup x==jr .local||S.sc.names.lookup x==jr .cell)
noncomputable def iZ:PT->Bool
 | .nil=>kd|.seq _ _=>kd|.frz _ s=>iZ s|_=>kf
noncomputable def vZ(s:gl)(f:List Expr->Expr->Bool):Bool:=match s with | .Assign h v _=>f h v|_=>kd
noncomputable def Uk(s:gl)(f:Expr->Bool):Bool:=match s with | .Expr v _=>f v|_=>kd
noncomputable def Xg(s:gl)(f:Option Expr->Bool):Bool:=match s with | .Return v _=>f v|_=>kd
noncomputable def Ug(s:gl)(f:Expr->List gl->List gl->Bool):Bool:=match s with | .If t x y _=>f t x y|_=>kd
noncomputable def Bg(s:gl)(f:Expr->Expr->List gl->List gl->Pos->Bool):Bool:=match s with | .For t it x y p=>f t it x y p|_=>kd
noncomputable def vr(s:gl)(f:Expr->List gl->List gl->Bool):Bool:=match s with | .While t x y _=>f t x y|_=>kd
theorem bR{f:List Expr->Expr->Bool}(h:vZ s f=kf):∃ts v p,s=.Assign ts v p/\f ts v=true:=by
 cases s with|Assign ts v p=>exact#[ts,v,p,rfl,h]|_=>exact(QG h).elim
theorem L7{f:Expr->Bool}(h:Uk s f=kf):∃v p,s=.Expr v p/\f v=true:=by
 cases s with|Expr v p=>exact#[v,p,rfl,h]|_=>exact(QG h).elim
theorem sd{f:Option Expr->Bool}(h:Xg s f=kf):∃v p,s=.Return v p/\f v=true:=by
 cases s with|Return v p=>exact#[v,p,rfl,h]|_=>exact(QG h).elim
theorem td(h:Ug s f=kf):∃t x y p,s=.If t x y p/\f t x y=true:=by
 cases s with|If t x y p=>exact#[t,x,y,p,rfl,h]|_=>exact(QG h).elim
theorem Jd{f:Expr->Expr->List gl->List gl->Pos->Bool}(h:Bg s f=kf):∃t it x y p,s=.For t it x y p/\f t it x y p=true:=by
 cases s with|For t it x y p=>exact#[t,it,x,y,p,rfl,h]|_=>exact(QG h).elim
theorem Zk(h:vr s f=kf):∃t x y p,s=.While t x y p/\f t x y=true:=by
 cases s with|While t x y p=>exact#[t,x,y,p,rfl,h]|_=>exact(QG h).elim
def setB(S:SC)(i:Nat)(c:Expr->Bool)(l:List gl):Bool:=nN l λst=>vZ st λh v=>nN h λt=>bK t λx _=>tQ S i x&&((PH v||S.sc.names.lookup x==jr .cell)&&c v)
def zh:PX->Bool
 | .comp _ _ _ _ _ _ _=>kf|_=>kd
def DY(S:SC)(i:Nat)(e:PX)(l:List gl):Bool:=nN l λst=>vZ st λy v=>nN y λt=>bK t λx z=>Vk v λw u sc h=>El S i x&&(S.sc.kind==.function&&(z.line==h.line&&(!(sc.names.any λ(n,k)=>n==x&&(k==.local||k==.cell))&&(zh e&&IB e S (.ListComp w u sc h)))))
def vS:PT->SC->List gl->Bool
 | .nil,_,l=>l.isEmpty|.seq s r,S,l=>Zd l λst l=>iZ s&&(vS s S [st]&&vS r S l)|.set i e,S,l=>setB S i (IB e S) l||DY S i e l
 | .own i e,S,l=>setB S i (IB e S) l||DY S i e l
 | .frz _ s,S,l=>vS s S l|.expr e,S,l=>nN l λst=>Uk st λv=>PH v&&IB e S v|.ret e,S,l=>nN l λst=>Xg st λv=>ur v kd (IB e S)|.ife c a b,S,l=>nN l λst=>Ug st λt x y=>IB c S t&&(vS a S x&&vS b S y)|.for_ tg ik its body,S,l=>nN l λst=>Bg st λt it x y h=>y.isEmpty&&(kw kf S tg t&&(AT it&&(Zv (xF its) S ik (λg p=>IB its S (.List g p)) t it h&&vS body S x)))|.six o i e,S,l=>nN l λst=>vZ st λu v=>nN u λt=>zZ t λw z _=>rR z&&(PH v&&(IB e S v&&(IB o S w&&IB i S z)))|.sdf i k,S,l=>nN l λst=>Uk st λv=>PH v&&IB (Zq i k) S v|.whl c body,S,l=>nN l λst=>vr st λt x y=>y.isEmpty&&(IB c S t&&vS body S x)
structure OkS(X:Cx)(S:SC)(G:Glob)(E:XK):Prop extends OkX X S G E where
 po:p7 (k0 X.prog X.w) X.A X.env X.xe
 nd:X.N.Nodup
 cel:∀x,X.fn x=kf
end
section
variable{X:Cx}{S:SC}{G:Glob}{E:XK}
section
variable{i:Nat}{x:Str}{e:PX}
theorem nR{e:Expr}{t:Option Expr}{n:Nat}{env:Env}(h:PH e=kf):lb e t n env=tv false:=by cases e<;>first|rfl|cases h
theorem X6(n:X.A.units+66<gp):Hf X (rT X.K):=by
 intro y s w H o i v l m u Q I f g a h;cases o with
 |ref p =>
  cases i with|int k=>let#[r,j,Z,Y,q]:=h;exact U6 y s w H _ _ v l m u Q I f g a #[p,r,k,j,rfl,rfl,Z,Y,q]|str z=>exact pT n y s w H _ _ v l m u Q I f g a h|ref b=>exact pT n y s w H _ _ v l m u Q I f g a h|_=>exact Qd h
 |_=>exact Qd h
theorem O0(ok:OkX X S G E)(h:tQ S i x=kf):X.N[i]?=jr x/\Io X.env.scope x:=by simp only[tQ,Qb,Wa,beq_iff_eq]at h;rw[ok.N,ok.sc];exact#[h.1,h.2]
theorem C1(ok:OkS X S G E){v:Expr}{u pos:Pos}(g:tQ S i x=kf)(w:(PH v||S.sc.names.lookup x==jr .cell)=kf)(pe:PE X v (wp X.K G.ev e E).e) :
  PS X (.Assign [.Name x u] v pos) (OS X.K G.ev E (.set i e)):=by
 let#[l,j]:=O0 ok.toOkX g;refine Hj (pos':=u) ok.nd l j pe ?_ (.inl (ok.cel x));cases z:PH v with
 |true=>exact nR z|false =>
  rw[z,QAs,beq_iff_eq,<- ok.sc]at w;have hk:X.env.kindOf x=jr .cell:=w;have key:∀(b c:Bool) (y h:Nat),(tv (b&&X.env.kindOf x==jr .local&&y==h&&!c):Sem Bool)=tv false:=λb c y h=>by
   rw[hk];have:(b&&(jr NameKind.cell==jr NameKind.local)&&y==h&&!c)=false:=by cases b<;>rfl
   rw[this]
  cases v with|ListComp m a sc f=>exact key _ _ _ _|SetComp m a sc f=>exact key _ _ _ _|DictComp k v a sc f=>exact key _ _ _ _|_=>cases z
theorem De(h:zh e=kf):∃a b c d f g k,e=.comp a b c d f g k:=by
 cases e with|comp a b c d f g k=>exact#[a,b,c,d,f,g,k,rfl]|_=>exact(QG h).elim
theorem Mj(ok:OkS X S G E){l:List gl}(h:DY S i e l=kf)(nd:gB G e):∃st,l=[st]/\PS X st (OS X.K G.ev E (.set i e)):=by
 let#[st,e1,q1]:=HB h;let#[ts,v,p,e2,q2]:=bR q1;let#[t,e3,q3]:=HB q2;let#[x,px,e4,q4]:=IF q3;let#[el,gs,sc,cp,e5,q5]:=XW q4;subst e1 e2 e3 e4 e5;have L:=vA q5;have J:=vA L.2;have I:=vA J.2;have F:=vA I.2;have B:=vA F.2;let#[u,a,tg,ik,o,y,j,rfl]:=De B.1;refine#[_,rfl,?_];have h6:=B.2;let#[el',O,m,pos,ee,g]:=XW h6;cases ee;let#[#[t,it,Y,Z],rfl,g]:=HB g;have g0:=vA g;have M:=vA g0.2;have g1:=vA M.2;have g2:=vA g1.2;have g3:=vA g2.2;have R:=vA g3.2;have P:=vA R.2;have ea:Z=0:=qi g0.1;cases ea;have C:CompSt X.N X.env.scope sc a u:=by rw[ok.N,ok.sc];exact IU g1.1
 let#[n1,n2,n3,n4]:=nd;let#[l1,l2]:=Ye L.1;have b:X.env.scope.names.lookup x=jr .local:=by rw[ok.sc];exact l2
 refine Bc (g:=lG X.K tg) (tc:=if isNop y=kf then λ_ H Q=>Q kf H else(wp X.K G.ev y (λ_ _ _=>False)).t) (te:=(wp X.K G.ev j (λ_ _ _=>False)).e) ok.calm ok.nd (by rw[ok.N];exact l1) b (iW ok.toOkX (pos:=cp) R.1 n1 ((Q4 _).mp M.1) λes p q=>snd o ok.toOkX q n2) C (λs H ex=>?_) (λx=>NW g3.1 x) ?_;have w:=ok.toOkX.comp sc a u s H ex;refine#[d7 w (λz=>(QG z).elim) C.nd g2.1,?_,(snd j w P.2 n4).pe];have f:=P.1;cases Y with|nil=>have e:isNop y=true:=f;simp only[e,if_true];exact EY|cons c r=>have A:=vA f;have W:=vA A.2;cases Qx.mp A.1;have e:isNop y=false:=(Q4 _).mp W.1;simp only[e,Qu,if_false];exact AY (snd y w W.2 n3).pt
 have k1:X.env.scope.kind=.function:=by rw[ok.sc];exact qi J.1
 have k2:(X.env.blockKind==.function)=true:=by simp[Env.blockKind,k1,ScopeKind.isAnnotationScope]
 have k3:(X.env.kindOf x==jr .local)=true:=by show(X.env.scope.names.lookup x==jr .local)=kf;rw[b];rfl
 show(tv (X.env.blockKind==.function&&X.env.kindOf x==jr .local&&px.line==cp.line&&!(sc.names.any λ(n,k)=>n==x&&(k==.local||k==.cell))):Sem Bool)=tv kf;rw[k2,k3,I.1,F.1];rfl
theorem Jw:∀(p:PT) {l:List gl},OkS X S G E->vS p S l=kf->IE G p->nY X l (OS X.K G.ev E p)/\(iZ p=kf->∀st,l=[st]->PS X st (OS X.K G.ev E p)):=by
 intro p;have one:∀{p:PT}{st:gl},PS X st (OS X.K G.ev E p)->nY X [st] (OS X.K G.ev E p)/\(iZ p=kf->∀g,[st]=[g]->PS X g (OS X.K G.ev E p)):=λh=>#[RY h,λ_ g e=>by cases e;exact h]
 have f:∀{i:Nat}{e:PX}{l:List gl},OkS X S G E->(setB S i (IB e S) l||DY S i e l)=kf->gB G e->∃st,l=[st]/\PS X st (OS X.K G.ev E (.set i e)):=λ{i e l} ok h nd=>by
  rcases(Wa _ _).mp h with h|h
  rotate_left
  exact Mj ok h nd;let#[st,N,W]:=HB h;let#[H,v,p,M,Z]:=bR W;let#[t,L,q3]:=HB Z;let#[x,px,J,Y]:=IF q3;subst N M L J;have z:=vA Y;have u:=vA z.2;exact#[_,rfl,C1 ok z.1 u.1 (snd e ok.toOkX u.2 nd).pe]
 induction p with
 |nil=>intro l ok h nd;cases Qx.mp h;exact#[Uc,λh=>(QG h).elim]|seq s r B C=>intro l ok h nd;let#[st,l,rfl,h]:=fL h;have z:=vA h;have u:=vA z.2;exact#[z7 ((B ok u.1 nd.1).2 z.1 st rfl) (C ok u.2 nd.2).1,λh=>(QG h).elim]|set i e=>intro l ok h nd;let#[st,rfl,q]:=f ok h nd;exact one q|own i e=>intro l ok h nd;let#[st,rfl,q]:=f ok h nd;exact one q|expr e=>intro l ok h nd;let#[st,rfl,h]:=HB h;let#[v,p,rfl,h]:=L7 h;have z:=vA h;exact one (TY (snd e ok.toOkX z.2 nd).pe (nR z.1))|ret e =>
  intro l ok h nd;let#[st,rfl,h]:=HB h;let#[v,p,rfl,h]:=sd h;cases v with|none=>exact(QG h).elim|some v=>exact one (v7 (snd e ok.toOkX h nd).pe)
 |ife c a b I F=>intro l ok h nd;let#[st,rfl,h]:=HB h;let#[t,x,y,p,rfl,h]:=td h;have z:=vA h;have u:=vA z.2;exact one (Nq (snd c ok.toOkX z.1 nd.1).pt (I ok u.1 nd.2.1).1 (F ok u.2 nd.2.2).1)|for_ tg ik A n j=>intro l ok h nd;let#[st,rfl,h]:=HB h;let#[t,it,x,y,p,rfl,h]:=Jd h;have R:=vA h;have z:=vA R.2;have u:=vA z.2;have m:=vA u.2;cases Qx.mp R.1;exact one (Lj ok.po ok.calm (Lc ok.toOkX m.1 nd.1 λes p q=>snd A ok.toOkX q nd.2.1) (d7 ok.toOkX (λ_=>ok.cel) ok.nd z.1) (j ok m.2 nd.2.2).1 λx=>NW u.1 x)|six o i e =>
  intro l ok h nd;let#[st,N,W]:=HB h;let#[H,v,p,M,Z]:=bR W;let#[t,L,h]:=HB Z;subst N M L;let#[ov,P,O,J,Y]:=xR h;subst J;have z:=vA Y;have u:=vA z.2;have m:=vA u.2;have Q:=vA m.2;refine one (Nj (snd e ok.toOkX m.1 nd.2.2).pe (Aj (pos:=O) (snd o ok.toOkX Q.1 nd.1).pe (snd i ok.toOkX Q.2 nd.2.1).pe (X6 ok.un) ?_) ?_ ?_ ?_);intro w;cases P<;>first|rfl|exact(QG z.1).elim
  show lb v (jr (.Subscript ov P O)) p.line X.env=tv kd;exact nR u.1;cases v<;>rfl;rfl
 |sdf i k=>intro l ok h nd;let#[st,rfl,h]:=HB h;let#[v,p,rfl,h]:=L7 h;have z:=vA h;exact one (TY (snd (Zq i k) ok.toOkX z.2 nd).pe (nR z.1))|whl c n j=>intro l ok h nd;let#[st,rfl,h]:=HB h;let#[t,x,y,p,rfl,h]:=Zk h;have z:=vA h;have u:=vA z.2;cases Qx.mp z.1;exact one (k7 ok.po (snd c ok.toOkX u.1 nd.1).pt (j ok u.2 nd.2).1)|frz is s j=>intro l ok h nd;exact j ok h nd
end
end
noncomputable abbrev D:=y1
set_option genInjectivity true in
inductive T where
 |d (x:D)|lst (ts:List T)|tup (ts:List T)|dct (b:Bool) (ks:List D) (ts:List T)
abbrev LT:=List T
mutual
def T.er:T->D
 | .d x=>x|.lst h=>.list (ersT h)|.tup h=>.tuple (ersT h)|.dct _ y h=>.dict (y.zip (ersT h))
def ersT:LT->List D
 |[]=>[]|t::r=>t.er::ersT r
end
theorem vB(ds:List D):ersT (ds.map T.d)=ds:=by
 induction ds with|nil=>rfl|cons d r h=>simp only[QX,ersT,h,T.er]
theorem F9:∀(ts:LT),(ersT ts).9=ts.9
 |[]=>rfl|t::r=>by simp only[ersT,QM,F9 r]
theorem rJ:∀(ts:LT),ersT ts=ts.map T.er
 |[]=>rfl|t::r=>by simp only[ersT,QX,rJ r]
def T.isD:T->Bool
 | .d _=>kf|_=>kd
set_option genInjectivity true in
inductive Sl where
 |own (t:T)|bor (t:T)
noncomputable abbrev xA:=List (Option Sl)
abbrev bD(x:D):Option Sl:=jr (.bor (.d x))
abbrev oW(t:T):Option Sl:=jr (.own t)
def KH(t:T)(n:Bool):Bool:=n||t.isD
def nA(t:T):Bool->T
 |true=>.d t.er|false=>t
theorem rA(x:D)(n:Bool):nA (.d x) n=.d x:=by cases n<;>rfl
theorem UZ(t:T)(n:Bool):(nA t n).er=t.er:=by cases n<;>rfl
noncomputable def HG:LT->Option (List D)
 |[]=>jr []|.d x::r=>(HG r).map (x::·)|_::_=>kv
theorem KA(ds:List D):HG (ds.map T.d)=jr ds:=by
 induction ds with|nil=>rfl|cons d r h=>simp only[QX,HG,h,Q1]
theorem tM:∀{ts:LT}{ds:List D},HG ts=jr ds->ts=ds.map T.d
 |[],ds,h=>by simp only[HG,Qr]at h;subst h;rfl|.d x::r,ds,h=>by
  simp only[HG]at h;cases e:HG r with|none=>rw[e]at h;cases h|some y=>rw[e]at h;cases h;rw[QX,tM e]
 | .lst _::_,_,h=>by simp[HG]at h|.tup _::_,_,h=>by simp[HG]at h|.dct _ _ _::_,_,h=>by simp[HG]at h
noncomputable def OC:List (D×D)->Option Bool
 | (.tuple _,_)::_=>jr kf|(.str _,_)::_=>jr kd|_=>kv
def aD:Bool->D->Prop
 |true,k=>∃q,k=tD (.t q)/\t8 (.t q)<=6|false,k=>∃z,k=.str z
open Classical in
noncomputable def cA:List D->D->Option Nat
 |[],_=>kv|x::r,k=>if x=k then jr 0 else(cA r k).map (·+1)
def xK(b:Bool)(ks:List D)(ts:LT)(k:D)(t:T):T:=match cA ks k with
 |some n=>.dct b ks (ts.set n t)|none=>.dct b (ks++[k]) (ts++[t])
theorem BC:∀{ks:List D}{k:D}{n:Nat},cA ks k=jr n->ks[n]?=jr k
 |[],_,_,h=>by cases h|x::r,k,n,h=>by
  unfold cA at h;by_cases e:x=k;rw[a9 e]at h;cases h;rw[e];rfl;rw[a8 e]at h;cases q:cA r k with|none=>rw[q]at h;cases h|some m=>rw[q]at h;cases h;simpa using BC q
theorem kB:∀{ks:List D}{k:D},cA ks k=kv↔k∉ks
 |[],_=>by simp[cA]|x::r,k=>by unfold cA;by_cases e:x=k;simp[e];rw[a8 e,Option.map_eq_none_iff,kB];simp[Q7 e]
theorem iX{ks:List D}{k:D}:(cA ks k).isSome=kf↔k∈ks:=by
 cases h:cA ks k with|none=>simp[kB.mp h]|some n=>simp[qN (BC h)]
set_option genInjectivity true in
inductive Vw where
 |sc (x:D)|ls (ts:LT)|tp (ts:LT)|dc (b:Bool) (ks:List D) (ts:LT)
def zC(kvs:List (D×D)):Vw:=match OC kvs with
 |some b=>.dc b (kvs.map (·.1)) (kvs.map λp=>T.d p.2)|none=>.sc (.dict kvs)
def T.vw:T->Vw
 | .lst h=>.ls h|.tup h=>.tp h|.dct b u h=>.dc b u h|.d x=>match x with
  | .list z=>.ls (z.map T.d)|.tuple z=>.tp (z.map T.d)|.dict y=>zC y|.none=>.sc .none|.bool b=>.sc (.bool b)|.int i=>.sc (.int i)|.str s=>.sc (.str s)
def pD(ts:LT):T:=match HG ts with
 |some h=>.d (.tuple h)|none=>.tup ts
noncomputable abbrev XD:=kb×List (Str×D)
noncomputable abbrev XE:=XD->Prop
noncomputable abbrev TK:=T->Bool->xA->Prop
inductive Md where
 |fro|shal|bor|chg
 deriving DecidableEq
structure PSp where
 md:List Md:=[]
 run:LT->(T->LT->Prop)->XE->Prop
 mono:∀{ts:LT}{Q Q':T->LT->Prop}{E E':XE},(∀t os,Q t os->Q' t os)->(∀x,E x->E' x)->run ts Q E->run ts Q' E':=by intro _ _ _ _ _ h _ z;(repeat let#[y,z]:=z;refine#[y,?_]);first|exact h _ _ z|(intros;apply h;apply z<;>assumption)
structure PEv where
 sp:Str->PSp
 va:Str->Option D
def binT(w:hZ)(x y:Vw)(Q:T->Bool->Prop):Prop:=match w with
 | .Add=>(∃i j,x=.sc (.int i)/\y=.sc (.int j)/\Q (.d (.int (i+j))) kd)∨(∃a b,x=.sc (.str a)/\y=.sc (.str b)/\a.9+b.9<=kn/\Q (.d (.str (a++b))) kd) ∨
  (∃v u z h,x=.ls v/\y=.ls u/\HG v=jr z/\HG u=jr h/\z.9+h.9<=kn/\Q (.lst ((z++h).map T.d)) kf)
 | .Sub=>∃i j,x=.sc (.int i)/\y=.sc (.int j)/\Q (.d (.int (i - j))) kd|.Mult=>∃i j,x=.sc (.int i)/\y=.sc (.int j)/\l0 i j/\Q (.d (.int (i * j))) kd|.FloorDiv=>∃i j,x=.sc (.int i)/\y=.sc (.int j)/\(0<j/\j<2 ^ 200)/\Q (.d (.int (i / j))) kd|.Mod=>∃i j,x=.sc (.int i)/\y=.sc (.int j)/\0<j/\Q (.d (.int (i % j))) kd|_=>False
section
variable{Q:T->Bool->Prop}
theorem Pn(i j:Int):binT .Add (.sc (.int i)) (.sc (.int j)) Q=Q (.d (.int (i+j))) false:=by simp[binT]
theorem On(a b:Str):binT .Add (.sc (.str a)) (.sc (.str b)) Q=(a.9+b.9<=kn/\Q (.d (.str (a++b))) kd):=by simp[binT]
theorem Nn(i j:Int):binT .Sub (.sc (.int i)) (.sc (.int j)) Q=Q (.d (.int (i - j))) false:=by simp[binT]
theorem Mn(i j:Int):binT .Mult (.sc (.int i)) (.sc (.int j)) Q=(l0 i j/\Q (.d (.int (i * j))) kd):=by simp[binT]
theorem Ln(i j:Int):binT .FloorDiv (.sc (.int i)) (.sc (.int j)) Q=((0<j/\j<2 ^ 200)/\Q (.d (.int (i / j))) kd):=by simp[binT]
theorem Hn(i j:Int):binT .Mod (.sc (.int i)) (.sc (.int j)) Q=(0<j/\Q (.d (.int (i % j))) kd):=by simp[binT]
end
section
variable{Q:T->Prop}
def Bv:D->D->(Bool->Prop)->Prop
 | .int i,.int j,Q=>Q (decide (i=j))|.str x,.str y,Q=>Q (decide (x=y))|.bool x,.bool y,Q=>Q (decide (x=y))|a,b,Q=>HE a/\HE b/\Q (Qt a b)
noncomputable def aB:D->Bool
 | .none | .bool _ | .int _ | .str _=>kf
 |_=>kd
def Kv:D->D->(Bool->Prop)->Prop
 | .str x,.str y,Q=>Q (inStr y x)|a,.list ds,Q|a,.tuple ds,Q=>((aB a=kf/\ds.all aB=kf)∨(HE a/\HE (.list ds)))/\Q (ds.any λy=>Qt y a)
 |a,.dict kvs,Q=>∃b,(OC kvs=jr b∨kvs=[])/\aD b a/\Q (cA (kvs.map (·.1)) a).isSome|_,_,_=>False
def L1(f:Int->Int->Bool):D->D->(Bool->Prop)->Prop
 | .int i,.int j,Q=>Q (f i j)|_,_,_=>False
def g9:D->Bool
 | .none=>kf|_=>kd
def N3:D->D->(Bool->Prop)->Prop
 |a,.none,Q=>Q (g9 a)|.bool a,.bool b,Q=>Q (decide (a=b))|_,_,_=>False
def GX:dy->D->D->(Bool->Prop)->Prop
 | .Eq,a,b,Q=>Bv a b Q|.NotEq,a,b,Q=>Bv a b λk=>Q (!k)|.Lt,a,b,Q=>L1 (λi j=>decide (i<j)) a b Q|.LtE,a,b,Q=>L1 (λi j=>decide (i<=j)) a b Q|.Gt,a,b,Q=>L1 (λi j=>decide (j<i)) a b Q|.GtE,a,b,Q=>L1 (λi j=>decide (j<=i)) a b Q|.In,a,b,Q=>Kv a b Q|.NotIn,a,b,Q=>Kv a b λk=>Q (!k)|.Is,a,b,Q=>N3 a b Q|.IsNot,a,b,Q=>N3 a b λk=>Q (!k)
def uf(h:dy)(x:D)(y:T)(Q:Bool->Prop):Prop:=match y with
 | .dct b u _=>aD b x/\((h=.In/\Q (cA u x).isSome)∨(h=.NotIn/\Q (!(cA u x).isSome)))|.d y=>GX h x y Q|.lst z=>GX h x (.list (ersT z)) Q|.tup z=>GX h x (.tuple (ersT z)) Q
def sI:D->(Bool->Prop)->Prop
 | .bool b,Q=>Q b|.int i,Q=>Q (i != 0)|.none,Q=>Q kd|.str z,Q=>z.9<=kn/\Q ((z.9:Int) != 0)|.list ds,Q=>Q (!ds.isEmpty)|.tuple ds,Q=>Q (!ds.isEmpty)|_,_=>False
def An:D->(Bool->Prop)->Prop
 | .bool b,Q=>Q b|_,_=>False
def yS(x:Vw)(k:D)(Q:T->Prop):Prop:=∃b y h n t,x=.dc b y h/\aD b k/\cA y k=jr n/\h[n]?=jr t/\Q t
def BN(x y:Vw)(Q:T->Prop):Prop:=(∃z i c,x=.sc (.str z)/\y=.sc (.int i)/\z.9<=kn/\uD z.cps.toList i=jr c/\Q (.d (.str #[(qG [c])]))) ∨
 (∃h i t,x=.ls h/\y=.sc (.int i)/\uD h i=jr t/\Q t)∨(∃h i t,x=.tp h/\y=.sc (.int i)/\uD h i=jr t/\Q t)
theorem Vm(z:Str)(i:Int):BN (.sc (.str z)) (.sc (.int i)) Q=(z.9<=kn/\∃c,uD z.cps.toList i=jr c/\Q (.d (.str #[(qG [c])]))):=by simp[BN]
theorem p9(ts:LT)(i:Int):BN (.ls ts) (.sc (.int i)) Q=∃t,uD ts i=jr t/\Q t:=by simp[BN]
theorem Km(ts:LT)(i:Int):BN (.tp ts) (.sc (.int i)) Q=∃t,uD ts i=jr t/\Q t:=by simp[BN]
noncomputable def eJ{α:Type}(xs:List α)(h x:Option Int):List α:=(xs.drop (HT.sIx xs.9 0 h)).take (HT.sIx xs.9 xs.9 x - HT.sIx xs.9 0 h)
def kK(x:Vw)(y u:Option Int)(Q:T->Bool->Prop):Prop:=(∃z,x=.sc (.str z)/\z.9<=kn/\Q (.d (.str (w6 z y u))) kd)∨(∃h v,x=.ls h/\HG h=jr v/\Q (.lst ((eJ v y u).map T.d)) kf)
end
section
variable{Q:T->Bool->Prop}{h x:Option Int}
theorem Yj(z:Str):kK (.sc (.str z)) h x Q=(z.9<=kn/\Q (.d (.str (w6 z h x))) kd):=by simp[kK]
theorem J6(ts:LT):kK (.ls ts) h x Q=∃ds,HG ts=jr ds/\Q (.lst ((eJ ds h x).map T.d)) true:=by simp[kK]
end
def EF:D->(Option Int->Prop)->Prop
 | .int i,Q=>Q (jr i)|_,_=>False
def NC(l:LS):D:=.list (l.map j0)
def uY(f:Bi)(vs:List Vw)(Q:T->Bool->Prop):Prop:=match f with
 | .len=>(∃z,vs=[.sc (.str z)]/\z.9<=kn/\Q (.d (.int z.9)) kd)∨(∃h,vs=[.ls h]/\Q (.d (.int h.9)) kd)∨(∃h,vs=[.tp h]/\Q (.d (.int h.9)) kd)|.any=>∃h,∃bs:List Bool,vs=[.ls h]/\HG h=jr (bs.map PyData.bool)/\Q (.d (.bool (bs.any id))) kd|.list=>∃h v,vs=[.ls h]/\HG h=jr v/\Q (.lst (v.map T.d)) kf|.sorted=>(∃h,∃w:LS,vs=[.ls h]/\HG h=jr (w.map j0)/\w.9<64/\∀x:LS,x.Perm w->t3 x=kf->Q (.lst ((x.map j0).map T.d)) kf) ∨
  (∃h,∃ls:List (LS),vs=[.ls h]/\HG h=jr (ls.map NC)/\ls.9<64/\∀u:List (LS),u.Perm ls->Q (.lst ((u.map NC).map T.d)) kf) ∨
  (∃h,∃k:LJ,vs=[.ls h]/\HG h=jr (k.map j1)/\k.9<64/\∀y:LJ,y.Perm k->y.Pairwise (·<=·)->Q (.lst ((y.map j1).map T.d)) kf)
 | .min=>∃i j,vs=[.sc (.int i),.sc (.int j)]/\Q (.d (.int (if j<i then j else i))) kd|.tuple=>∃h v,vs=[.ls h]/\HG h=jr v/\Q (.d (.tuple v)) kd
section
variable{Q:T->Bool->Prop}
theorem Vh(ts:LT):uY .len [.ls ts] Q=Q (.d (.int ts.9)) false:=by simp[uY]
theorem fu(ts:LT):uY .any [.ls ts] Q=∃bs:List Bool,HG ts=jr (bs.map PyData.bool)/\Q (.d (.bool (bs.any id))) false:=by simp[uY]
theorem Sn(i j:Int):uY .min [.sc (.int i),.sc (.int j)] Q=Q (.d (.int (if j<i then j else i))) false:=ir #[λ#[_,_,e,h]=>by cases e;exact h,λh=>#[_,_,rfl,h]]
theorem Kh(ts:LT):uY .tuple [.ls ts] Q=∃ds,HG ts=jr ds/\Q (.d (.tuple ds)) false:=by simp[uY]
theorem du(ts:LT):uY .list [.ls ts] Q=∃ds,HG ts=jr ds/\Q (.lst (ds.map T.d)) true:=by simp[uY]
end
section
variable{N:T->T->Prop}
def Jv(m:Mt)(x:Vw)(vs:List Vw)(Q:T->Bool->Prop):Prop:=match m with
 | .index=>∃z y i h,x=.sc (.str z)/\vs=[.sc (.str y)]/\qB z y 0 z.9 1=i::h/\Q (.d (.int ((i:Nat):Int))) kd|_=>False
def gc(x:Vw)(Q:T->Bool->Prop):Prop:=∃h y,x=.ls h/\HG h=jr y/\Q (.lst (y.reverse.map T.d)) kf
def Vw.isS:Vw->Bool
 | .sc (.str _)=>kf|_=>kd
noncomputable def isMut:Mt->Bool
 | .append=>kf|.pop=>kf|.setd=>kf|.extend=>kf|.index=>kd
def B8(m:Mt)(x:Vw):Bool:=x.isS&&!isMut m
def LL(m:Mt)(s:T)(us:LT)(N:T->T->Prop):Prop:=match m with
 | .append=>∃h t,s=.lst h/\us=[t]/\h.9<kn/\N (.d .none) (.lst (h++[t]))|.pop=>∃h i k t,s=.lst h/\us=[.d (.int i)]/\HS h.9 i=jr k/\h[k]?=jr t/\N t (.lst (h.eraseIdx k))|.extend=>∃h x,s=.lst h/\us=[.lst x]/\h.9+x.9<=kn/\N (.d .none) (.lst (h++x))|_=>False
theorem X8(ts:LT)(t:T):LL .append (.lst ts) [t] N=(ts.9<kn/\N (.d .none) (.lst (ts++[t]))):=by simp[LL]
theorem K8(ts vs:LT):LL .extend (.lst ts) [.lst vs] N=(ts.9+vs.9<=kn/\N (.d .none) (.lst (ts++vs))):=by simp[LL]
theorem V8(ts:LT)(i:Int):LL .pop (.lst ts) [.d (.int i)] N=∃k t,HS ts.9 i=jr k/\ts[k]?=jr t/\N t (.lst (ts.eraseIdx k)):=by simp[LL]
noncomputable def gX:Mt->Bool
 | .append=>kf|.pop=>kf|.setd=>kd|.extend=>kf|.index=>kd
def xJ(m:Mt):T->Bool
 | .lst _=>gX m|_=>kd
noncomputable def Vw.seq:Vw->Option (LT)
 | .ls h=>jr h|.tp h=>jr h|_=>kv
def NB(u:ItK)(vs:List Vw)(R:LT->Prop):Prop:=match u with
 | .val=>(∃h,vs=[.ls h]/\R h)∨(∃h,vs=[.tp h]/\R h)∨(∃y h,vs=[.dc kf y h]/\R (y.map T.d))|.rng1=>∃j,vs=[.sc (.int j)]/\(-(2 ^ 62)<=j/\j<2 ^ 62)/\R ((Qo j.toNat).map λ(i:Nat)=>.d (.int (i:Int)))|.rev=>∃h,vs=[.ls h]/\R h.reverse|.enum=>∃x h z,vs=[x]/\x.seq=jr h/\HG h=jr z/\R (z.zipIdx.map λp=>.d (.tuple [.int (p.2:Int),p.1]))|.itm=>(∃y h z,vs=[.dc kf y h]/\HG h=jr z/\R ((y.zip z).map λp=>.d (.tuple [p.1,p.2])))∨(vs=[.sc (.dict [])]/\R [])
end
section
variable{R:LT->Prop}
theorem fJ(ts:LT):NB .val [.ls ts] R=R ts:=by simp[NB]
theorem c9(ts:LT):NB .val [.tp ts] R=R ts:=by simp[NB]
theorem b9(j:Int):NB .rng1 [.sc (.int j)] R=((-(2 ^ 62)<=j/\j<2 ^ 62)/\R ((Qo j.toNat).map λ(i:Nat)=>.d (.int (i:Int)))):=by simp[NB]
theorem XU(x:Vw):NB .enum [x] R=∃ts ds,x.seq=jr ts/\HG ts=jr ds/\R (ds.zipIdx.map λp=>.d (.tuple [.int (p.2:Int),p.1])):=by apply ir;constructor;rintro⟨_,ts,ds,⟨⟩,h⟩;exact#[ts,ds,h];rintro⟨ts,ds,h⟩;exact#[_,ts,ds,rfl,h]
theorem VU(ks:List D)(ts:LT):NB .itm [.dc kf ks ts] R=∃ds,HG ts=jr ds/\R ((ks.zip ds).map λp=>.d (.tuple [p.1,p.2])):=by apply ir;constructor;rintro(⟨_,_,ds,⟨⟩,h⟩| ⟨⟨⟩,_⟩);exact#[ds,h];rintro⟨ds,h⟩;exact .inl #[_,_,ds,rfl,h]
theorem KU(ks:List D)(ts:LT):NB .val [.dc kf ks ts] R=R (ks.map T.d):=by simp[NB]
theorem u9:NB .itm [.sc (.dict [])] R=R []:=by apply ir;constructor;rintro(⟨_,_,x,⟨⟩,h⟩| ⟨_,h⟩);exact h;exact λh=>.inr #[rfl,h]
end
noncomputable def TC:LN->LT->xA->Option xA
 |[],[],ρ=>jr ρ|i::is,t::ts,ρ=>TC is ts (ρ.set i (jr (.bor t)))|_,_,_=>kv
def MP:Tg->T->xA->(xA->Prop)->Prop
 | .nm i,t,ρ,Q=>Q (ρ.set i (jr (.bor t)))|.tp is,t,ρ,Q=>match t.vw with
  | .tp x=>∃h,TC is x ρ=jr h/\Q h|_=>False
def Tg.ix:Tg->LN
 | .nm i=>[i]|.tp h=>h
def L6:PX->Option Nat
 | .var i=>jr i|_=>kv
noncomputable def zG:Option Sl->Option Sl
 |some (.own t)=>jr (.bor t)|s=>s
def lockA(ρ:xA):xA:=ρ.map zG
def lock:LN->xA->xA
 |[],ρ=>ρ|i::is,ρ=>lock is (ρ.modify i zG)
def sX:Option Sl->Option Sl
 |some (.own t)=>bD t.er|s=>s
noncomputable def frzAt:LN->xA->xA
 |[],ρ=>ρ|i::is,ρ=>frzAt is (ρ.modify i sX)
noncomputable def VN:Option Sl->Option Sl
 |some (.bor t)=>if t.isD=kf then jr (.bor t) else kv|s=>s
def kill:LN->xA->xA
 |[],ρ=>ρ|i::is,ρ=>kill is (ρ.modify i VN)
noncomputable def clear:LN->xA->xA
 |[],ρ=>ρ|i::is,ρ=>clear is (ρ.set i kv)
noncomputable def HA:LN->xA->Option (LT)
 |[],_=>jr []|i::is,ρ=>match ρ[i]? with
  |some (jr (.own t))=>(HA is ρ).map (t::·)|_=>kv
noncomputable def yC:LN->LT->xA->Option xA
 |[],[],ρ=>jr ρ|i::is,t::ts,ρ=>yC is ts (ρ.set i (jr (.own t)))|_,_,_=>kv
noncomputable def bC:List Bool->xA->xA
 |b::m,v::ρ=>(if b then kv else v)::bC m ρ|_,ρ=>ρ
def DO(k:Nat)(h:List Bool)(ρ:xA):xA:=QAa k kv++bC h ρ
def sq{α:Type}(x:T)(ρ:xA)(b:xA->(α->xA->Prop)->Prop)(K:α->xA->Prop):Prop :=
 if x.isD=kf then b ρ K else b (lockA ρ) λy _=>K y ρ
def cu(f:xA->TK->Prop):xA->(T×Bool->xA->Prop)->Prop:=λy K=>f y λx n h=>K (x,n) h
def DF:List (T×Bool)->LT
 |[]=>[]|p::r=>p.1::DF r
def CO:List (T×Bool)->LT
 |[]=>[]|p::r=>nA p.1 p.2::CO r
noncomputable def CB:List (T×Bool)->List Vw
 |[]=>[]|p::r=>(nA p.1 p.2).vw::CB r
noncomputable def UE:List (T×Bool)->Bool
 |[]=>kf|p::r=>KH p.1 p.2&&UE r
noncomputable def YS:List (T×Bool)->Bool
 |[]=>kf|p::r=>KH p.1 p.2&&YS r
def rE(t:T):Option T:=match t.vw with
 | .ls h=>(HG h).map λx=>.lst (x.map T.d)|_=>if t.isD=kf then jr t else kv
def sA:List Md->List (T×Bool)->LT->Option (LT)
 |_,[],[]=>jr []|_,[],_::_=>kv|md,(x,n)::xs,os=>match md.headD .fro with
  | .fro=>match nA x n with
   | .d d=>(sA md.tail xs os).map (.d d::·)|_=>kv
  | .shal=>match rE (nA x n) with
   |some t=>(sA md.tail xs os).map (t::·)|none=>kv
  | .bor=>(sA md.tail xs os).map (nA x n::·)|.chg=>match os with
   |o::os=>(sA md.tail xs os).map (o::·)|[]=>kv
noncomputable def LB:List Md->LT->LT
 |_,[]=>[]|md,t::ts=>match md.headD .fro with
  | .chg=>t::LB md.tail ts|_=>LB md.tail ts
noncomputable def bA:List Md->PX->LN
 | .chg::md,.acons (.var j) as=>j::bA md as|_::md,.acons _ as=>bA md as|_,_=>[]
def Md.isMut:Md->Bool
 | .chg=>kf|_=>kd
structure D3 where
 e:xA->TK->Prop
 t:xA->(Bool->xA->Prop)->Prop
 a:List Md->xA->(List (T×Bool)->xA->Prop)->Prop
def vE:D3:=#[λ_ _=>False,λ_ _=>False,λ_ _ _=>False]
def RC(body:T->(Option T->Prop)->Prop):LT->LT->(LT->Prop)->Prop
 |[],acc,Q=>acc.9<=kn/\Q acc|x::xs,acc,Q=>body x fun
  |some y=>acc.9<kn/\RC body xs (acc++[y]) Q|none=>RC body xs acc Q
def hG(v:Tg)(u:xA)(c:xA->(Bool->xA->Prop)->Prop)(e:xA->TK->Prop)(x:T)(R:Option T->Prop):Prop :=
 MP v x u λz=>c z λb h=>if b=kf then e h λy n _=>KH y n=kf/\R (jr y) else R kv
def pv:Option (Option Sl)->(T->Prop)->Prop
 |some (jr (.own t)),Q=>Q t|some (jr (.bor t)),Q=>Q t|some kv,_=>False|none,_=>False
def AC:Option (Option Sl)->(T->Prop)->Prop
 |some (jr (.own t)),Q=>Q t|some (jr (.bor _)),_=>False|some kv,_=>False|none,_=>False
def gg:Option Nat->(Nat->Prop)->Prop
 |none,_=>False|some j,Q=>Q j
def f9:PX->Bool
 | .var _=>kf|_=>kd
def pe(Ψ:PEv):PX->XE->D3
 | .var i,_=>let e:xA->TK->Prop:=λv Q=>pv v[i]? λt=>Q t kd v
  #[e,λv Q=>e v λt _ h=>sI t.er λb=>Q b h,vE.a]
 | .int i,_=>#[λv Q=>Q (.d (.int i)) kd v,λv Q=>Q (i != 0) v,vE.a]|.str x,_=>#[λv Q=>Q (.d (.str x)) kd v,vE.t,vE.a]|.bl b,_=>#[λv Q=>Q (.d (.bool b)) kd v,λv Q=>Q b v,vE.a]|.non,_=>#[λv Q=>Q (.d .none) kd v,λv Q=>Q kd v,vE.a]|.glo x,_=>let e:xA->TK->Prop:=λv Q=>match Ψ.va x with
   |some d=>Q (.d d) kd v|none=>False
  #[e,λv Q=>e v λt _ h=>sI t.er λb=>Q b h,vE.a]
 | .bin op a b,E=>let e:xA->TK->Prop:=λv Q=>(pe Ψ a E).e v λx n h=>sq (nA x n) h (cu (pe Ψ b E).e) λy w=>binT op (nA x n).vw (nA y.1 y.2).vw λz k=>Q z k w
  #[e,λv Q=>e v λt _ h=>sI t.er λb=>Q b h,vE.a]
 | .cmp op a b,E=>let t:xA->(Bool->xA->Prop)->Prop:=λv Q=>(pe Ψ a E).e v λx n h=>sq (nA x n) h (cu (pe Ψ b E).e) λy w=>uf op x.er (nA y.1 y.2) λk=>Q k w
  #[λv Q=>t v λk h=>Q (.d (.bool k)) kd h,t,vE.a]
 | .and a b,E=>#[λv Q=>(pe Ψ a E).e v λx _ h=>An x.er λc=>if c=kf then(pe Ψ b E).e h Q else Q (.d (.bool kd)) kd h,
   λv Q=>(pe Ψ a E).t v λc h=>if c=kf then(pe Ψ b E).t h Q else Q kd h,vE.a]
 | .or a b,E=>#[λv Q=>(pe Ψ a E).e v λx _ h=>An x.er λc=>if c=kf then Q (.d (.bool kf)) kd h else(pe Ψ b E).e h Q,
   λv Q=>(pe Ψ a E).t v λc h=>if c=kf then Q kf h else(pe Ψ b E).t h Q,vE.a]
 | .not a,E=>#[λv Q=>(pe Ψ a E).e v λx _ h=>sI x.er λc=>Q (.d (.bool (!c))) kd h,λv Q=>(pe Ψ a E).t v λc h=>Q (!c) h,vE.a]|.ife c a b,E=>#[λv Q=>(pe Ψ c E).t v λk h=>if k=kf then(pe Ψ a E).e h Q else(pe Ψ b E).e h Q,vE.t,vE.a]|.call f as,E=>let e:xA->TK->Prop:=λv Q=>∃Z,HA (bA (Ψ.sp f).md as) v=jr Z/\(bA (Ψ.sp f).md as).Nodup/\(pe Ψ as E).a (Ψ.sp f).md (clear (bA (Ψ.sp f).md as) v) λg h=>∃Y,sA (Ψ.sp f).md g Z=jr Y/\(Ψ.sp f).run Y (λr s=>∃w,yC (bA (Ψ.sp f).md as) s h=jr w/\Q r kf w) E
  #[e,λv Q=>e v λt _ h=>sI t.er λb=>Q b h,vE.a]
 | .bi f as,E=>let e:xA->TK->Prop:=λv Q=>(pe Ψ as E).a [] v λg h=>uY f (CB g) λz k=>Q z k h
  #[e,λv Q=>e v λt _ h=>sI t.er λb=>Q b h,vE.a]
 | .mt m o as,E=>let e:xA->TK->Prop:=λv Q=>if isMut m=kf then gg (L6 o) λj=>AC v[j]? λt=>xJ m t=kf/\(pe Ψ as E).a [] (v.set j (jr (.bor t))) λg w=>UE g=kf/\w[j]?=jr (jr (.bor t))/\LL m t (DF g) λr K=>Q r kf (w.set j (jr (.own K))) else(pe Ψ o E).e v λx n h=>B8 m (nA x n).vw=kf/\sq (nA x n) h ((pe Ψ as E).a []) λg w=>Jv m (nA x n).vw (CB g) λz k=>Q z k w
  #[e,λv Q=>e v λt _ h=>sI t.er λb=>Q b h,vE.a]
 | .idx a b,E=>let e:xA->TK->Prop:=λv Q=>(pe Ψ a E).e v λx n h=>sq (nA x n) h (cu (pe Ψ b E).e) λy w=>(BN (nA x n).vw (nA y.1 y.2).vw λz=>Q z kd w)∨(yS (nA x n).vw y.1.er λz=>Q z kd w)
  #[e,λv Q=>e v λt _ h=>sI t.er λb=>Q b h,vE.a]
 | .slc a lo hi,E=>#[λv Q=>(pe Ψ a E).e v λx n h =>
   sq (α:=Option Int) (nA x n) h (if isNop lo=kf then λv (R:Option Int->xA->Prop)=>R kv v else λv R=>(pe Ψ lo E).e v λl _ w=>EF l.er λo=>R o w) λl w =>
   sq (α:=Option Int) (nA x n) w (if isNop hi=kf then λv (R:Option Int->xA->Prop)=>R kv v else λv R=>(pe Ψ hi E).e v λu _ p=>EF u.er λo=>R o p) λu p=>kK (nA x n).vw l u λz k=>Q z k p,vE.t,vE.a]
 | .nop,_=>vE|.lst as,E=>#[λv Q=>(pe Ψ as E).a [] v λg h=>UE g=kf/\g.9<=kn/\Q (.lst (DF g)) kf h,vE.t,vE.a]|.tup as,E=>#[λv Q=>(pe Ψ as E).a [] v λg h=>UE g=kf/\g.9<=kn/\Q (pD (DF g)) kf h,vE.t,vE.a]|.comp mask tgs tg ik its cond elt,E=>#[λv Q=>(pe Ψ its E).a [] v λg h=>NB ik (CB g) λq =>
   RC (hG tg (DO tgs.9 mask (lockA h)) (if isNop cond=kf then λv R=>R kf v else(pe Ψ cond (λ_=>False)).t) (pe Ψ elt (λ_=>False)).e) q [] λW=>Q (.lst W) kf h,vE.t,vE.a]
 | .dnew b,_=>#[λv Q=>Q (.dct b [] []) kf v,vE.t,vE.a]|.dsp a b,E=>#[λv Q=>(pe Ψ a E).e v λy m h=>KH y m=kf/\(pe Ψ b E).e h λx n w=>KH x n=kf/\aD kf y.er/\Q (.dct kf [y.er] [x]) kf w,vE.t,vE.a]|.ng i,_=>#[λv Q=>Q (.d (.int (-i))) kd v,vE.t,vE.a]|.lrv a,E=>#[λv Q=>(pe Ψ a E).e v λx n h=>gc (nA x n).vw λz k=>Q z k h,vE.t,vE.a]|.anil,_=>#[vE.e,vE.t,λ_ v Q=>Q [] v]|.acons a as,E=>#[vE.e,vE.t,λX v Q=>if(X.headD .fro).isMut=kf then f9 a=kf/\(pe Ψ as E).a X.tail v λg h=>Q ((.d .none,kf)::g) h
   else(pe Ψ a E).e v λx n h=>sq (α:=List (T×Bool)) (if n=kf then .d .none else x) h ((pe Ψ as E).a X.tail) λg w=>Q ((x,n)::g) w]
structure PEnds where
 nx:xA->Prop
 rt:T->xA->Prop
 bk:xA->Prop:=λ_=>False
 ct:xA->Prop:=λ_=>False
noncomputable def GF:PX->LN
 | .var i=>[i]|.idx a _=>GF a|.ife _ a b=>GF a++GF b|.and a b | .or a b=>GF a++GF b
 | .acons a h=>GF a++GF h|_=>[]
noncomputable def lN:Option (Option Sl)->Bool
 |some (jr (.own _))=>kf|some (jr (.bor _))=>kd|some kv=>kd|none=>kd
def xC(ρ:xA):LN->LN
 |[]=>[]|i::is=>if lN ρ[i]?=kf then i::xC ρ is else xC ρ is
noncomputable def YC:LN->xA->xA->xA
 |[],_,ρ=>ρ|i::L,ρ0,ρ=>YC L ρ0 (ρ.set i (ρ0[i]?.getD kv))
def jW(J L:LN)(h:xA)(N:xA->Prop)(ρ:xA):Prop:=(∀i∈L,i∉J/\ρ[i]?=h[i]?.map zG)/\N (YC L h ρ)
def EH(body:PEnds->xA->Prop)(z:Tg)(Z:PEnds):LT->xA->Prop
 |[],ρ=>Z.nx ρ|x::xs,ρ=>MP z x ρ λy=>body { Z with nx:=λh=>EH body z Z xs h,ct:=λh=>EH body z Z xs h,bk:=Z.nx } y
def Hw(ρ:xA)(i:Nat)(R:T->xA->Prop):Option (Option Sl)->Prop
 |some (jr (.own t))=>R t (ρ.set i kv)|some (jr (.bor t))=>t.isD=kf/\R t ρ|some kv=>False|none=>False
def FD(Ψ:PEv)(E:XE)(y:T->xA->Prop):PX->xA->Prop
 | .var i,ρ=>Hw ρ i y ρ[i]?|.ife c a b,ρ=>(pe Ψ c E).t ρ λk h=>if k=kf then FD Ψ E y a h else FD Ψ E y b h|e,ρ=>(pe Ψ e E).e ρ λx n h=>KH x n=kf/\y x h
def mq:T->D->D->(T->Prop)->Prop
 | .lst ts,.int i,x,Q=>∃n,HS ts.9 i=jr n/\Q (.lst (ts.set n (.d x)))|.dct b ks ts,k,x,Q=>aD b k/\ks.9<kn/\Q (xK b ks ts k (.d x))|_,_,_,_=>False
noncomputable def Zw:PX->Option (Nat×Option PX)
 | .var j=>jr (j,kv)|.idx (.var j) k=>jr (j,jr k)|_=>kv
def Kj(k:D)(t:T)(Q:T->Prop):Prop:=∃h x,t=.dct kf h x/\aD kf k/\h.9<kn/\((∃n,cA h k=jr n/\Q t)∨(cA h k=kv/\Q (.dct kf (h++[k]) (x++[.dct kf [] []]))))
def yf:T->Bool
 | .dct kf _ _=>kf|_=>kd
def gq(z:D)(t:T)(Q:T->(T->T)->Prop):Prop:=∃b x h n s,t=.dct b x h/\aD b z/\cA x z=jr n/\h[n]?=jr s/\Q s λy=>.dct b x (h.set n y)
def iB(Ψ:PEv)(E:XE):PT->PEnds->xA->Prop
 | .nil,Z,u=>Z.nx u|.seq s r,Z,u=>iB Ψ E s { Z with nx:=λw=>iB Ψ E r Z w } u|.set i e,Z,u=>(pe Ψ e E).e u λx n h=>KH x n=kf/\Z.nx (h.set i (bD x.er))|.expr e,Z,u=>(pe Ψ e E).e u λ_ _ h=>Z.nx h|.ret e,Z,u=>FD Ψ E Z.rt e u|.ife c a b,Z,u=>(pe Ψ c E).t u λk h=>if k=kf then iB Ψ E a Z h else iB Ψ E b Z h|.for_ tg ik its body,Z,u=>(pe Ψ its E).a [] u λX h=>NB ik (CB X) λf =>
   if YS X=kf then EH (iB Ψ E body) tg { Z with nx:=λv=>Z.nx (kill tg.ix v) } f h
   else EH (iB Ψ E body) tg { Z with nx:=λv=>jW tg.ix (xC h (GF its)) h Z.nx (kill tg.ix v) } f (lock (xC h (GF its)) h)
 | .own i e,Z,u=>(pe Ψ e E).e u λx n h=>KH x n=kf/\Z.nx (h.set i (jr (.own x)))|.six o i e,Z,u=>match Zw o with
  |none=>False|some (j,kv)=>AC u[j]? λt=>(pe Ψ e E).e (u.set j (jr (.bor t))) λx n h=>KH x n=kf/\(pe Ψ i E).e h λy m v=>KH y m=kf/\v[j]?=jr (jr (.bor t))/\mq t y.er x.er λq=>Z.nx (v.set j (jr (.own q)))|some (j,jr k)=>AC u[j]? λt=>(pe Ψ e E).e (u.set j (jr (.bor t))) λx n h=>KH x n=kf/\(pe Ψ k E).e h λz l v=>KH z l=kf/\gq z.er t λs put=>(pe Ψ i E).e v λy m g=>KH y m=kf/\g[j]?=jr (jr (.bor t))/\mq s y.er x.er λY=>Z.nx (g.set j (jr (.own (put Y))))
 | .sdf j k,Z,u=>AC u[j]? λt=>yf t=kf/\(pe Ψ k E).e (u.set j (jr (.bor t))) λy m h=>KH y m=kf/\h[j]?=jr (jr (.bor t))/\Kj y.er t λq=>Z.nx (h.set j (jr (.own q)))|.whl c body,Z,u=>∃W:Nat->xA->Prop,(∃m,W m u)/\∀m u,W m u->(pe Ψ c E).t u λb h=>if b=kf then
   iB Ψ E body { Z with nx:=λw=>∃p,p < m/\W p w,ct:=λw=>∃p,p < m/\W p w,bk:=Z.nx } h else Z.nx h
 | .frz is s,Z,u=>iB Ψ E s Z (frzAt is u)
abbrev pF(Ψ:PEv):PT->PEnds->xA->Prop:=iB Ψ λ_=>False
theorem _root_.L2.Same.rd{H x:Hp}(e:Same H x){a:ko}{u:HO}(h:Rd H a u):Rd x a u:=by
 rcases h with h|⟨o,h⟩
 exact .inl (e _ _ h);exact .inr #[o,e _ _ h]
theorem _root_.L2.Same.tupl{K:QA}{H x:Hp}{a:ko}{xs:LV}(e:Same H x)(h:ED K H a xs):ED K x a xs:=by rcases h with h|h;exact .inl (e.rd h);exact .inr h
mutual
theorem nZ{K:QA}{H x:Hp}(e:Same H x):∀{k:NK}{v:V},ao K H k v->ao K x k v
 | .s _,_,h=>h|.t _,_,#[a,xs,h,q,p]=>#[a,xs,h,e.tupl q,kys_mono e p]
theorem kys_mono{K:QA}{H y:Hp}(e:Same H y):∀{ks:List NK}{vs:LV},KyVs K H ks vs->KyVs K y ks vs
 |[],_,h=>h|_::_,_,#[x,r,h,p,q]=>#[x,r,h,nZ e p,kys_mono e q]
end
section
variable{K:QA}{H x:Hp}{vs:LV}{ds:List D}
theorem _root_.L2.Same.key(e:Same H x){b:ko}{k:NK}(h:yP K H b k):yP K x b k:=#[nZ e h.1,h.2]
theorem OJ.mono(e:Same H x){b:Bool}{o:HO}{ks:List D}(h:OJ K H b o ks vs):OJ K x b o ks vs:=by
 cases b with|true=>let#[f,y,a,k,w,v,u]:=h;exact#[f,y,a,k,w,λp z=>e.key (v p z),u]|false=>exact h
theorem Rep.mono2(e:Same H x):(∀{v:V}{d:D},Rep K H v d->Rep K x v d)/\∀{vs:LV}{ds:List D},Reps K H vs ds->Reps K x vs ds :=
 Rep.both (P:=Rep K x) (R:=Reps K x) .non .bl .int .str (λh _ r=>.lst (e.seq h) r) (λh _ r=>.tup (e.tupl h) r) (λh q _ r=>.dct (e _ _ h) (q.mono e) r) .nil λ_ _ h r=>.cons h r
theorem Rep.mono(e:Same H x){v:V}{d:D}(h:Rep K H v d):Rep K x v d:=(Rep.mono2 e).1 h
theorem Reps.mono(e:Same H x)(h:Reps K H vs ds):Reps K x vs ds:=(Rep.mono2 e).2 h
theorem Reps.append{ws:LV}{es:List D}(h:Reps K H vs ds)(r:Reps K H ws es):Reps K H (vs++ws) (ds++es):=Reps.ind (R:=λvs ds=>Reps K H (vs++ws) (ds++es)) r (λh t=>.cons h t) h
theorem Reps.reverse(h:Reps K H vs ds):Reps K H vs.reverse ds.reverse:=Reps.ind (R:=λvs ds=>Reps K H vs.reverse ds.reverse) .nil (λr y=>by rw[wY,wY];exact y.append (.cons r .nil)) h
theorem Reps.get{K:QA}{H:Hp}:∀{vs:LV}{ds:List D}{i:Nat}{d:D},Reps K H vs ds->ds[i]?=jr d->∃v,vs[i]?=jr v/\Rep K H v d
 |_,_,i,_,.nil,h=>by simp at h|_,_,0,_,.cons h _,e=>by simp at e;subst e;exact#[_,rfl,h]|_,_,i+1,d,.cons _ t,e=>by let#[v,z,y]:=Reps.get (i:=i) t (by simpa using e);exact#[v,by simpa using z,y]
theorem Reps.drop{K:QA}{H:Hp}:∀{vs:LV}{ds:List D}(n:Nat),Reps K H vs ds->Reps K H (vs.drop n) (ds.drop n)
 |_,_,0,r=>r|_,_,_+1,.nil=>.nil|_,_,n+1,.cons _ t=>Reps.drop n t
theorem Reps.take{K:QA}{H:Hp}:∀{vs:LV}{ds:List D}(n:Nat),Reps K H vs ds->Reps K H (vs.take n) (ds.take n)
 |_,_,0,_=>.nil|_,_,_+1,.nil=>.nil|_,_,n+1,.cons h t=>.cons h (Reps.take n t)
theorem Reps.bools{K:QA}{H:Hp}:∀{vs:LV}{bs:List Bool},Reps K H vs (bs.map PyData.bool)->vs=bs.map V.bl
 |_,[],.nil=>rfl|_,b::bs,.cons h t=>by cases h;rw[QX,Reps.bools t]
theorem PB{p:ko}{o:HO}(h:H p=kv):Same H (CA H p o):=λb u q=>by rw[uA (iA q h)];exact q
end
mutual
inductive Tr(K:QA)(F H:Hp):Bool->V->T->(ko->Prop)->Prop where
 |d {st:Bool}{v:V}{x:D}{S:eB}:Rep K F v x->(∀b,¬ S b)->Tr K F H st v (.d x) S
 |lst {st:Bool}{a:ko}{vs:LV}{ts:LT}{S S':eB}:H a=jr (.lst vs)->F a=kv->Trs K F H st vs ts S'->¬ S' a->(∀b,S b↔b=a∨S' b)->Tr K F H st (.ref a) (.lst ts) S
 |tup {st:Bool}{a:ko}{vs:LV}{ts:LT}{S S':eB}:H a=jr (.tup vs)->F a=kv->Trs K F H st vs ts S'->¬ S' a->(∀b,S b↔b=a∨S' b)->Tr K F H st (.ref a) (.tup ts) S
 |lstF {a:ko}{vs:LV}{ds:List D}{S:eB}:nC K F a vs->Reps K F vs ds->(∀b,¬ S b)->Tr K F H kd (.ref a) (.lst (ds.map T.d)) S
 |dct {st b:Bool}{a:ko}{o:HO}{ks:List D}{vs:LV}{ts:LT}{S S':eB}:H a=jr o->OJ K F b o ks vs->F a=kv->Trs K F H st vs ts S'->¬ S' a->(∀b,S b↔b=a∨S' b)->Tr K F H st (.ref a) (.dct b ks ts) S
inductive Trs(K:QA)(F H:Hp):Bool->LV->LT->(ko->Prop)->Prop where
 |nil {st:Bool}{S:eB}:(∀b,¬ S b)->Trs K F H st [] [] S
 |cons {st:Bool}{v:V}{t:T}{vs:LV}{ts:LT}{S S1 S2:eB}:Tr K F H st v t S1->Trs K F H st vs ts S2->(∀b,S1 b->¬ S2 b)->(∀b,S b↔S1 b∨S2 b)->Trs K F H st (v::vs) (t::ts) S
end
section
variable{K:QA}{F H w c:Hp}
section
variable{R:Bool->LV->LT->(ko->Prop)->Prop}{st b:Bool}{v:V}{t:T}{S:eB}{vs:LV}{ts:LT}{ds ks:List D}{i:Int}{kvs:List (D×D)}
theorem Tr.both{P:Bool->V->T->(ko->Prop)->Prop}
    (d:∀{st:Bool}{v:V}{x:D}{S:eB},Rep K F v x->(∀b,¬ S b)->P st v (.d x) S)
    (lst:∀{st:Bool}{a:ko}{vs:LV}{ts:LT}{S S':eB},H a=jr (.lst vs)->F a=kv->Trs K F H st vs ts S'->¬ S' a->(∀b,S b↔b=a∨S' b)->R st vs ts S'->P st (.ref a) (.lst ts) S)
    (tup:∀{st:Bool}{a:ko}{vs:LV}{ts:LT}{S S':eB},H a=jr (.tup vs)->F a=kv->Trs K F H st vs ts S'->¬ S' a->(∀b,S b↔b=a∨S' b)->R st vs ts S'->P st (.ref a) (.tup ts) S)
    (y:∀{a:ko}{vs:LV}{ds:List D}{S:eB},nC K F a vs->Reps K F vs ds->(∀b,¬ S b)->P kd (.ref a) (.lst (ds.map T.d)) S)
    (dct:∀{st b:Bool}{a:ko}{o:HO}{ks:List D}{vs:LV}{ts:LT}{S S':eB},H a=jr o->OJ K F b o ks vs->F a=kv->Trs K F H st vs ts S'->¬ S' a->(∀b,S b↔b=a∨S' b)->R st vs ts S'->P st (.ref a) (.dct b ks ts) S)
    (u:∀{st:Bool}{S:eB},(∀b,¬ S b)->R st [] [] S)
    (z:∀{st:Bool}{v:V}{t:T}{vs:LV}{ts:LT}{S S1 k:eB},Tr K F H st v t S1->Trs K F H st vs ts k->(∀b,S1 b->¬ k b)->(∀b,S b↔S1 b∨k b)->P st v t S1->R st vs ts k->R st (v::vs) (t::ts) S) :
    (∀{st:Bool}{v:V}{t:T}{S:eB},Tr K F H st v t S->P st v t S)/\∀{st:Bool}{vs:LV}{ts:LT}{S:eB},Trs K F H st vs ts S->R st vs ts S :=
  #[λh=>Tr.rec (motive_1:=λst v t S _=>P st v t S) (motive_2:=λst vs ts S _=>R st vs ts S) @d @lst @tup @y @dct @u @z h,
   λh=>Trs.rec (motive_1:=λst v t S _=>P st v t S) (motive_2:=λst vs ts S _=>R st vs ts S) @d @lst @tup @y @dct @u @z h]
theorem Tr.mono2(e:Same F w):(∀{st:Bool}{v:V}{t:T}{S:eB},Tr K F H st v t S->(∀b,S b->c b=H b/\w b=kv)->Tr K w c st v t S)/\∀{st:Bool}{vs:LV}{ts:LT}{S:eB},Trs K F H st vs ts S->(∀b,S b->c b=H b/\w b=kv)->Trs K w c st vs ts S :=
 Tr.both (P:=λst v t S=>(∀b,S b->c b=H b/\w b=kv)->Tr K w c st v t S) (R:=λst v t S=>(∀b,S b->c b=H b/\w b=kv)->Trs K w c st v t S)
  (λr n _=>.d (r.mono e) n)
  (λ{_ a _ _ _ _} h _ _ n q x k=>.lst ((k a ((q a).mpr (.inl rfl))).1.trans h) (k a ((q a).mpr (.inl rfl))).2 (x λb hb=>k b ((q b).mpr (.inr hb))) n q)
  (λ{_ a _ _ _ _} h _ _ n q x k=>.tup ((k a ((q a).mpr (.inl rfl))).1.trans h) (k a ((q a).mpr (.inl rfl))).2 (x λb hb=>k b ((q b).mpr (.inr hb))) n q)
  (λh r n _=>.lstF (e.seq h) (r.mono e) n)
  (λ{_ _ a _ _ _ _ _ _} h u _ _ n q x k=>.dct ((k a ((q a).mpr (.inl rfl))).1.trans h) (u.mono e) (k a ((q a).mpr (.inl rfl))).2 (x λb hb=>k b ((q b).mpr (.inr hb))) n q)
  (λn _=>.nil n)
  (λ_ _ n q z y k=>.cons (z λb hb=>k b ((q b).mpr (.inl hb))) (y λb hb=>k b ((q b).mpr (.inr hb))) n q)
theorem Tr.mono(e:Same F w)(h:Tr K F H st v t S)(k:∀b,S b->c b=H b/\w b=kv):Tr K w c st v t S:=(Tr.mono2 e).1 h k
theorem Trs.mono(e:Same F w)(h:Trs K F H st vs ts S)(k:∀b,S b->c b=H b/\w b=kv):Trs K w c st vs ts S:=(Tr.mono2 e).2 h k
theorem Tr.weak2:(∀{st:Bool}{v:V}{t:T}{S:eB},Tr K F H st v t S->Tr K F H kd v t S)/\∀{st:Bool}{vs:LV}{ts:LT}{S:eB},Trs K F H st vs ts S->Trs K F H kd vs ts S :=
 Tr.both (P:=λ_ v t S=>Tr K F H kd v t S) (R:=λ_ v t S=>Trs K F H kd v t S) .d (λh f _ n q x=>.lst h f x n q) (λh f _ n q x=>.tup h f x n q) .lstF (λh u f _ n q x=>.dct h u f x n q) .nil λ_ _ n q z y=>.cons z y n q
theorem Tr.weak(h:Tr K F H st v t S):Tr K F H kd v t S:=Tr.weak2.1 h
theorem Trs.weak(h:Trs K F H st vs ts S):Trs K F H kd vs ts S:=Tr.weak2.2 h
theorem Va{C:eB}{a:ko}{S':eB}(q:∀b,S b↔b=a∨S' b)(h:C a)(k:∀b,S' b->C b)(b:ko)(hb:S b):C b:=((q b).mp hb).elim (λe=>e▸h) (k b)
theorem Tr.dom2:(∀{st:Bool}{v:V}{t:T}{S:eB},Tr K F H st v t S->∀b,S b->H b≠kv/\F b=kv)/\∀{st:Bool}{vs:LV}{ts:LT}{S:eB},Trs K F H st vs ts S->∀b,S b->H b≠kv/\F b=kv :=
 have y:∀{a:ko}{o:HO},H a=jr o->H a≠none:=λh z=>by rw[h]at z;cases z
 Tr.both (P:=λ_ _ _ S=>∀b,S b->H b≠kv/\F b=kv) (R:=λ_ _ _ S=>∀b,S b->H b≠kv/\F b=kv)
  (λ_ n b hb=>im hb (n b)) (λh f _ _ q x=>Va q #[y h,f] x) (λh f _ _ q x=>Va q #[y h,f] x) (λ_ _ n b hb=>im hb (n b)) (λh _ f _ _ q x=>Va q #[y h,f] x)
  (λn b hb=>im hb (n b)) λ_ _ _ q k u b hb=>((q b).mp hb).elim (k b) (u b)
theorem Tr.dom(h:Tr K F H st v t S):∀b,S b->H b≠kv/\F b=none:=Tr.dom2.1 h
theorem Trs.dom(h:Trs K F H st vs ts S):∀b,S b->H b≠kv/\F b=none:=Tr.dom2.2 h
theorem Tr.kept2(e:Same F w):(∀{st:Bool}{v:V}{t:T}{S:eB},Tr K F H st v t S->(∀b u,S b->H b=jr u->w b=jr u)->Rep K w v t.er)/\∀{st:Bool}{vs:LV}{ts:LT}{S:eB},Trs K F H st vs ts S->(∀b u,S b->H b=jr u->w b=jr u)->Reps K w vs (ersT ts) :=
 Tr.both (P:=λ_ v t S=>(∀b u,S b->H b=jr u->w b=jr u)->Rep K w v t.er) (R:=λ_ v t S=>(∀b u,S b->H b=jr u->w b=jr u)->Reps K w v (ersT t))
  (λr _ _=>r.mono e)
  (λ{_ a _ _ _ _} h _ _ _ q x k=>by unfold T.er;exact .lst (nC.of (k a _ ((q a).mpr (.inl rfl)) h)) (x λb u hb=>k b u ((q b).mpr (.inr hb))))
  (λ{_ a _ _ _ _} h _ _ _ q x k=>by unfold T.er;exact .tup (ED.of (k a _ ((q a).mpr (.inl rfl)) h)) (x λb u hb=>k b u ((q b).mpr (.inr hb))))
  (λh r _ _=>by unfold T.er;rw[vB];exact .lst (e.seq h) (r.mono e))
  (λ{_ _ a _ _ _ _ _ _} h f _ _ _ q x k=>by unfold T.er;exact .dct (k a _ ((q a).mpr (.inl rfl)) h) (f.mono e) (x λb u hb=>k b u ((q b).mpr (.inr hb))))
  (λ_ _=>.nil)
  (λ_ _ _ q z y k=>.cons (z λb u hb=>k b u ((q b).mpr (.inl hb))) (y λb u hb=>k b u ((q b).mpr (.inr hb))))
theorem Tr.kept(e:Same F w)(h:Tr K F H st v t S)(k:∀b u,S b->H b=jr u->w b=jr u):Rep K w v t.er:=(Tr.kept2 e).1 h k
theorem Tr.rep(f:Same F H)(h:Tr K F H st v t S):Rep K H v t.er:=h.kept f λ_ _ _ e=>e
theorem Trs.ind(z:∀{st:Bool}{S:eB},(∀b,¬ S b)->R st [] [] S)
  (x:∀{st:Bool}{v:V}{t:T}{vs:LV}{ts:LT}{S S1 y:eB},Tr K F H st v t S1->Trs K F H st vs ts y->(∀b,S1 b->¬ y b)->(∀b,S b↔S1 b∨y b)->R st vs ts y->R st (v::vs) (t::ts) S) (h:Trs K F H st vs ts S):R st vs ts S :=
 (Tr.both (P:=λ_ _ _ _=>True) (λ_ _=>trivial) (λ_ _ _ _ _ _=>trivial) (λ_ _ _ _ _ _=>trivial) (λ_ _ _=>trivial) (λ_ _ _ _ _ _ _=>trivial) z λh t n q _ r=>x h t n q r).2 h
theorem Trs.length(h:Trs K F H st vs ts S):vs.9=ts.length:=Trs.ind (R:=λ_ vs ts _=>vs.9=ts.9) (λ_=>rfl) (λ_ _ _ _ e=>i3 Nat.succ e) h
theorem Trs.of_reps(h:Reps K F vs ds):Trs K F H st vs (ds.map T.d) (λ_=>False) :=
 Reps.ind (R:=λvs ds=>Trs K F H st vs (ds.map T.d) λ_=>False) (.nil λ_ z=>z) (λh t=>.cons (.d h λ_ z=>z) t (λ_ z=>z.elim) λb=>by simp) h
theorem Trs.un(h:Trs K F H st vs ts S)(e:HG ts=jr ds):Reps K F vs ds/\∀b,¬ S b:=by
 have u:=tM e;clear e;revert ds;refine Trs.ind (R:=λ_ vs ts S=>∀{ds:List D},ts=ds.map T.d->Reps K F vs ds/\∀b,¬ S b) (λn ds e=>?_) (λh _ _ q x ds e=>?_) h;cases ds with|nil=>exact#[.nil,n]|cons d r=>cases e
 cases ds with
 |nil=>cases e|cons d r =>
  injection e with e1 e2;let#[z,y]:=x e2;subst e1;cases h with|d rep m=>exact#[.cons rep z,λb hb=>((q b).mp hb).elim (m b) (y b)]
theorem Trs.get{i:Nat}(h:Trs K F H st vs ts S)(e:ts[i]?=jr t):∃v S1,vs[i]?=jr v/\Tr K F H st v t S1/\∀b,S1 b->S b:=by
 revert i;refine Trs.ind (R:=λst vs ts S=>∀{i:Nat},ts[i]?=jr t->∃v S1,vs[i]?=jr v/\Tr K F H st v t S1/\∀b,S1 b->S b) (λn i e=>by cases e) (λh _ n q x i e=>?_) h;cases i with|zero=>cases e;exact#[_,_,rfl,h,λb hb=>(q b).mpr (.inl hb)]|succ i=>let#[v,S1,u,z,y]:=x (i:=i) e;exact#[v,S1,u,z,λb hb=>(q b).mpr (.inr (y b hb))]
theorem Trs.at(r:Trs K F H st vs ts S)(h:uD ts i=jr t):∃v S1,uD vs i=jr v/\Tr K F H st v t S1/\∀b,S1 b->S b:=by
 unfold uD at h ⊢;rw[r.9];cases e:HS ts.9 i with|none=>rw[e]at h;cases h|some j=>rw[e]at h;exact r.get h
theorem Trs.append{ws:LV}{us:LT}{S1 x:eB}(h:Trs K F H st vs ts S1)(r:Trs K F H st ws us x)(k:∀b,S1 b->¬ x b):Trs K F H st (vs++ws) (ts++us) (λb=>S1 b∨x b) :=
 Trs.ind (R:=λst vs ts S1=>Trs K F H st ws us x->(∀b,S1 b->¬ x b)->Trs K F H st (vs++ws) (ts++us) λb=>S1 b∨x b)
  (λ{_ S} n r _=>by have e:(λb=>S b∨x b)=x:=funext λb=>ir #[λz=>z.resolve_left (n b),.inr];rw[e];exact r)
  (λh _ n q y r k=>.cons h (y r λb hb=>k b ((q b).mpr (.inr hb))) (λb hb z=>z.elim (n b hb) (k b ((q b).mpr (.inl hb)))) λb=>by rw[q b,or_assoc]) h r k
theorem Trs.one(h:Tr K F H st v t S):Trs K F H st [v] [t] S:=.cons h (.nil (S:=λ_=>False) λ_ z=>z) (λ_ _ z=>z) λb=>by simp
theorem FH(e:(T.d (.dict kvs)).vw=.ls ts):False:=by
 have e:zC kvs=.ls ts:=e;unfold zC at e;cases h:OC kvs with|none=>rw[h]at e;cases e|some b=>rw[h]at e;cases e
theorem lM(e:(T.d (.dict kvs)).vw=.tp ts):False:=by
 have e:zC kvs=.tp ts:=e;unfold zC at e;cases h:OC kvs with|none=>rw[h]at e;cases e|some b=>rw[h]at e;cases e
theorem Tr.ls(f:Same F H)(h:Tr K F H st v t S)(e:t.vw=.ls ts):∃a vs S',v=.ref a/\nC K H a vs/\Trs K F H kd vs ts S'/\∀b,S' b->S b:=by
 cases h with
 |d r n =>
  cases r with|lst q r=>injection e with e;subst e;exact#[_,_,_,rfl,f.seq q,Trs.of_reps r,λb hb=>hb.elim]|dct _ _ _=>exact(FH e).elim|_=>cases e
 |lst h _ r n q=>injection e with e;subst e;exact#[_,_,_,rfl,nC.of h,r.weak,λb hb=>(q b).mpr (.inr hb)]|tup=>cases e|dct=>cases e|lstF h r n=>injection e with e;subst e;exact#[_,_,_,rfl,f.seq h,Trs.of_reps r,λb hb=>hb.elim]
theorem Tr.tp(f:Same F H)(h:Tr K F H st v t S)(e:t.vw=.tp ts):∃a vs S',v=.ref a/\ED K H a vs/\Trs K F H kd vs ts S'/\∀b,S' b->S b:=by
 cases h with
 |d r n =>
  cases r with|tup q r=>injection e with e;subst e;exact#[_,_,_,rfl,f.tupl q,Trs.of_reps r,λb hb=>hb.elim]|dct _ _ _=>exact(lM e).elim|_=>cases e
 |tup h _ r n q=>injection e with e;subst e;exact#[_,_,_,rfl,ED.of h,r.weak,λb hb=>(q b).mpr (.inr hb)]|lst=>cases e|lstF=>cases e|dct=>cases e
theorem pZ{u:Bool}{o:HO}(h:OJ K H u o ks vs)(e:OC (ks.zip ds)=jr b):u=b:=by
 cases ks with
 |nil=>cases e|cons k ks =>
  cases ds with
  |nil=>cases e|cons d ds =>
   cases u with
   |true =>
    let#[m,kvs,_,y,_,g,_]:=h;cases kvs with
    |nil=>cases y|cons p r =>
     have a:=(g p QD).1;let#[f,n,j]:=p;cases f with|s x=>cases a|t l=>rw[QX]at y;injection y with y _;subst y;injection e
   |false =>
    rcases h with⟨kvs,_,_,y,_⟩| ⟨_,_,y,_⟩
    rotate_left
    cases y;cases kvs with
    |nil=>cases y|cons p r =>
     rw[QX]at y;injection y with y _;subst y;let#[k,v]:=p;cases k with|inl i=>cases e|inr z=>injection e
theorem Tr.dc(f:Same F H)(h:Tr K F H st v t S)(e:t.vw=.dc b ks ts):∃a o vs S',v=.ref a/\H a=jr o/\OJ K F b o ks vs/\Trs K F H kd vs ts S'/\(∀b,S' b->S b)/\∀w c,Same F w->Same w c->(∀b,S b->c b=H b)->c a=jr o:=by
 cases h with
 |d r n =>
  cases r with
  |@dct X a o y l ds h q r =>
   have hl:y.9=ds.length:=by rw[q.len,Reps.length r]
   have g:(y.zip ds).map (λx=>x.1)=y:=WI (wy hl);have u:(y.zip ds).map (λx=>x.2)=ds:=WJ (wy hl.symm);have e:zC (y.zip ds)=.dc b ks ts:=e;unfold zC at e;cases z:OC (y.zip ds) with
   |none=>rw[z]at e;cases e|some p =>
    rw[z]at e;injection e with z1 z2 z3;subst z1;rw[g]at z2;subst z2;have m:ts=ds.map T.d:=by have j:=i3 (List.map T.d) u;rw[QW]at j;rw[<- z3,<- j];rfl
    subst m;cases pZ q z;exact#[_,_,_,_,rfl,f _ _ h,q,Trs.of_reps r,λb hb=>hb.elim,λw c g u _=>u _ _ (g _ _ h)]
  |_=>cases e
 |dct h q _ r n s=>injection e with z1 z2 z3;subst z1 z2 z3;exact#[_,_,_,_,rfl,h,q,r.weak,λb hb=>(s b).mpr (.inr hb),λw c _ _ k=>(k _ ((s _).mpr (.inl rfl))).trans h]|lst=>cases e|tup=>cases e|lstF=>cases e
theorem Tr.sc{x:D}(h:Tr K F H st v t S)(e:t.vw=.sc x):t=.d x/\Rep K F v x:=by
 cases h with
 |@d _ _ y _ r n =>
  cases y with
  |list ds=>cases e|tuple ds=>cases e|dict ds =>
   have e:zC ds=.sc x:=e;unfold zC at e;cases z:OC ds with|none=>rw[z]at e;injection e with e;subst e;exact#[rfl,r]|some b=>rw[z]at e;cases e
  |_=>injection e with e;subst e;exact#[rfl,r]
 |tup=>cases e|lst=>cases e|lstF=>cases e|dct=>cases e
theorem Tr.int(h:Tr K F H st v t S)(e:t.vw=.sc (.int i)):v=.int i:=by let#[_,r]:=h.sc e;cases r;rfl
theorem Tr.str{i:Str}(h:Tr K F H st v t S)(e:t.vw=.sc (.str i)):v=.str i:=by let#[_,r]:=h.sc e;cases r;rfl
end
end
def Sl.t:Sl->T
 | .own t=>t|.bor t=>t
def Sl.st:Sl->Bool
 | .own _=>kf|.bor _=>kd
noncomputable abbrev Ft:=Nat->ko->Prop
structure Rl(K:QA)(F H:Hp)(S:Ft)(ρ:xA)(σ:St):Prop where
 fh:Same F H
 len:ρ.9=σ.9
 sl:∀(i:Nat) s,ρ[i]?=jr (jr s)->∃v,σ[i]?=jr (jr v)/\Tr K F H s.st v s.t (S i)
 dj:∀(i j:Nat) t s,i≠j->ρ[i]?=jr (jr (.own t))->ρ[j]?=jr (jr s)->∀b,S i b->¬ S j b
def U(ρ:xA)(S:Ft)(b:ko):Prop:=∃(i:Nat) (t:T),ρ[i]?=jr (jr (.own t))/\S i b
structure Stp(F H:Hp)(S:Ft)(ρ:xA)(F' H':Hp)(S':Ft)(ρ':xA):Prop where
 ff:Same F F'
 hh:∀b u,H b=jr u->¬ U ρ S b->H' b=jr u
 dm:∀b,H' b=kv->H b=kv
 fn:∀b,F b=kv->F' b≠kv->U ρ S b∨H b=kv
 uu:∀b,U ρ' S' b->U ρ S b∨H b=kv
 bo:∀(j:Nat) t,ρ'[j]?=jr (jr (.bor t))->t.isD=kd->ρ[j]?=jr (jr (.bor t))/\S' j=S j
structure Ste(F H:Hp)(S:Ft)(ρ:xA)(F' H':Hp)(S':Ft)(ρ':xA):Prop extends Stp F H S ρ F' H' S' ρ' where
 ow:∀(j:Nat) t,ρ'[j]?=jr (jr (.own t))->∃t0,ρ[j]?=jr (jr (.own t0))
section
variable{K:QA}{F H X m B E:Hp}{S S1 C:Ft}{ρ l A:xA}{σ:St}
section
variable{v:V}{t:T}{Z W:eB}{i:Nat}{s:Sl}{b p:ko}{vs:LN}{g:Hp}{c:Ft}{y:xA}{n:Bool}
theorem Stp.refl:Stp F H S ρ F H S ρ:=#[.refl _,λ_ _ h _=>h,λ_ h=>h,λb h z=>im h z,λ_ h=>.inl h,λ_ _ h _=>#[h,rfl]]
theorem Ste.refl:Ste F H S ρ F H S ρ:=#[Stp.refl,λ_ t h=>#[t,h]]
theorem Stp.trans(a:Stp F H S ρ X m S1 l)(b:Stp X m S1 l B E C A):Stp F H S ρ B E C A where
 ff:=a.ff.trans b.ff
 hh:=λx u h n=>b.hh x u (a.hh x u h n) λz=>by rcases a.uu x z with q|q;exact n q;rw[q]at h;cases h
 dm:=λx h=>a.dm x (b.dm x h)
 fn:=λx h z=>by
  by_cases q:X x=kv;rcases b.fn x q z with w|w
  ·exact a.uu x w
  exact .inr (a.dm x w);exact a.fn x h q
 uu:=λx h=>by rcases b.uu x h with w|w;exact a.uu x w;exact .inr (a.dm x w)
 bo:=λj t h n=>by let#[o,f]:=b.bo j t h n;let#[e,k]:=a.bo j t o n;exact#[e,f.trans k]
theorem Ste.trans(a:Ste F H S ρ X m S1 l)(b:Ste X m S1 l B E C A):Ste F H S ρ B E C A:=#[a.toStp.trans b.toStp,λj t h=>by let#[x,z]:=b.ow j t h;exact a.ow j x z]
theorem Stp.keep(s:Stp F H S ρ X m S1 l){st:Bool}(h:Tr K F H st v t Z)(n:∀b,Z b->¬ U ρ S b):Tr K X m st v t Z :=
 h.mono s.ff λb hb=>by
  let#[x,w]:=h.dom b hb;refine#[?_,?_];cases e:H b with|none=>exact im e x|some u=>exact s.hh b u e (n b hb)
  by_cases q:X b=kv
  ·exact q
  rcases s.fn b w q with z|z
  ·exact im z (n b hb)
  exact im z x
theorem Rl.dom(I:Rl K F H S ρ σ)(h:ρ[i]?=jr (jr s))(hb:S i b):H b≠kv/\F b=none:=by let#[v,_,r]:=I.sl i s h;exact r.dom b hb
theorem Rl.isD(I:Rl K F H S ρ σ)(h:ρ[i]?=jr (jr s))(x:s.t.isD=kf):¬ S i b:=by
 let#[v,_,r]:=I.sl i s h;generalize s.t=t at r x;generalize s.st=st at r;cases r with|d r n=>exact n b|_=>cases x
structure Held(F H:Hp)(S:Ft)(ρ:xA)(Z:eB):Prop where
 dom:∀b,Z b->H b≠kv/\F b=kv
 nw:∀(i:Nat) s,ρ[i]?=jr (jr s)->∀b,Z b->¬ S i b
theorem Held.nu(h:Held F H S ρ Z):∀b,Z b->¬ U ρ S b:=λb hb #[i,t,z,x]=>h.nw i _ z b hb x
theorem Held.step(h:Held F H S ρ Z)(s:Stp F H S ρ X m S1 l)(j:Rl K X m S1 l σ):Held X m S1 l Z where
 dom:=λb hb=>by
  let#[u,k]:=h.dom b hb;refine#[λz=>u (s.dm b z),?_];by_cases q:X b=kv;exact q;rcases s.fn b k q with z|z
  ·exact im z (h.nu b hb)
  exact im z u
 nw:=λi w e b hb z=>by
  cases w with
  |own t=>rcases s.uu b ⟨i,t,e,z⟩ with q|q;exact h.nu b hb q;exact(h.dom b hb).1 q
  |bor t =>
   cases x:t.isD with|true=>exact j.isD e x z|false=>let#[f,a]:=s.bo i t e x;rw[a]at z;exact h.nw i _ f b hb z
theorem Held.none:Held F H S ρ λ_=>False:=#[λ_ z=>z.elim,λ_ _ _ _ z=>z.elim]
theorem Held.or{Y:eB}(a:Held F H S ρ Z)(b:Held F H S ρ Y):Held F H S ρ λx=>Z x∨Y x:=#[λx h=>h.elim (a.dom x) (b.dom x),λi s e x h=>h.elim (a.nw i s e x) (b.nw i s e x)]
noncomputable def oJ(F H:Hp)(W:eB):Hp:=open Classical in λb=>if W b then H b else F b
theorem nJ(h:W b):oJ F H W b=H b:=a9 h
theorem fC(h:¬ W b):oJ F H W b=F b:=a8 h
theorem vH(h:∀b,W b->F b=kv):Same F (oJ F H W):=λb u e=>by rw[fC λz=>by rw[h b z]at e;cases e];exact e
theorem Te(f:Same F H):Same (oJ F H W) H:=λb u e=>by by_cases hb:W b;rw[nJ hb]at e;exact e;rw[fC hb]at e;exact f b u e
theorem Rl.frz(I:Rl K F H S ρ σ)(h:Held F H S ρ W):Rl K (oJ F H W) H S ρ σ where
 fh:=Te I.fh
 len:=I.len
 sl:=λi s e=>by let#[v,u,x]:=I.sl i s e;refine#[v,u,x.mono (vH λb hb=>(h.dom b hb).2) λb hb=>#[rfl,?_]];rw[fC λz=>h.nw i s e b z hb];exact(x.dom b hb).2
 dj:=I.dj
theorem Stp.frz(s:Stp F H S ρ X m S1 l)(x:∀b,W b->X b=kv)(fr:∀b,W b->H b=kv∨U ρ S b):Stp F H S ρ (oJ X m W) m S1 l :=
 #[s.ff.trans (vH x),s.hh,s.dm,λb h z=>by by_cases q:W b;exact(fr b q).symm;rw[fC q]at z;exact s.fn b h z,s.uu,s.bo]
theorem Ste.frz(s:Ste F H S ρ X m S1 l)(h:∀b,W b->X b=kv)(fr:∀b,W b->H b=kv∨U ρ S b):Ste F H S ρ (oJ X m W) m S1 l:=#[s.toStp.frz h fr,s.ow]
theorem Stp.new(s:Stp F H S ρ X m S1 l){p:ko}(h:m p=kv)(o:HO):Stp F H S ρ X (CA m p o) S1 l :=
 #[s.ff,λb u e n=>PB h b u (s.hh b u e n),λb e=>by by_cases hb:b=p;rw[hb,YA]at e;cases e;rw[uA hb]at e;exact s.dm b e,s.fn,s.uu,s.bo]
theorem Ste.new(s:Ste F H S ρ X m S1 l){p:ko}(h:m p=kv)(o:HO):Ste F H S ρ X (CA m p o) S1 l:=#[s.toStp.new h o,s.ow]
theorem Rl.same(I:Rl K F H S ρ σ)(h:Same H m):Rl K F m S ρ σ where
 fh:=I.fh.trans h
 len:=I.len
 sl:=λi s e=>by
  let#[v,z,x]:=I.sl i s e;refine#[v,z,x.mono (.refl _) λb hb=>#[?_,(x.dom b hb).2]];cases e:H b with|none=>exact im e (x.dom b hb).1|some u=>exact h b u e
 dj:=I.dj
theorem Rl.new(I:Rl K F H S ρ σ){p:ko}(h:H p=kv)(o:HO):Rl K F (CA H p o) S ρ σ:=I.same (PB h)
theorem Stp.newT(s:Stp F H S ρ X m S1 l)(h:m p=kv)(u:X p=kv)(o:HO):Stp F H S ρ (CA X p o) (CA m p o) S1 l :=
 let x:=s.new h o
 #[s.ff.trans (PB u),x.hh,x.dm,λb e z=>by by_cases hb:b=p;rw[hb];exact .inr (s.dm p h);rw[uA hb]at z;exact s.fn b e z,s.uu,s.bo]
theorem Ste.newT(s:Ste F H S ρ X m S1 l)(h:m p=kv)(x:X p=kv)(o:HO):Ste F H S ρ (CA X p o) (CA m p o) S1 l:=#[s.toStp.newT h x o,s.ow]
theorem Rl.newT(I:Rl K F H S ρ σ)(h:H p=kv)(o:HO):Rl K (CA F p o) (CA H p o) S ρ σ where
 fh:=λb u e=>by by_cases hb:b=p;rw[hb,YA]at e ⊢;exact e;rw[uA hb]at e ⊢;exact I.fh b u e
 len:=I.len
 sl:=λi s e=>by let#[v,k,x]:=I.sl i s e;refine#[v,k,x.mono (PB (I.fh.free h)) λb hb=>?_];have w:b≠p:=λz=>(x.dom b hb).1 (by rw[z];exact h);rw[uA w,uA w];exact#[rfl,(x.dom b hb).2]
 dj:=I.dj
theorem K3(ρ:xA)(i:Nat):(lockA ρ)[i]?=ρ[i]?.map zG:=by unfold lockA;rw[Qa]
theorem YB{ρ:xA}(h:(lockA ρ)[i]?=jr (jr s)):∃x,ρ[i]?=jr (jr x)/\s=.bor x.t:=by
 rw[K3]at h;cases e:ρ[i]? with
 |none=>rw[e]at h;cases h|some o =>
  rw[e]at h;cases o with
  |none=>cases h|some x =>
   cases x with|own t=>injection h with h;injection h with h;subst h;exact#[_,rfl,rfl]|bor t=>injection h with h;injection h with h;subst h;exact#[_,rfl,rfl]
theorem IC(b:ko):¬ U (lockA ρ) S b:=λ#[i,t,h,_]=>by let#[x,_,e]:=YB h;cases e
theorem Rl.lockA(I:Rl K F H S ρ σ):Rl K F H S (lockA ρ) σ where
 fh:=I.fh
 len:=by unfold L3.lockA;rw[QC];exact I.len
 sl:=λi s e=>by let#[x,h,rfl]:=YB e;let#[v,u,z]:=I.sl i x h;exact#[v,u,z.weak]
 dj:=λi j t s _ h=>by let#[x,_,e]:=YB h;cases e
theorem Stp.unlockA(s:Stp F H S (L3.lockA ρ) X m S1 l):Stp F H S ρ X m S ρ :=
 #[s.ff,λb u e _=>s.hh b u e (IC b),s.dm,λb h z=>(s.fn b h z).elim (λq=>im q (IC b)) .inr,λ_ h=>.inl h,λ_ _ h _=>#[h,rfl]]
theorem Rl.unlockA(I:Rl K F H S ρ σ)(s:Stp F H S (L3.lockA ρ) X m S1 l)(f:Same X m):Rl K X m S ρ σ where
 fh:=f
 len:=I.len
 sl:=λi sl e=>by let#[v,x,h]:=I.sl i sl e;exact#[v,x,s.keep h λb _=>IC b]
 dj:=I.dj
structure VR(K:QA)(vs:LN)(g:Hp)(c:Ft)(y:xA)(F H:Hp)(S:Ft)(ρ:xA)(v:V)(t:T)(n:Bool)(Z:eB):Prop where
 tr:Tr K F H n v t Z
 fr:n=kf->∀b,Z b->g b=kv∨U y c b
 tm:n=kd->∀b,Z b->∃(i:Nat) (s:Sl),i∈vs/\ρ[i]?=jr (jr s)/\S i b
 nw:n=kf->∀(i:Nat) s,ρ[i]?=jr (jr s)->∀b,Z b->¬ S i b
theorem VR.d{vs:LN}{g:Hp}{c:Ft}{y:xA}{v:V}{x:D}(n:Bool)(r:Rep K F v x):VR K vs g c y F H S ρ v (.d x) n (λ_=>False) :=
 #[.d r λ_ z=>z,λ_ _ z=>z.elim,λ_ _ z=>z.elim,λ_ _ _ _ _ z=>z.elim]
theorem VR.held(h:VR K vs g c y F H S ρ v t kf Z):Held F H S ρ Z:=#[λb hb=>h.tr.dom b hb,h.nw rfl]
theorem VR.vars{ws:LN}(h:VR K vs g c y F H S ρ v t n Z)(k:∀i∈vs,i∈ws):VR K ws g c y F H S ρ v t n Z :=
 #[h.tr,h.fr,λe b hb=>let#[i,s,z,x]:=h.tm e b hb;#[i,s,k i z,x],h.nw]
theorem VR.from(s:Stp F H S ρ X m S1 l)(h:VR K vs m S1 l B E C A v t n Z):VR K vs H S ρ B E C A v t n Z :=
 #[h.tr,λe b hb=>by rcases h.fr e b hb with q|q;exact .inl (s.dm b q);exact(s.uu b q).symm,h.tm,h.nw]
theorem VR.frz(s:Ste F H S ρ X m S1 l)(I:Rl K X m S1 l σ)(h:VR K vs H S ρ X m S1 l v t n Z) :
  ∃B o,Ste F H S ρ B m S1 l/\Rl K B m S1 l σ/\Tr K B m kd v (nA t n) o/\(KH t n=kf->Rep K B v t.er)/\(∀b,o b->∃(i:Nat) (s:Sl),i∈vs/\l[i]?=jr (jr s)/\S1 i b) /\
   ∀st a t' k,Tr K X m st a t' k->(∀b,k b->∃(i:Nat) (s:Sl),l[i]?=jr (jr s)/\S1 i b)->Tr K B m st a t' k:=by
 cases n with
 |true =>
  have w:=h.held;have j:=vH (H:=m) λb hb=>(w.dom b hb).2;have f:=h.tr.kept j λb u hb e=>by rw[nJ hb];exact e
  refine#[oJ X m Z,λ_=>False,s.frz (λb hb=>(w.dom b hb).2) (h.fr rfl),I.frz w,.d f λ_ z=>z,λ_=>f,λb z=>z.elim,λst a t' k r G=>r.mono j λb hb=>#[rfl,?_]];let#[i,Y,L,J]:=G b hb;rw[fC λz=>w.nw i Y L b z J];exact(r.dom b hb).2
 |false =>
  refine#[X,Z,s,I,h.tr,?_,h.tm rfl,λ_ _ _ _ r _=>r];intro e;have q:=h.tr;cases t with
  |d x=>cases q with|d r n=>exact r
  |_=>cases e
end
end
noncomputable abbrev dB(K:QA)(vs:LN)(F H:Hp)(S:Ft)(ρ:xA)(σ:St)(Q:TK)(R:VK):Prop :=
 ∀v z x y h t n Z,Ste F H S ρ z x y h->Rl K z x y h σ->VR K vs H S ρ z x y h v t n Z->Q t n h->R v x
noncomputable abbrev MJ(K:QA)(F H:Hp)(S:Ft)(ρ:xA)(σ:St)(Q:Bool->xA->Prop)(R:Bool->Hp->Prop):Prop :=
 ∀b z x y h,Ste F H S ρ z x y h->Rl K z x y h σ->Q b h->R b x
section
variable{K:QA}{ws:LN}{F H B A:Hp}{S S1:Ft}{ρ Y:xA}{σ:St}{v w:V}{a b:T}{J G:eB}{Q:TK}{R:VK}{E C:Bool}
section
variable{X o:Hp}{m:Ft}{u:xA}{p:ko}{vs:LV}{ds:List D}
theorem dB.from(k:dB K ws F H S ρ σ Q R)(s:Ste F H S ρ X o m u):dB K ws X o m u σ Q R:=λv f e y h t n Z x z r q=>k v f e y h t n Z (s.trans x) z (r.from s.toStp) q
theorem MJ.from{Q:Bool->xA->Prop}{R:Bool->Hp->Prop}(k:MJ K F H S ρ σ Q R)(s:Ste F H S ρ X o m u):MJ K X o m u σ Q R:=λb f e y h x z q=>k b f e y h (s.trans x) z q
theorem dB.vars{us:LN}(k:dB K ws F H S ρ σ Q R)(h:∀i∈us,i∈ws):dB K us F H S ρ σ Q R:=λv e z y x t n Z s I r q=>k v e z y x t n Z s I (r.vars h) q
theorem dB.d(k:dB K ws F H S ρ σ Q R)(s:Ste F H S ρ B A S1 Y)(I:Rl K B A S1 Y σ){x:D}{n:Bool}(r:Rep K B v x)(q:Q (.d x) n Y):R v A:=k v B A S1 Y _ n _ s I (VR.d n r) q
theorem dB.list(k:dB K ws F H S ρ σ Q R)(s:Ste F H S ρ B A S1 Y)(I:Rl K B A S1 Y σ)(x:A p=kv){ts:LT}{W:eB}(r:Trs K B A kf vs ts W)
  (fr:∀b,W b->H b=kv∨U ρ S b) (y:Held B A S1 Y W) (q:Q (.lst ts) kf Y):R (.ref p) (CA A p (.lst vs)):=by
 have g:∀b,A b≠kv->b≠p:=λb h z=>h (by rw[z];exact x);refine k _ B _ S1 Y _ kf (λb=>b=p∨W b) (s.new x _) (I.new x _) #[.lst YA (I.fh.free x) (r.mono (.refl _) λb hb=>#[?_,(y.dom b hb).2]) (λz=>(y.dom p z).1 x) (λb=>WQ),λ_ b hb=>?_,λz=>(by cases z),λ_ i f e b hb z=>?_] q;rw[uA (g b (y.dom b hb).1)];rcases hb with rfl|hb
 ·exact .inl (s.dm _ x)
 exact fr b hb;rcases hb with rfl|hb
 ·exact(I.dom e z).1 x
 exact y.nw i f e b hb z
theorem dB.listD(k:dB K ws F H S ρ σ Q R)(s:Ste F H S ρ B A S1 Y)(I:Rl K B A S1 Y σ)(h:A p=kv)(r:Reps K B vs ds)(q:Q (.lst (ds.map T.d)) kf Y):R (.ref p) (CA A p (.lst vs)) :=
 k.list s I h (Trs.of_reps r) (λb z=>z.elim) .none q
theorem dB.tupD(k:dB K ws F H S ρ σ Q R)(s:Ste F H S ρ B A S1 Y)(I:Rl K B A S1 Y σ)(h:A p=kv){n:Bool}(r:Reps K B vs ds)(q:Q (.d (.tuple ds)) n Y):R (.ref p) (CA A p (.tup vs)) :=
 dB.d k (s.newT h (I.fh.free h) _) (I.newT h _) (.tup (ED.of YA) (r.mono (PB (I.fh.free h)))) q
theorem dB.tup(k:dB K ws F H S ρ σ Q R)(s:Ste F H S ρ B A S1 Y)(I:Rl K B A S1 Y σ){p:ko}(x:A p=kv){vs:LV}{ts:LT}{W:eB}(r:Trs K B A kf vs ts W)
  (fr:∀b,W b->H b=kv∨U ρ S b) (y:Held B A S1 Y W) (q:Q (pD ts) kf Y):R (.ref p) (CA A p (.tup vs)):=by
 unfold pD at q;cases e:HG ts with
 |some ds=>rw[e]at q;exact k.tupD s I x (r.un e).1 q|none =>
  rw[e]at q;have g:∀b,A b≠kv->b≠p:=λb h z=>h (by rw[z];exact x);refine k _ B _ S1 Y _ kf (λb=>b=p∨W b) (s.new x _) (I.new x _) #[.tup YA (I.fh.free x) (r.mono (.refl _) λb hb=>#[?_,(y.dom b hb).2]) (λz=>(y.dom p z).1 x) (λb=>WQ),λ_ b hb=>?_,λz=>(by cases z),λ_ i f e b hb z=>?_] q;rw[uA (g b (y.dom b hb).1)];rcases hb with rfl|hb
  ·exact .inl (s.dm _ x)
  exact fr b hb;rcases hb with rfl|hb
  ·exact(I.dom e z).1 x
  exact y.nw i f e b hb z
theorem Gn{W:hZ}(s:Ste F H S ρ B A S1 Y)(I:Rl K B A S1 Y σ)(Z:Tr K B A E v a J)(r:Tr K B A C w b G)(h:binT W a.vw b.vw λz n=>Q z n Y)(k:dB K ws F H S ρ σ Q R):Vf K W v w A R:=by
 have g:∀{i j:Int},a.vw=.sc (.int i)->b.vw=.sc (.int j)->v=.int i/\w=.int j:=λf e=>#[Z.int f,r.int e]
 cases W with
 |Add =>
  rcases h with⟨i,j,f,e,h⟩| ⟨x,y,f,e,h⟩| ⟨P,N,ds,es,f,e,e1,e2,hl,q⟩
  let#[rfl,rfl]:=g f e;exact k.d s I (.int _) h;obtain rfl:=Z.str f;obtain rfl:=r.str e;exact#[h.1,k.d s I (.str _) h.2];let#[p,xs,_,rfl,hp,rp,_]:=Z.ls I.fh f;let#[p2,O,_,rfl,hq,rq,_]:=r.ls I.fh e;have M:=(rp.un e1).1;have L:=(rq.un e2).1;exact#[xs,O,hp,hq,by rw[M.9,L.9];exact hl,λl hl=>k.listD s I hl (M.append L) q]
 |Sub=>let#[i,j,f,e,h]:=h;let#[rfl,rfl]:=g f e;exact k.d s I (.int _) h|Mult=>let#[i,j,f,e,h]:=h;let#[rfl,rfl]:=g f e;exact#[h.1,k.d s I (.int _) h.2]|FloorDiv=>let#[i,j,f,e,h]:=h;let#[rfl,rfl]:=g f e;exact#[h.1,k.d s I (.int _) h.2]|Mod=>let#[i,j,f,e,h]:=h;let#[rfl,rfl]:=g f e;exact#[h.1,k.d s I (.int _) h.2]|_=>exact h.elim
theorem gh{x y:D}{r:Bool->Prop}(neg:Bool)(e:Rep K A v x)(z:Rep K A w y)(h:Bv x y λk=>r (if neg then !k else k))(k:∀c,r c->R (.bl c) A):rEq K neg v w A R:=by
 have n:HE x/\HE y/\r (if neg then !PyData.eqv x y else Qt x y)->(∃l f,Rep K A v l/\Rep K A w f/\HE l/\HE f/\R (.bl (if neg then !PyData.eqv l f else Qt l f)) A):=λ#[Z,s,q] =>
  #[x,y,e,z,Z,s,k _ q]
 unfold Bv at h;split at h;cases e;cases z;exact k _ h;cases e;cases z;exact k _ h;cases e;cases z;exact k _ h;have g:=n h;rename_i n1 n2 n3;cases e with
 |int i =>
  cases z with|int j=>exact im rfl (n1 i j rfl)|_=>exact g
 |str i =>
  cases z with|str j=>exact im rfl (n2 i j rfl)|_=>exact g
 |bl i =>
  cases z with|bl j=>exact im rfl (n3 i j rfl)|_=>exact g
 |_=>exact g
theorem U9{F:Hp}{v w:V}{a b:D}(x:Rep K F v a)(h:Rep K F w b)(z:aB a=kf)(y:aB b=kf):Ie v w=Qt a b:=by cases x<;>cases h<;>first|exact im (show kd=kf from z) QG|exact im (show kd=kf from y) QG | (simp only[Qt];rfl) | (simp only[Qt])
theorem eX{F:Hp}{v:V}{a:D}(h:Rep K F v a)(x:aB a=kf):cG v=true:=by cases h<;>first|rfl|exact im (show kd=kf from x) QG
theorem NU{F:Hp}(h:Reps K F vs ds)(f:ds.all aB=kf):vs.all cG=kf :=
 Reps.ind (R:=λvs ds=>ds.all aB=kf->vs.all cG=kf) (λ_=>rfl) (λh x f=>by rw[qp,Qb]at f ⊢;exact#[eX h f.1,x f.2]) h f
theorem MN{F:Hp}{v:V}{a:D}(x:Rep K F v a)(z:aB a=kf):∀{vs:LV}{ds:List D},Reps K F vs ds->ds.all aB=kf->inV v vs=ds.any λy=>Qt y a
 |_,_,.nil,_=>rfl|_,_,.cons h t,f=>by rw[qp,Qb]at f;have e:=MN x z t f.2;unfold inV at e ⊢;rw[WB,WB,U9 h x f.1 z,e]
end
mutual
theorem LY{F:Hp}:∀{k:NK}{v:V},Rep K F v (tD k)->ao K F k v
 | .s x,v,h=>by have h:Rep K F v (.str x):=h;cases h;rfl|.t ks,v,h=>by
  have h:Rep K F v (.tuple (tDs ks)):=h;cases h with|tup z y=>exact#[_,_,rfl,z,reps_key y]
theorem reps_key{F:Hp}:∀{ks:List NK}{vs:LV},Reps K F vs (tDs ks)->KyVs K F ks vs
 |[],vs,h=>by have h:Reps K F vs []:=h;cases h;rfl|k::ks,vs,h=>by
  have h:Reps K F vs (tD k::tDs ks):=h;cases h with|cons h t=>exact#[_,_,rfl,LY h,reps_key t]
end
section
variable{k x y:D}{o:HO}{ks ds:List D}{vs xs:LV}{X:Bool->Prop}{U:dy}{W:Bool->Hp->Prop}{Y:eB}{ts:LT}
theorem FR{F:Hp}{v:V}(hk:aD kf k)(r:Rep K F v k):∃q p,k=tD q/\v=.ref p/\yP K F p q:=by let#[q,rfl,h]:=hk;have r:=LY r;let#[p,_,rfl,_]:=id r;exact#[_,p,rfl,rfl,r,h]
theorem GG(q:NK):∀(kvs:List KE),dH kvs q=(cA (kvs.map λp=>tD p.1) (tD q)).bind λn=>(kvs.map (·.2.2))[n]?
 |[]=>rfl|p::r=>by rw[QX,QX];unfold cA;by_cases e:p.1=q;rw[IS e,a9 (by rw[e])];rfl;rw[jT e,a8 λz=>e (bW z),GG q r];cases cA (r.map λp=>tD p.1) (tD q)<;>rfl
theorem AJ(q:Key):∀(kvs:List (Key×V)),pM kvs q=(cA (kvs.map λp=>kD p.1) (kD q)).bind λn=>(kvs.map (·.2))[n]?
 |[]=>rfl|p::r=>by rw[QX,QX];unfold cA;by_cases e:p.1=q;rw[mM e,a9 (by rw[e])];rfl;rw[oM e,a8 λz=>e (x9 z),AJ q r];cases cA (r.map λp=>kD p.1) (kD q)<;>rfl
theorem OJ.get{a:ko}{b:Bool}(u:H1 a=jr o)(q:OJ K H1 b o ks vs)(e:Rep K H1 w k)(hk:aD b k):US K H1 a w ((cA ks k).bind λn=>vs[n]?):=by
 cases b with
 |true=>let#[v,h,rfl,rfl,rfl,g,_]:=q;let#[q,p,rfl,rfl,f]:=FR hk e;exact#[v,h,q,u,g,f,(GG q h).symm]|false =>
  let#[z,rfl]:=hk;cases e;rcases q with⟨h,_,rfl,rfl,rfl,_⟩| ⟨v,rfl,rfl,rfl⟩
  exact .inl #[h,u,(AJ (.inr z) h).symm];exact .inr #[v,u,rfl]
theorem OU{b:Bool}(q:OJ K H1 b o ks vs):((cA ks k).bind λn=>vs[n]?).isSome=(cA ks k).isSome:=by
 cases e:cA ks k with
 |none=>rfl|some n =>
  have z:=(Qi.mp (BC e)).1;have h:n<vs.length:=by rw[<- q.len];exact z
  simp[h]
theorem NR{b neg:Bool}{a:ko}(u:H1 a=jr o)(q:OJ K H1 b o ks vs)(z:Rep K H1 v x)(hk:aD b x)(h:R (.bl (if neg then !(cA ks x).isSome else(cA ks x).isSome)) H1):VT K neg v (.ref a) H1 R :=
 .inr (.inr #[_,q.get u z hk,by rw[OU q];exact h])
theorem jn{b e:Bool}(h:OJ K H1 b o [] vs):OJ K H1 e o [] []:=by
 obtain⟨u,rfl⟩:∃u,o=.dT u []:=by
  cases b with
  |true =>
   let#[u,v,a,w,_]:=h;cases v with|nil=>exact#[u,a]|cons=>cases w
  |false =>
   rcases h with⟨v,f,_,w,_⟩| ⟨u,a,_⟩
   cases v with|nil=>exact im rfl f|cons=>cases w
   exact#[u,a]
 cases e with
 |true=>exact#[u,[],rfl,rfl,rfl,λ_ z=>(nomatch z),Qq]
 |false=>exact .inr #[u,rfl,rfl,rfl]
theorem kh(neg:Bool)(z:Rep K H1 v x)(e:Rep K H1 w y)(h:Kv x y λk=>X (if neg then !k else k))(k:∀c,X c->R (.bl c) H1):VT K neg v w H1 R:=by
 unfold Kv at h;split at h;cases z;cases e;exact k _ h;rename_i ds;have u:=e;cases e with
 |lst n f =>
  rcases h.1 with⟨g,fs⟩| ⟨m,l⟩
  refine .inl #[_,_,rfl,.inl n,eX z g,NU f fs,?_];rw[MN z g f fs];exact k _ h.2;exact .inr (.inl #[_,ds,z,.inl u,m,l,k _ h.2])
 rename_i ds;have u:=e;cases e with
 |tup n f =>
  rcases h.1 with⟨g,fs⟩| ⟨m,l⟩
  refine .inl #[_,_,rfl,.inr n,eX z g,NU f fs,?_];rw[MN z g f fs];exact k _ h.2;exact .inr (.inl #[_,ds,z,.inr u,m,l,k _ h.2])
 let#[b,i,hk,q]:=h;cases e with
 |@dct p a o ks vs ds h j r =>
  have hl:ks.9=ds.length:=by rw[j.len,Reps.length r]
  rw[WI (wy hl)]at q;rcases i with i|i;cases pZ j i;exact NR h j z hk (k _ q);cases ks with
  |nil=>exact NR h (jn j) z hk (k _ q)|cons x r =>
   cases ds with|nil=>cases hl|cons y s=>cases i
 exact h.elim
theorem yR{g:Int->Int->Bool}(u:Rep K H1 v x)(z:Rep K H1 w y)(h:L1 g x y X)(k:∀c,X c->R (.bl c) H1):V1 g v w H1 R:=by unfold L1 at h;split at h;cases u;cases z;exact k _ h;exact h.elim
theorem Rep.non_iff(h:Rep K H1 v x):decide (v=.non)=g9 x:=by cases h<;>rfl
theorem FX(u:Rep K H1 v x)(z:Rep K H1 w y)(h:GX U x y X)(k:∀c,X c->R (.bl c) H1):ja K U v w H1 R:=by
 cases U with|Eq=>exact gh kd u z h k|NotEq=>exact gh kf u z h k|Lt=>exact yR u z h k|LtE=>exact yR u z h k|Gt=>exact yR u z h k|GtE=>exact yR u z h k|In=>exact kh kd u z h k|NotIn=>exact kh kf u z h k|Is=>have a:N3 x y X:=h;unfold N3 at a;split at a;cases z;have e:=u.non_iff;show R (.bl (decide (v=.non))) H1;rw[e];exact k _ a;cases z;cases u;exact#[_,rfl,k _ a];exact a.elim|IsNot=>have a:N3 x y λk=>X (!k):=h;unfold N3 at a;split at a;cases z;have e:=u.non_iff;show R (.bl (!decide (v=.non))) H1;rw[e];exact k _ a;cases z;cases u;exact#[_,rfl,k _ a];exact a.elim
theorem xf(f:Same F1 H1)(z:Rep K H1 v x)(u:Tr K F1 H1 sb w b Zb)(h:uf U x b X)(k:∀c,X c->R (.bl c) H1):ja K U v w H1 R:=by
 cases b with
 |d y=>exact FX z (u.rep f) h k|lst ts=>exact FX z (u.rep f) h k|tup ts=>exact FX z (u.rep f) h k|dct b ks ts =>
  let#[hk,h]:=h;cases u with
  |dct a e _ _ _ _ =>
   rcases h with⟨rfl,q⟩| ⟨rfl,q⟩
   exact NR (neg:=kd) a (e.mono f) z hk (k _ q);exact NR (neg:=kf) a (e.mono f) z hk (k _ q)
theorem gJ(r:Reps K F xs ds):(!ds.isEmpty)=!xs.isEmpty:=by cases r<;>rfl
theorem iY(z:Rep K H1 v x)(h:sI x X)(k:∀c,X c->W c H1):fH K v H1 W:=by
 unfold sI at h;split at h;cases z;exact k _ h;cases z;exact k _ h;cases z;exact k _ h;cases z;exact#[h.1,k _ h.2];cases z with|lst w u=>rw[gJ u]at h;exact#[_,.inl #[_,w,rfl],k _ h]
 cases z with|tup w u=>rw[gJ u]at h;exact#[_,.inr (.inl #[_,w,rfl]),k _ h]
 exact h.elim
theorem Xa(z:Rep K H1 v x)(h:An x X)(k:∀c,X c->W c H1):Ua v H1 W:=by unfold An at h;split at h;cases z;exact k _ h;exact h.elim
theorem Zm(s:Ste F H S ρ F1 H1 S1 ρ1)(I:Rl K F1 H1 S1 ρ1 σ)(n:Tr K F1 H1 sa v a Za)(C:∀b,Za b->∃(i:Nat) (s:Sl),i∈ws/\ρ1[i]?=jr (jr s)/\S1 i b)(m:Tr K F1 H1 sb w b Zb)(h:BN a.vw b.vw λz=>Q z kd ρ1)(k:dB K ws F H S ρ σ Q R):U1 K v w H1 R:=by
 rcases h with⟨z,i,c,j,g,f,e,q⟩| ⟨ts,i,d,j,g,f,q⟩| ⟨ts,i,d,j,g,f,q⟩
 obtain rfl:=n.str j;obtain rfl:=m.int g;exact#[f,c,e,k.d s I (.str _) q];let#[p,xs,E,rfl,B,l,A]:=n.ls I.fh j;obtain rfl:=m.int g;let#[x,Z,e,r,u]:=l.at f;exact#[xs,x,.inl B,e,k _ F1 H1 S1 ρ1 _ kd Z s I #[r,λz=>(by cases z),λ_ b hb=>C b (A b (u b hb)),λz=>(by cases z)] q];let#[p,xs,E,rfl,B,l,A]:=n.tp I.fh j;obtain rfl:=m.int g;let#[x,Z,e,r,u]:=l.at f;exact#[xs,x,.inr B,e,k _ F1 H1 S1 ρ1 _ kd Z s I #[r,λz=>(by cases z),λ_ b hb=>C b (A b (u b hb)),λz=>(by cases z)] q]
theorem vn(s:Ste F H S ρ F1 H1 S1 ρ1)(I:Rl K F1 H1 S1 ρ1 σ)(l:Tr K F1 H1 sa v a Za)(e:∀b,Za b->∃(i:Nat) (s:Sl),i∈ws/\ρ1[i]?=jr (jr s)/\S1 i b)(j:Rep K H1 w y)(h:yS a.vw y λz=>Q z kd ρ1)(k:dB K ws F H S ρ σ Q R):U1 K v w H1 R:=by
 let#[b,ks,ts,n,d,G,hk,C,A,q]:=h;let#[p,o,vs,L,rfl,B,J,f,m,_]:=l.dc I.fh G;let#[x,Z,E,r,u]:=f.get A;have g:=(J.mono I.fh).get B j hk;rw[C]at g;have g:US K H1 p w (vs[n]?):=g;rw[E]at g;have fin:=k _ F1 H1 S1 ρ1 _ kd Z s I #[r,λz=>(by cases z),λ_ b hb=>e b (m b (u b hb)),λz=>(by cases z)] q;cases w with|str z=>exact#[x,g,fin]|ref c=>exact#[x,g,fin]|_=>exact g.elim
theorem Reps.cut(r:Reps K F xs ds)(h z:Option Int):Reps K F (m4 xs h z) (eJ ds h z):=by unfold m4 eJ;rw[r.9];exact(r.drop _).take _
theorem Jj{b f:Option Int}(s:Ste F H S ρ F1 H1 S1 ρ1)(I:Rl K F1 H1 S1 ρ1 σ)(w:Tr K F1 H1 sa v a Za)(h:kK a.vw b f λz n=>Q z n ρ1)(k:dB K ws F H S ρ σ Q R):Lw K v b f H1 R:=by
 rcases h with⟨z,u,h⟩| ⟨ts,ds,u,e,q⟩
 obtain rfl:=w.str u;exact#[h.1,k.d s I (.str _) h.2];let#[p,xs,_,rfl,i,g,_]:=w.ls I.fh u;exact#[p,xs,rfl,i,λl hl=>k.listD s I hl ((g.un e).1.cut _ _) q]
theorem Ec{P:Option Int->Prop}{z:Option Int->Hp->Prop}(u:Rep K H1 v x)(h:EF x P)(k:∀o,P o->z o H1):bN v H1 z:=by unfold EF at h;split at h;cases u;exact k _ h;exact h.elim
inductive Tn(K:QA)(F H:Hp)(Y:eB):LV->LT->Prop where
 |nil:Tn K F H Y [] []
 |cons {v:V}{t:T}{vs:LV}{ts:LT}{Z:eB}:Tr K F H kd v t Z->(∀b,Z b->Y b)->Tn K F H Y vs ts->Tn K F H Y (v::vs) (t::ts)
theorem gM(ts:LT):∀{xs:List (T×Bool)},CO xs=ts->CB xs=ts.map T.vw
 |[],h=>by subst h;rfl|p::r,h=>by subst h;simp only[CB,CO,QX,gM _ rfl]
theorem Tn.one{x:Vw}(h:Tn K F H Y vs ts)(e:ts.map T.vw=[x]):∃v t Z,vs=[v]/\ts=[t]/\t.vw=x/\Tr K F H kd v t Z/\∀b,Z b->Y b:=by
 cases h with
 |nil=>cases e|cons r z t =>
  simp only[QX,Wc]at e;cases t with|nil=>exact#[_,_,_,rfl,rfl,e.1,r,z]|cons _ _ _=>simp at e
theorem Tn.two{x y:Vw}(h:Tn K F H Y vs ts)(e:ts.map T.vw=[x,y]):∃v w t u Z a,vs=[v,w]/\ts=[t,u]/\t.vw=x/\u.vw=y/\Tr K F H kd v t Z/\Tr K F H kd w u a/\(∀b,Z b->Y b)/\(∀b,a b->Y b):=by
 cases h with|nil=>cases e|cons r z t=>simp only[QX,Wc]at e;let#[v,u,a,rfl,rfl,i,g,f]:=t.one e.2;exact#[_,_,_,_,_,_,rfl,rfl,e.1,i,r,g,z,f]
theorem vK:∀{xs:LV}{z:LS},Reps K F xs (z.map j0)->xs=z.map V.str
 |_,[],.nil=>rfl|_,y::z,.cons h t=>by cases h;rw[QX,vK t]
theorem uP:∀(h:LS),Reps K F (h.map V.str) (h.map j0)
 |[]=>.nil|y::h=>.cons (.str y) (uP h)
theorem BU:∀{xs:LV}{z:LJ},Reps K F xs (z.map j1)->xs=z.map V.int
 |_,[],.nil=>rfl|_,y::z,.cons h t=>by cases h;rw[QX,BU t]
theorem CP:∀(h:LJ),Reps K F (h.map V.int) (h.map j1)
 |[]=>.nil|y::h=>.cons (.int y) (CP h)
theorem Y1{α:Type}{g:α->D}{u:LV}(s:xs.Perm u):∀{l:List α},Reps K F xs (l.map g)->∃z:List α,z.Perm l/\Reps K F u (z.map g):=by
 induction s with
 |nil=>intro l r;exact#[l,QBa _,r]|cons x _ m =>
  intro l r;cases l with
  |nil=>cases r|cons a l=>cases r with|cons h t=>let#[z,p,v]:=m t;exact#[a::z,p.cons _,.cons h v]
 |swap x y B =>
  intro l r;cases l with
  |nil=>cases r|cons a l=>cases l with
   |nil=>cases r with|cons h t=>cases t
   |cons b l=>cases r with
    |cons h t=>cases t with|cons Z t=>exact#[b::a::l,List.Perm.swap _ _ _,.cons Z (.cons h t)]
 |trans _ _ q n=>intro l r;let#[A,i,e]:=q r;let#[j,f,w]:=n e;exact#[j,f.trans i,w]
theorem tW{ls:List (LS)}(h:Reps K F xs (ls.map NC)):∀x∈xs,∃a,∃u:LS,x=.ref a/\nC K F a (u.map V.str):=by
 induction ls generalizing xs with
 |nil=>cases h;exact λ_ z=>nomatch z
 |cons l ls v =>
  cases h with
  |cons r t =>
   intro x h;rcases QK.mp h with e|h;subst e;cases r with|lst q r=>exact#[_,l,rfl,by rw[<- vK r];exact q]
   exact v t x h
theorem Rn{O:Bi}(s:Ste F H S ρ F1 H1 S1 ρ1)(I:Rl K F1 H1 S1 ρ1 σ)(m:Tn K F1 H1 Y vs ts)(h:uY O (ts.map T.vw) λz n=>Q z n ρ1)(k:dB K ws F H S ρ σ Q R):gu K O vs H1 R:=by
 cases O with
 |len =>
  rcases h with⟨z,e,h⟩| ⟨A,e,h⟩| ⟨A,e,h⟩
  let#[v,t,Z,rfl,rfl,e,r,_]:=m.one e;obtain rfl:=r.str e;exact .inl #[_,rfl,h.1,k.d s I (.int _) h.2];let#[v,t,Z,rfl,rfl,e,r,_]:=m.one e;let#[p,xs,_,rfl,b,f,_]:=r.ls I.fh e;exact .inr #[_,xs,rfl,.inl b,by rw[f.9];exact k.d s I (.int _) h];let#[v,t,Z,rfl,rfl,e,r,_]:=m.one e;let#[p,xs,_,rfl,b,f,_]:=r.tp I.fh e;exact .inr #[_,xs,rfl,.inr b,by rw[f.9];exact k.d s I (.int _) h]
 |any=>let#[A,bs,e,hb,q]:=h;let#[v,t,Z,rfl,rfl,e,r,_]:=m.one e;let#[p,xs,_,rfl,b,f,_]:=r.ls I.fh e;obtain rfl:=(f.un hb).1.bools;exact#[bs,b,k.d s I (.bl _) q]|list=>let#[A,ds,e,hb,q]:=h;let#[v,t,Z,rfl,rfl,e,r,_]:=m.one e;let#[p,xs,_,rfl,b,f,_]:=r.ls I.fh e;exact#[_,xs,rfl,.inl b,λl hl=>k.listD s I hl (f.un hb).1 q]|min=>let#[i,j,e,q]:=h;let#[v,w,t,u,Z1,Z2,rfl,rfl,e1,e2,L,P,_]:=m.two e;obtain rfl:=L.int e1;obtain rfl:=P.int e2;exact#[i,j,rfl,k.d s I (.int _) q]|sorted =>
  rcases h with⟨A,G,e,hb,g,q⟩| ⟨A,ls,e,hb,g,q⟩| ⟨A,ns,e,hb,g,q⟩
  let#[v,t,Z,rfl,rfl,e,r,_]:=m.one e;let#[p,xs,_,rfl,b,f,_]:=r.ls I.fh e;obtain rfl:=vK (f.un hb).1;exact#[_,rfl,.inl #[G,b,g,λl B hl C M=>k.listD s I hl (uP B) (q B C M)]];let#[v,t,Z,rfl,rfl,e,r,_]:=m.one e;let#[p,xs,_,rfl,b,f,_]:=r.ls I.fh e;have J:=(f.un hb).1;refine#[_,rfl,.inr (.inl #[xs,b,by rw[Reps.length J,QC];exact g,λx hx=>?_,λl ys hl b=>?_])];let#[a,G,e,sq]:=tW J x hx;exact#[a,G,e,I.fh.seq sq];let#[N,C,L]:=Y1 b.symm J;exact k.listD s I hl L (q N C);let#[v,t,Z,rfl,rfl,e,r,_]:=m.one e;let#[p,xs,_,rfl,b,f,_]:=r.ls I.fh e;obtain rfl:=BU (f.un hb).1;exact#[_,rfl,.inr (.inr #[ns,b,g,λl E hl C M=>k.listD s I hl (CP E) (q E C M)])]
 |tuple=>let#[A,ds,e,hb,q]:=h;let#[v,t,Z,rfl,rfl,e,r,_]:=m.one e;let#[p,xs,_,rfl,b,f,_]:=r.ls I.fh e;exact#[_,xs,rfl,b,λl hl=>k.tupD s I hl (f.un hb).1 q]
theorem Ml{m:Mt}(s:Ste F H S ρ F1 H1 S1 ρ1)(I:Rl K F1 H1 S1 ρ1 σ)(w:Tr K F1 H1 sa v a Za)(b:Tn K F1 H1 Y vs ts)(h:Jv m a.vw (ts.map T.vw) λz n=>Q z n ρ1)(k:dB K ws F H S ρ σ Q R):ge K m v vs H1 R:=by
 cases m with|index=>let#[z,y,i,u,g,e,f,q]:=h;obtain rfl:=w.str g;let#[v,t,Z,rfl,rfl,e,r,_]:=b.one e;obtain rfl:=r.str e;exact#[z,y,i,u,rfl,rfl,f,k.d s I (.int _) q]|_=>exact h.elim
theorem Cs{x:Vw}(h:x.isS=kf):∃z,x=.sc (.str z):=by
 cases x with
 |sc d=>cases d with|str z=>exact#[z,rfl]|_=>exact(QG h).elim
 |_=>exact(QG h).elim
theorem Dr{m:Mt}(u:Tr K F1 H1 sa v a Za)(h:B8 m a.vw=kf):M4 K m.ty v H1:=by
 have h:=vA h;let#[z,w]:=Cs h.1;obtain rfl:=u.str w;cases m with|index=>rfl|_=>exact(QG h.2).elim
end
end
inductive AV(K:QA)(F H:Hp):List Md->LV->List (T×Bool)->(ko->Prop)->(ko->Prop)->Prop where
 |nil {md:List Md}{W Y:eB}:(∀b,¬ W b)->AV K F H md [] [] W Y
 |chg {md:List Md}{v:V}{vs:LV}{x:T}{xs:List (T×Bool)}{W Y:eB}:(md.headD .fro).isMut=kf->AV K F H md.tail vs xs W Y->AV K F H md (v::vs) ((x,kf)::xs) W Y
 |new {md:List Md}{v:V}{vs:LV}{x:T}{xs:List (T×Bool)}{Z W W' Y:eB}:(md.headD .fro).isMut=kd->Tr K F H kf v x Z->AV K F H md.tail vs xs W' Y->(∀b,Z b->¬ W' b)->(∀b,W b↔Z b∨W' b) ->
   AV K F H md (v::vs) ((x,kf)::xs) W Y
 |tmp {md:List Md}{v:V}{vs:LV}{x:T}{xs:List (T×Bool)}{Z W Y:eB}:(md.headD .fro).isMut=kd->Tr K F H kd v x Z->(∀b,Z b->Y b)->AV K F H md.tail vs xs W Y ->
   AV K F H md (v::vs) ((x,kd)::xs) W Y
section
variable{K:QA}{F H o l:Hp}{S S1:Ft}{ρ g:xA}{σ:St}
section
variable{Y W:eB}{md:List Md}{vs:LV}{xs:List (T×Bool)}{ws:LN}{c:Hp}{w:Ft}{y:xA}
theorem AV.sub{u:eB}(h:AV K F H md vs xs W Y)(k:∀b,Y b->u b):AV K F H md vs xs W u:=by
 induction h with|nil h=>exact .nil h|chg h t x=>exact .chg h (x k)|new h r t n q x=>exact .new h r (x k) n q|tmp h r z t x=>exact .tmp h r (λb hb=>k b (z b hb)) (x k)
theorem AV.dom(h:AV K F H md vs xs W Y):∀b,W b->H b≠kv/\F b=none:=by
 induction h with|nil h=>exact λb hb=>im hb (h b)|chg h t x=>exact x|new h r t n q x=>exact λb hb=>((q b).mp hb).elim (r.dom b) (x b)|tmp h r z t x=>exact x
theorem AV.length(h:AV K F H md vs xs W Y):vs.9=xs.length:=by
 induction h with|nil h=>rfl|chg h t x=>simp[x]|new h r t n q x=>simp[x]|tmp h r z t x=>simp[x]
theorem AV.trs(h:AV K F H md vs xs W Y):(∀(i:Nat),(md.getD i .fro).isMut=kd)->UE xs=kf->Trs K F H kf vs (DF xs) W:=by
 induction h with
 |nil h=>exact λ_ _=>.nil h|@chg md _ _ _ _ _ _ h t u =>
  intro m;have:=m 0;cases md with|nil=>cases h|cons a r=>exact im h (by simpa using this)
 |@new md v vs x xs Z W k Y h r t n q u =>
  intro m e;simp only[UE,Qb]at e;exact .cons r (u (λi=>by cases md with|nil=>exact m i|cons a md=>exact m (i+1)) e.2) n q
 |@tmp md v vs x xs Z W Y h r z t u =>
  intro m e;simp only[UE,Qb]at e;refine .cons (S1:=λ_=>False) ?_ (u (λi=>by cases md with|nil=>exact m i|cons a md=>exact m (i+1)) e.2) (λ_ z=>z.elim) λb=>by simp
  cases x with
  |d x=>cases r with|d r n=>exact .d r λ_ z=>z
  |_=>exact im e.1 (by simp[KH,T.isD])
theorem Bl(i:Nat):((([]:List Md).getD i .fro).isMut)=false:=rfl
theorem AV.tn(h:AV K F H md vs xs W Y)(e:Same F o)(k:∀b,W b->o b=H b)(f:∀b,Y b->F b=kv->o b=kv)(i:md=[]):Tn K o H Y vs (CO xs):=by
 induction h with|nil h=>exact .nil|chg h t a=>subst i;cases h|@new md v vs x xs Z W m Y h r t n q a=>subst i;refine .cons (Z:=λ_=>False) ?_ (λb z=>z.elim) (a (λb hb=>k b ((q b).mpr (.inr hb))) f rfl);exact .d (r.kept e λb u hb j=>by rw[k b ((q b).mpr (.inl hb))];exact j) λ_ z=>z|@tmp md v vs x xs Z W Y h r z t a=>subst i;exact .cons (r.mono e λb hb=>#[rfl,f b (z b hb) (r.dom b hb).2]) z (a k f rfl)
structure AR(K:QA)(ws:LN)(md:List Md)(c:Hp)(w:Ft)(y:xA)(F H:Hp)(S:Ft)(ρ:xA)(vs:LV)(xs:List (T×Bool))(W Y:eB):Prop where
 av:AV K F H md vs xs W Y
 fr:∀b,W b->c b=kv∨U y w b
 tm:∀b,Y b->∃(i:Nat) (s:Sl),i∈ws/\ρ[i]?=jr (jr s)/\S i b
 nw:∀(i:Nat) s,ρ[i]?=jr (jr s)->∀b,W b->¬ S i b
theorem AR.held(h:AR K ws md c w y F H S ρ vs xs W Y):Held F H S ρ W:=#[h.av.dom,h.nw]
theorem AR.from{v u:Hp}{z:Ft}{x:xA}(s:Stp F H S ρ o l S1 g)(h:AR K ws md l S1 g v u z x vs xs W Y):AR K ws md H S ρ v u z x vs xs W Y :=
 #[h.av,λb hb=>by rcases h.fr b hb with q|q;exact .inl (s.dm b q);exact(s.uu b q).symm,h.tm,h.nw]
theorem AR.vars{us:LN}(h:AR K ws md c w y F H S ρ vs xs W Y)(k:∀i∈ws,i∈us):AR K us md c w y F H S ρ vs xs W Y :=
 #[h.av,h.fr,λb hb=>let#[i,s,z,x]:=h.tm b hb;#[i,s,k i z,x],h.nw]
theorem AR.frz(s:Ste F H S ρ o l S1 g)(I:Rl K o l S1 g σ)(h:AR K ws [] H S ρ o l S1 g vs xs W Y) :
  ∃v,Ste F H S ρ v l S1 g/\Rl K v l S1 g σ/\Tn K v l Y vs (CO xs) /\
   ∀st k t' u,Tr K o l st k t' u->(∀b,u b->∃(i:Nat) (s:Sl),g[i]?=jr (jr s)/\S1 i b)->Tr K v l st k t' u:=by
 have x:=h.held;have f:=vH (H:=l) λb hb=>(x.dom b hb).2;refine#[oJ o l W,s.frz (λb hb=>(x.dom b hb).2) h.fr,I.frz x,h.av.tn f (λb hb=>nJ hb) (λb m n=>?_) rfl,λst k t' u r j=>r.mono f λb hb=>#[rfl,?_]];let#[i,a,_,e,p]:=h.tm b m;rw[fC λz=>h.nw i a e b z p];exact n;let#[i,a,q,e]:=j b hb;rw[fC λz=>x.nw i a q b z e];exact(r.dom b hb).2
noncomputable def tB:List Md->LV->LV
 |_,[]=>[]|md,v::vs=>match md.headD .fro with
  | .chg=>v::tB md.tail vs|_=>tB md.tail vs
noncomputable abbrev Mu(K:QA)(p:PX)(md:List Md)(F H:Hp)(S:Ft)(ρ:xA)(σ:St)(Q:List (T×Bool)->xA->Prop)(R:LV->Hp->Prop):Prop :=
 ∀vs u x z h xs W Y,Ste F H S ρ u x z h->Rl K u x z h σ->AR K (GF p) md H S ρ u x z h vs xs W Y->(tB md vs).map (λv=>jr (jr v))=(bA md p).map (λj=>σ[j]?)->Q xs h->R vs x
def iu(K:QA)(F H:Hp)(x:XD)(h:Option ko):Prop:=∃a fs,h=jr a/\H a=jr (.xd fs)/\x0 (λ(p:Str×V) (q:Str×D)=>p.1=q.1/\Rep K F p.2 q.2) fs x.2
def YF(K:QA)(F H:Hp)(S:Ft)(ρ:xA)(E:XE)(a:XK):Prop:=∀x v u h k z,Stp F H S ρ u h k z->Same u h->iu K u h x v->E x->a x.1 v h
theorem YF.from{E:XE}{u:XK}(h:YF K F H S ρ E u)(s:Stp F H S ρ o l S1 g):YF K o l S1 g E u:=λx k e b a z v f r q=>h x k e b a z (s.trans v) f r q
theorem YF.never:YF K F H S ρ (λ_=>False) (λ_ _ _=>False):=λ_ _ _ _ _ _ _ _ _ z=>z
inductive ArgsR(K:QA)(F H:Hp)(Y:eB):List Md->LV->LT->Prop where
 |nil {md:List Md}:ArgsR K F H Y md [] []
 |chg {md:List Md}{v:V}{vs:LV}{t:T}{ts:LT}:md.headD .fro=.chg->ArgsR K F H Y md.tail vs ts->ArgsR K F H Y md (v::vs) (t::ts)
 |rd {md:List Md}{v:V}{vs:LV}{t:T}{ts:LT}{Z:eB}:md.headD .fro≠.chg->Tr K F H kd v t Z->(∀b,Z b->Y b)->ArgsR K F H Y md.tail vs ts->ArgsR K F H Y md (v::vs) (t::ts)
structure Frm(M:eB)(F H F' H':Hp):Prop where
 ff:Same F F'
 fh:Same F' H'
 hh:∀b u,H b=jr u->¬ M b->H' b=jr u
 dm:∀b,H' b=kv->H b=kv
 fn:∀b,F b=kv->F' b≠kv->M b∨H b=kv
def lift(K:QA)(P:PSp):Sp:=λvs H Q E=>∃(F:Hp) (u:LT) (M Y:eB),Same F H/\ArgsR K F H Y P.md vs u/\Trs K F H kf (tB P.md vs) (LB P.md u) M/\(∀b,Y b->¬ M b) /\
 P.run u (λr e=>∀v z h Z k,Frm M F H z h->Tr K z h kf v r Z->Trs K z h kf (tB P.md vs) e k->(∀b,Z b->¬ k b)->(∀b,Z b∨k b->M b∨H b=kv)->Q v h)
  (λx=>∀a z h,Frm M F H z h->iu K z h x a->E x.1 a h)
structure GOk(K:QA)(Γ:Ev)(Ψ:PEv):Prop where
 sp:∀f vs H Q E,lift K (Ψ.sp f) vs H Q E->Γ.sp f vs H Q E
 va:∀x d,Ψ.va x=jr d->∀F,Rep K F (Γ.va x) d
structure PSnd(K:QA)(Γ:Ev)(Ψ:PEv)(p:PX):Prop where
 e:∀{E:XE}{EK:XK}{F H:Hp}{S:Ft}{ρ:xA}{σ:St}{Q:TK}{R:VK},Rl K F H S ρ σ->YF K F H S ρ E EK->(pe Ψ p E).e ρ Q->dB K (GF p) F H S ρ σ Q R->(wp K Γ p EK).e σ H R
 t:∀{E:XE}{EK:XK}{F H:Hp}{S:Ft}{ρ:xA}{σ:St}{Q:Bool->xA->Prop}{R:Bool->Hp->Prop},Rl K F H S ρ σ->YF K F H S ρ E EK->(pe Ψ p E).t ρ Q->MJ K F H S ρ σ Q R->(wp K Γ p EK).t σ H R
 a:∀{E:XE}{EK:XK}{F H:Hp}{S:Ft}{ρ:xA}{σ:St}{md:List Md}{Q:List (T×Bool)->xA->Prop}{R:LV->Hp->Prop},Rl K F H S ρ σ->YF K F H S ρ E EK->(∀j∈bA md p,∃v,σ[j]?=jr (jr v))->(pe Ψ p E).a md ρ Q->Mu K p md F H S ρ σ Q R->(wp K Γ p EK).a σ H R
end
end
section
variable{K:QA}{Γ:Ev}{Ψ:PEv}{E:XE}{c:XK}{F H A U:Hp}{S S1:Ft}{ρ o:xA}{σ:St}
section
variable{b a u:PX}{RR:LV->Hp->Prop}{P:List (T×Bool)->xA->Prop}{Y Z:eB}{t:T}{st:Bool}{ts:LT}{v:V}
theorem oq(N:PSnd K Γ Ψ b)(I:Rl K F H S ρ σ)(X:YF K F H S ρ E c){x:T}{P:T×Bool->xA->Prop}{RR:VK}(h:sq x ρ (cu (pe Ψ b E).e) P)
  (M:∀w p g S' k y m Z,Ste F H S ρ p g S' k->Rl K p g S' k σ->(∀st v l,Tr K F H st v x l->Tr K p g st v x l)->(x.isD=kd->k=ρ/\S'=S)->VR K (GF b) H S ρ p g S' k w y m Z->P (y,m) k->RR w g) :
  (wp K Γ b c).e σ H RR:=by
 unfold sq at h;cases W:x.isD with
 |true =>
  rw[W,a9 rfl]at h;refine N.e I X h λw p g S' k y m Z s C r q=>M w p g S' k y m Z s C (λst v l B=>?_) (λz=>(by rw[W]at z;cases z)) r q;cases x with
  |d x=>cases B with|d r n=>exact .d (r.mono s.ff) n
  |_=>cases W
 |false =>
  rw[W,a8 (by simp)]at h;have X':YF K F H S (lockA ρ) E c:=λx dx F2 H2 S2 O Q f r q=>X x dx F2 H2 S ρ Q.unlockA f r q;refine N.e I.lockA X' h λw p g S' k y m Z s C r q=>?_;have kp:∀st v t l,Tr K F H st v t l->Tr K p g st v t l:=λst v t l B=>s.keep B λb _=>IC b;refine M w p g S ρ y m Z #[s.unlockA,λj t h=>#[t,h]] (I.unlockA s.toStp C.fh) (λst v l B=>kp st v _ l B) (λ_=>#[rfl,rfl]) #[r.tr,λe b hb=>?_,λe b hb=>?_,λe i L hi b hb z=>?_] q;exact .inl ((r.fr e b hb).elim id λz=>im z (IC b));let#[i,L,h1,J,G]:=r.tm e b hb;cases L with
  |own t=>let#[t0,h0]:=s.ow i t J;let#[_,_,e0]:=YB h0;cases e0|bor t =>
   cases W:t.isD with|true=>exact im G (C.isD J W)|false=>let#[g1,g2]:=s.bo i t J W;let#[R,g3,_]:=YB g1;rw[g2]at G;exact#[i,R,h1,g3,G]
  rcases r.fr e b hb with q|q
  ·exact(I.dom hi z).1 q
  exact im q (IC b)
theorem pq{md:List Md}(O:PSnd K Γ Ψ b)(I:Rl K F H S ρ σ)(X:YF K F H S ρ E c)(Q:∀j∈bA md b,∃v,σ[j]?=jr (jr v)){x:T}(h:sq x ρ ((pe Ψ b E).a md) P)
  (N:∀ws l e S' k L W Y,Ste F H S ρ l e S' k->Rl K l e S' k σ->(∀st v g,Tr K F H st v x g->Tr K l e st v x g)->(x.isD=kd->k=ρ/\S'=S)->AR K (GF b) md H S ρ l e S' k ws L W Y->(tB md ws).map (λv=>jr (jr v))=(bA md b).map (λj=>σ[j]?)->P L k->RR ws e) :
  (wp K Γ b c).a σ H RR:=by
 unfold sq at h;cases m:x.isD with
 |true =>
  rw[m,a9 rfl]at h;refine O.a I X Q h λw l e S' k y W Y s B r C q=>N w l e S' k y W Y s B (λst v g p=>?_) (λz=>(by rw[m]at z;cases z)) r C q;cases x with
  |d x=>cases p with|d r n=>exact .d (r.mono s.ff) n
  |_=>cases m
 |false =>
  rw[m,a8 (by simp)]at h;have X':YF K F H S (lockA ρ) E c:=λx dx F2 H2 S2 R s2 f r q=>X x dx F2 H2 S ρ s2.unlockA f r q;refine O.a I.lockA X' Q h λw l e S' k y W Y s B r C q=>?_;have kp:∀st v t g,Tr K F H st v t g->Tr K l e st v t g:=λst v t g p=>s.keep p λb _=>IC b;refine N w l e S ρ y W Y #[s.unlockA,λj t h=>#[t,h]] (I.unlockA s.toStp B.fh) (λst v g p=>kp st v _ g p) (λ_=>#[rfl,rfl]) #[r.av,λb hb=>?_,λb hb=>?_,λi M hi b hb z=>?_] C q;exact .inl ((r.fr b hb).elim id λz=>im z (IC b));let#[i,M,h1,J,G]:=r.tm b hb;cases M with
  |own t=>let#[t0,h0]:=s.ow i t J;let#[_,_,e0]:=YB h0;cases e0|bor t =>
   cases m:t.isD with|true=>exact im G (B.isD J m)|false=>let#[g1,g2]:=s.bo i t J m;let#[s0,g3,_]:=YB g1;rw[g2]at G;exact#[i,s0,h1,g3,G]
  rcases r.fr b hb with q|q
  ·exact(I.dom hi z).1 q
  exact im q (IC b)
theorem UF(l:PSnd K Γ Ψ a)(I:Rl K F H S ρ σ)(X:YF K F H S ρ E c){P:TK}{RR:VK}(h:(pe Ψ a E).e ρ P)
  (j:∀v w z S' y x n Z,Ste F H S ρ w z S' y->Rl K w z S' y σ->YF K w z S' y E c->Tr K w z kd v (nA x n) Z->(KH x n=kf->Rep K w v x.er)->(∀b,Z b->∃(i:Nat) (s:Sl),i∈GF a/\y[i]?=jr (jr s)/\S' i b)->P x n y->RR v z) :
  (wp K Γ a c).e σ H RR:=by
 refine l.e I X h λv w z S' y x n Z s B r q=>?_;let#[C,p,k,W,g,m,f,_]:=r.frz s B;exact j v C z S' y x n p k W (X.from k.toStp) g m f q
theorem P5(ia:PSnd K Γ Ψ a)(ib:PSnd K Γ Ψ b)(I:Rl K F H S ρ σ)(X:YF K F H S ρ E c){P:T->Bool->T->Bool->xA->Prop}{RR:V->V->Hp->Prop}
  (h:(pe Ψ a E).e ρ λx n o=>sq (nA x n) o (cu (pe Ψ b E).e) λy k=>P x n y.1 y.2 k)
  (kk:∀v w l f S' z x n y m j Zb,Ste F H S ρ l f S' z->Rl K l f S' z σ->YF K l f S' z E c->Tr K l f kd v (nA x n) j->(∀b,j b->∃(i:Nat) (s:Sl),i∈GF a/\z[i]?=jr (jr s)/\S' i b)->Tr K l f kd w (nA y m) Zb ->
   P x n y m z->RR v w f):(wp K Γ a c).e σ H λv U=>(wp K Γ b c).e σ U λw W=>RR v w W:=by
 refine UF ia I X h λv A U S1 o x n j M I1 X1 p _ G R=>?_;refine oq ib I1 X1 R λw F2 W C k y m Z L I2 kp hs O Q=>?_;let#[F3,Z3,J,I3,N,_,_,k3]:=O.frz L I2;have B:∀b,j b->∃(i:Nat) (s:Sl),i∈GF a/\k[i]?=jr (jr s)/\C i b:=by
  cases q:(nA x n).isD with
  |true =>
   intro b hb;exfalso;generalize nA x n=t at p q;cases p with|d r n=>exact n b hb|_=>cases q
  |false=>let#[e1,e2]:=hs q;rw[e1,e2];exact G
 have g:=M.trans J;exact kk v w F3 W C k x n y m j Z3 g I3 (X.from g.toStp) (k3 _ _ _ _ (kp _ _ _ p) λb hb=>let#[i,s,_,h2]:=B b hb;#[i,s,h2]) B N Q
theorem cY(e:PSnd K Γ Ψ u)(I:Rl K F H S ρ σ)(X:YF K F H S ρ E c)(h:(pe Ψ u E).a [] ρ P)
  (k:∀vs z y S' x xs Y,Ste F H S ρ z y S' x->Rl K z y S' x σ->YF K z y S' x E c->Tn K z y Y vs (CO xs)->(∀b,Y b->∃(i:Nat) (s:Sl),i∈GF u/\x[i]?=jr (jr s)/\S' i b)->P xs x->RR vs y):(wp K Γ u c).a σ H RR:=by
 refine e.a (md:=[]) I X (λj f=>by cases u<;>cases f) h λvs z y S' x xs W Y s l r _ q=>?_;let#[m,w,g,t,_]:=r.frz s l;exact k vs m y S' x xs Y w g (X.from w.toStp) t r.tm q
theorem jq(ia:PSnd K Γ Ψ a)(ib:PSnd K Γ Ψ u)(I:Rl K F H S ρ σ)(X:YF K F H S ρ E c){P1:T->Bool->Prop}{P:T->Bool->List (T×Bool)->xA->Prop}{R1:V->Hp->Prop}{RR:V->LV->Hp->Prop}
  (h:(pe Ψ a E).e ρ λx n o=>P1 x n/\sq (nA x n) o ((pe Ψ u E).a []) λxs z=>P x n xs z)
  (k1:∀v f w x n k,Tr K f w kd v (nA x n) k->P1 x n->R1 v w)
  (kk:∀v vs f w S' y x n xs k Y,Ste F H S ρ f w S' y->Rl K f w S' y σ->YF K f w S' y E c->Tr K f w kd v (nA x n) k->(∀b,k b->∃(i:Nat) (s:Sl),i∈GF a/\y[i]?=jr (jr s)/\S' i b)->Tn K f w Y vs (CO xs) ->
   P x n xs y->RR v vs w):(wp K Γ a c).e σ H λv U=>R1 v U/\(wp K Γ u c).a σ U λvs p=>RR v vs p:=by
 refine UF ia I X h λv A U S1 o x n k L I1 X1 l _ C #[Q,O]=>#[k1 v A U x n k l Q,?_]
 refine pq ib I1 X1 (λj hj=>by cases u<;>cases hj) O λvs F2 p B z xs W Y J I2 R hs M _ N=>?_;let#[F3,G,I3,tn,k3]:=M.frz J I2;have q:∀b,k b->∃(i:Nat) (s:Sl),i∈GF a/\z[i]?=jr (jr s)/\B i b:=by
  cases m:(nA x n).isD with
  |true =>
   intro b hb;exfalso;generalize nA x n=t at l m;cases l with|d r n=>exact n b hb|_=>cases m
  |false=>let#[e1,e2]:=hs m;rw[e1,e2];exact C
 have g:=L.trans G;exact kk v vs F3 p B z x n xs k Y g I3 (X.from g.toStp) (k3 _ _ _ _ (R _ _ _ l) λb hb=>let#[i,s,_,h2]:=q b hb;#[i,s,h2]) q tn N
def G4(K:QA)(F H:Hp)(Y:eB):Item->T->Prop
 | .one v,t=>∃Z,Tr K F H kd v t Z/\∀b,Z b->Y b|.tup vs,t=>∃h,t=.d (.tuple h)/\Reps K F vs h
theorem G4.mono{it:Item}(h:G4 K F H Y it t)(e:Same F A)(k:∀b,Y b->U b=H b/\A b=kv):G4 K A U Y it t:=by
 cases it with|one v=>let#[Z,r,z]:=h;exact#[Z,r.mono e λb hb=>k b (z b hb),z]|tup y=>let#[ts,x,r]:=h;exact#[ts,x,r.mono e]
theorem dX{xs:LV}(h:Trs K F H st xs ts Z)(z:∀b,Z b->Y b):x0 (G4 K F H Y) (xs.map .one) ts :=
 Trs.ind (R:=λ_ xs ts Z=>(∀b,Z b->Y b)->x0 (G4 K F H Y) (xs.map .one) ts) (λ_ _=>.nil) (λh _ _ q x z=>.cons #[_,h.weak,λb hb=>z b ((q b).mpr (.inl hb))] (x λb hb=>z b ((q b).mpr (.inr hb)))) h z
theorem rZ{Y:eB}{α:Type}(f:α->V)(g:α->D)(h:∀x,Rep K F (f x) (g x)):∀(l:List α),x0 (G4 K F H Y) (l.map λx=>.one (f x)) (l.map λx=>T.d (g x))
 |[]=>.nil|x::r=>.cons #[λ_=>False,.d (h x) λ_ z=>z,λ_ z=>z.elim] (rZ f g h r)
theorem Tr.lsS(f:Same F H)(h:Tr K F H st v t Z)(e:t.vw=.ls ts):∃a vs S',v=.ref a/\nC K H a vs/\Trs K F H kd vs ts S'/\(∀b,S' b->Z b)/\∀y x,Same F y->Same y x->(∀b,Z b->x b=H b)->nC K x a vs:=by
 cases h with
 |d r n =>
  cases r with|lst q r=>injection e with e;subst e;exact#[_,_,_,rfl,f.seq q,Trs.of_reps r,λb hb=>hb.elim,λy x w z _=>(w.trans z).seq q]|dct _ _ _=>exact(FH e).elim|_=>cases e
 |lst h _ r n q=>injection e with e;subst e;exact#[_,_,_,rfl,nC.of h,r.weak,λb hb=>(q b).mpr (.inr hb),λy x _ _ k=>nC.of ((k _ ((q _).mpr (.inl rfl))).trans h)]|tup=>cases e|dct=>cases e|lstF h r n=>injection e with e;subst e;exact#[_,_,_,rfl,f.seq h,Trs.of_reps r,λb hb=>hb.elim,λy x w z _=>(w.trans z).seq h]
theorem Tr.tpS(f:Same F H)(h:Tr K F H st v t Z)(e:t.vw=.tp ts):∃a vs S',v=.ref a/\ED K H a vs/\Trs K F H kd vs ts S'/\(∀b,S' b->Z b)/\∀y x,Same F y->Same y x->(∀b,Z b->x b=H b)->ED K x a vs:=by
 cases h with
 |d r n =>
  cases r with|tup q r=>injection e with e;subst e;exact#[_,_,_,rfl,f.tupl q,Trs.of_reps r,λb hb=>hb.elim,λy x w z _=>(w.trans z).tupl q]|dct _ _ _=>exact(lM e).elim|_=>cases e
 |tup h _ r n q=>injection e with e;subst e;exact#[_,_,_,rfl,ED.of h,r.weak,λb hb=>(q b).mpr (.inr hb),λy x _ _ k=>ED.of ((k _ ((q _).mpr (.inl rfl))).trans h)]|lst=>cases e|lstF=>cases e|dct=>cases e
theorem Tr.seqS(f:Same F H)(h:Tr K F H st v t Z)(e:t.vw.seq=jr ts):∃a vs sz,v=.ref (Src.adr sz)/\A4 K H sz vs/\(∃S',Trs K F H kd vs ts S')/\a=Src.adr sz/\∀g k,Same F g->Same g k->(∀b,Z b->k b=H b)->A4 K k sz vs:=by
 generalize ev:t.vw=w at e;cases w with|ls i=>cases e;let#[a,vs,S',rfl,z,x,_,y]:=h.lsS f ev;exact#[a,vs,.l a,rfl,z,#[S',x],rfl,y]|tp i=>cases e;let#[a,vs,S',rfl,z,x,_,y]:=h.tpS f ev;exact#[a,vs,.t a,rfl,z,#[S',x],rfl,y]|_=>cases e
end
mutual
theorem cX{F:Hp}:∀{k:NK}{v:V},ao K F k v->Rep K F v (tD k)
 | .s x,v,h=>by cases(show v=.str x from h);exact .str x|.t ks,v,#[a,xs,e,q,p]=>by subst e;exact .tup q (ky_reps p)
theorem ky_reps{F:Hp}:∀{ks:List NK}{vs:LV},KyVs K F ks vs->Reps K F vs (tDs ks)
 |[],vs,h=>by cases(show vs=[] from h);exact .nil|k::ks,vs,#[x,r,e,p,q]=>by subst e;exact .cons (cX p) (ky_reps q)
end
theorem tZ{Y:eB}:∀{kvs:List KE}{ds:List D},CG K F kvs->Reps K F (kvs.map (·.2.2)) ds->x0 (G4 K F H Y) (kvs.map λp=>.tup [.ref p.2.1,p.2.2]) (((kvs.map λp=>tD p.1).zip ds).map λp=>T.d (.tuple [p.1,p.2]))
 |[],_,_,.nil=>.nil|p::r,_,hk,.cons h t=>by simp only[QX,QAT];exact .cons #[[_,_],rfl,.cons (cX (hk p QD).1) (.cons h .nil)] (tZ (λp x=>hk p (QE _ x)) t)
theorem sZ{Y:eB}:∀{kvs:List KE},CG K F kvs->x0 (G4 K F H Y) (kvs.map λp=>.one (.ref p.2.1)) ((kvs.map λp=>tD p.1).map T.d)
 |[],_=>.nil|p::r,hk=>.cons #[λ_=>False,.d (cX (hk p QD).1) λ_ z=>z,λ_ z=>z.elim] (sZ λp h=>hk p (QE _ h))
theorem ZU{Y:eB}:∀{xs:LV}{ds:List D}(_:Reps K F xs ds) (g:Nat->Int) (n:Nat),x0 (G4 K F H Y) ((xs.zipIdx n).map λp=>.tup [.int (g p.2),p.1]) ((ds.zipIdx n).map λp=>T.d (.tuple [.int (g p.2),p.1]))
 |_,_,.nil,g,n=>by simp only[List.zipIdx_nil,ww];exact .nil|_,_,.cons h t,g,n=>by simp only[List.zipIdx_cons,QX];exact .cons #[[_,_],rfl,.cons (.int _) (.cons h .nil)] (ZU t g (n+1))
theorem fN{α x:Type}{R:α->x->Prop}:∀{l z:List α}{m y:List x},x0 R l m->x0 R z y->x0 R (l++z) (m++y)
 |_,_,_,_,.nil,h=>h|_,_,_,_,.cons r t,h=>.cons r (fN t h)
theorem cN{α h:Type}{R:α->h->Prop}:∀{l:List α}{m:List h},x0 R l m->x0 R l.reverse m.reverse
 |_,_,.nil=>.nil|_,_,.cons r t=>by rw[wY,wY];exact fN (cN t) (.cons r .nil)
theorem mK{M:ItK}{Y:eB}{vs:LV}{ts:LT}{RD:LT->Prop}{RR:List Item->(Hp->Prop)->Hp->Prop}(f:Same F H)(W:Tn K F H Y vs ts)(h:NB M (ts.map T.vw) RD)
  (k:∀xs R st,x0 (G4 K F H Y) xs R->(∀l w,Same F l->Same l w->(∀b,Y b->w b=H b)->st w)->RD R->RR xs st H):dC K M vs H RR:=by
 cases M with
 |val =>
  rcases h with⟨I,e,h⟩| ⟨I,e,h⟩| ⟨B,I,e,h⟩
  let#[v,t,Z,rfl,rfl,e,r,z]:=W.one e;let#[p,xs,S,rfl,J,m,G,s]:=r.lsS f e;exact .inl #[xs,J,k _ _ _ (dX m λb hb=>z b (G b hb)) (λl w y u q=>s l w y u λb hb=>q b (z b hb)) h];let#[v,t,Z,rfl,rfl,e,r,z]:=W.one e;let#[p,xs,S,rfl,J,m,G,s]:=r.tpS f e;exact .inr (.inl #[xs,J,k _ _ _ (dX m λb hb=>z b (G b hb)) (λl w y u q=>s l w y u λb hb=>q b (z b hb)) h]);let#[v,t,Z,rfl,rfl,y,A,C]:=W.one e;let#[a,o,xs,_,rfl,N,Q,m,_,s]:=A.dc f y;let#[X,g,rfl,rfl,rfl,O,_]:=Q;exact .inr (.inr #[X,g,N,k _ _ _ (sZ O) (λl w y u q=>s l w y u λb hb=>q b (C b hb)) h])
 |rng1=>let#[j,e,h]:=h;let#[v,t,Z,rfl,rfl,e,r,_]:=W.one e;obtain rfl:=r.int e;exact#[h.1,k _ _ _ (rZ (λ(i:Nat)=>.int (i:Int)) (λ(i:Nat)=>.int (i:Int)) (λc=>.int _) _) (λ_ _ _ _ _=>trivial) h.2]|rev=>let#[I,e,h]:=h;let#[v,t,Z,rfl,rfl,e,r,z]:=W.one e;let#[p,xs,S,rfl,J,m,G,s]:=r.lsS f e;have q:=cN (dX m λb hb=>z b (G b hb));rw[<- W4]at q;exact#[xs,J,k _ _ _ q (λl w y u q=>s l w y u λb hb=>q b (z b hb)) h]|enum=>let#[x,I,E,e,g1,P,q]:=h;let#[v,t,Z,rfl,rfl,y,A,C]:=W.one e;let#[a,xs,sz,rfl,hq,#[_,m],_,s]:=A.seqS f (by rw[y];exact g1);exact#[sz,xs,rfl,hq,k _ _ _ (ZU (m.un P).1 (λi=>(i:Int)) 0) (λl w y u q=>s l w y u λb hb=>q b (C b hb)) q]|itm =>
  rcases h with⟨B,I,E,e,P,q⟩| ⟨e,q⟩
  rotate_left
  let#[v,t,Z,rfl,rfl,y,A,C]:=W.one e;let#[_,m]:=A.sc y;generalize ed:PyData.dict []=d at m;cases m with
  |@dct b a o B vs E h L r =>
   have ez:B.zip E=[]:=by injection ed with ed;exact ed.symm
   have hl:B.9=E.length:=by rw[L.len,Reps.length r]
   have ek:B=[]:=by
    cases B with
    |nil=>rfl|cons k B =>
     cases E with|nil=>cases hl|cons d E=>cases ez
   subst ek;have eo:∃X,o=.dT X []:=by
    cases b with
    |true =>
     let#[X,g,y,u,_]:=L;cases g with|nil=>exact#[X,y]|cons p r=>cases u
    |false =>
     rcases L with⟨g,n,_,u,_⟩| ⟨X,y,_⟩
     cases g with|nil=>exact im rfl n|cons p r=>cases u
     exact#[X,y]
   let#[X,rfl]:=eo;exact#[X,[],f _ _ h,k _ _ _ .nil (λl w y u _=>u _ _ (y _ _ h)) q]
  |_=>cases ed
  let#[v,t,Z,rfl,rfl,y,A,C]:=W.one e;let#[a,o,xs,_,rfl,N,Q,m,_,s]:=A.dc f y;let#[X,g,rfl,rfl,rfl,O,_]:=Q;exact#[X,g,N,k _ _ _ (tZ O (m.un P).1) (λl w y u q=>s l w y u λb hb=>q b (C b hb)) q]
end
section
variable{i j:Nat}{Z:eB}
def GH(S:Ft)(i:Nat)(Z:eB):Ft:=λj=>if j=i then Z else S j
theorem EA{S:Ft}:GH S i Z i=Z:=a9 rfl
theorem ZA{S:Ft}(h:j≠i):GH S i Z j=S j:=a8 h
theorem lA{α:Type}{l:List α}{x y:α}(h:(l.set i x)[j]?=jr y):(i=j/\y=x/\i<l.9)∨(i≠j/\l[j]?=jr y):=by rw[wE]at h;by_cases e:i=j;subst e;rw[a9 rfl]at h;by_cases hl:i<l.9;rw[a9 hl]at h;cases h;exact .inl #[rfl,rfl,hl];rw[a8 hl]at h;cases h;rw[a8 e]at h;exact .inr #[e,h]
theorem CY{α:Type}{l:List α}{x:α}(h:i<l.9):(l.set i x)[i]?=jr x:=by rw[wE,a9 rfl,a9 h]
theorem jE{α:Type}{l:List α}{x:α}(h:i≠j):(l.set i x)[j]?=l[j]?:=by rw[wE,a8 h]
end
section
variable{K:QA}{Γ:Ev}{Ψ:PEv}{E:XE}{L:XK}{F H D G:Hp}{S S1:Ft}{ρ C:xA}{σ:St}
section
variable{Z Y:eB}{A X:Hp}{S':Ft}{g:xA}{o:St}{st:Bool}{B:Tg}{k:Nat}{l:List Bool}
theorem Rl.setB(I:Rl K F H S ρ σ)(i:Nat){v:V}{t:T}(r:Tr K F H kd v t Z)(m:∀(j:Nat) u,j≠i->ρ[j]?=jr (jr (.own u))->∀b,Z b->¬ S j b):Rl K F H (GH S i Z) (ρ.set i (jr (.bor t))) (σ.set i (jr v)) where
 fh:=I.fh
 len:=by simpa using I.len
 sl:=λj s h=>by
  rcases lA h with⟨rfl,e,hl⟩| ⟨w,h⟩
  cases e;exact#[v,CY (by rw[<- I.len];exact hl),by rw[EA];exact r];rw[jE w,ZA (Q7 w)];exact I.sl j s h
 dj:=λj k z s n x y b hb hk=>by
  rcases lA x with⟨_,e,_⟩| ⟨f,x⟩
  cases e;rw[ZA (Q7 f)]at hb;rcases lA y with⟨e,_,_⟩| ⟨a,y⟩
  subst e;rw[EA]at hk;exact m j z n x b hk hb;rw[ZA (Q7 a)]at hk;exact I.dj j k z s n x y b hb hk
structure Bd(J:LN)(F H:Hp)(S:Ft)(ρ:xA)(σ:St)(A X:Hp)(S':Ft)(g:xA)(o:St):Prop where
 ff:Same F A
 hh:Same H X
 fn:∀b,F b=kv->A b≠kv->H b=kv
 out:∀j,j∉J->g[j]?=ρ[j]?/\S' j=S j/\o[j]?=σ[j]?
 inn:∀j t,j∈J->g[j]?≠jr (jr (.own t))
theorem Bd.U{J:LN}(h:Bd J F H S ρ σ A X S' g o){b:ko}(u:U g S' b):L3.U ρ S b:=by let#[i,t,x,z]:=u;by_cases y:i∈J;exact im x (h.inn i t y);let#[w,v,_]:=h.out i y;rw[w]at x;rw[v]at z;exact#[i,t,x,z]
theorem Bd.dm{J:LN}(h:Bd J F H S ρ σ A X S' g o)(b:ko)(e:X b=kv):H b=none:=h.hh.free e
theorem FY{Y:eB}(s:∀b,Y b->¬ U ρ S b):∀(w:LN) {vs:LV}{ts:LT}{S1:Ft}{C g:xA}{x:St}{J:LN},(∀i∈w,i∈J)->Rl K F H S1 C x->(∀b,U C S1 b->U ρ S b)->Tn K F H Y vs ts->TC w ts C=jr g ->
  ∃o S',cB w vs x=jr o/\Rl K F H S' g o/\(∀j,j∉J->g[j]?=C[j]?/\S' j=S1 j/\o[j]?=x[j]?)/\(∀j t,g[j]?=jr (jr (.own t))->j∉w/\C[j]?=jr (jr (.own t)))
 |[],_,_,S1,C,g,x,J,hJ,I,hu,.nil,h=>by simp only[TC,Qr]at h;subst h;exact#[x,S1,rfl,I,λ_ _=>#[rfl,rfl,rfl],λj t h=>#[(by simp),h]]|[],_,_,_,_,_,_,_,_,_,_,.cons _ _ _,h=>by simp[TC]at h|_::_,_,_,_,_,_,_,_,_,_,_,.nil,h=>by simp[TC]at h|i::w,_,_,S1,C,g,x,J,hJ,I,hu,.cons (v:=v) (t:=t) (Z:=Z) r z tl,h=>by
  simp only[TC]at h;have nu:∀b,Z b->¬ U C S1 b:=λb hb u=>s b (z b hb) (hu b u);have I2:=I.setB i r λj u _ y b hb N=>nu b hb #[j,u,y,N];have p:∀b,U (C.set i (jr (.bor t))) (GH S1 i Z) b->U ρ S b:=λb #[j,u,q,W]=>by
   rcases lA q with⟨_,e,_⟩| ⟨n,q⟩
   cases e;rw[ZA (Q7 n)]at W;exact hu b #[j,u,q,W]
  let#[o,S',R,Q,P,O]:=FY s w (λj y=>hJ j (QE _ y)) I2 p tl h;refine#[o,S',R,Q,λj y=>?_,λj u y=>?_];let#[f,a,M]:=P j y;have n:i≠j:=λe=>y (e▸hJ i QD);rw[jE n]at f M;rw[ZA (Q7 n)]at a;exact#[f,a,M];let#[f,a]:=O j u y;rcases lA a with⟨_,e,_⟩| ⟨n,a⟩
  cases e;exact#[λm=>(QK.mp m).elim (λe=>n e.symm) f,a]
theorem Tn.of_trs{vs:LV}{ts:LT}(h:Trs K F H st vs ts Z)(z:∀b,Z b->Y b):Tn K F H Y vs ts :=
 Trs.ind (R:=λ_ vs ts Z=>(∀b,Z b->Y b)->Tn K F H Y vs ts) (λ_ _=>.nil) (λh _ _ q x z=>.cons h.weak (λb hb=>z b ((q b).mpr (.inl hb))) (x λb hb=>z b ((q b).mpr (.inr hb)))) h z
theorem tV{it:Item}{t:T}{QP:xA->Prop}{RP:St->Hp->Prop}(I:Rl K F H S ρ σ)(hy:∀b,Y b->¬ U ρ S b)(r:G4 K F H Y it t)(h:MP B t ρ QP)
  (k:∀m f w x O,Bd B.ix F H S ρ σ w x O m f->Rl K w x O m f->QP m->RP f x):bindI K B it σ H RP:=by
 have nm:∀(i:Nat) {v:V}{t:T}{Z:eB}{w x:Hp}{O:Ft},Same F w->Same H x->(∀b,F b=kv->w b≠kv->H b=kv)->Rl K w x O ρ σ->O=S->Tr K w x kd v t Z->(∀b,Z b->¬ U ρ S b)->QP (ρ.set i (jr (.bor t)))->B=.nm i->RP (σ.set i (jr v)) x:=by
  intro i v t Z w x O R e2 e3 I2 hS r hz q ht;subst hS ht;refine k _ _ w x (GH O i Z) #[R,e2,e3,λj N=>?_,λj u N hu=>?_] (I2.setB i r λj u _ N b hb hs=>hz b hb #[j,u,N,hs]) q;have n:i≠j:=λe=>N (by subst e;exact QJ.mpr rfl);exact#[jE n,ZA (Q7 n),jE n];have e:j=i:=QJ.mp N;subst e;rcases lA hu with⟨_,e,_⟩| ⟨n,_⟩
  cases e;exact n rfl
 have tp:∀(y:LN) {W:LV}{P:LT}{x:Hp}{g:xA},Same H x->B=.tp y->Tn K F x Y W P->TC y P ρ=jr g->QP g->∃o,cB y W σ=jr o/\RP o x:=by intro y W P x g e2 ht r e q;subst ht;let#[o,S',g1,g2,g3,g4]:=FY hy y (J:=y) (λi hi=>hi) (I.same e2) (λb u=>u) r e;exact#[o,g1,k _ _ F x S' #[.refl _,e2,λb h z=>im h z,g3,λj u N hu=>(g4 j u hu).1 N] g2 q]
 cases it with
 |one v =>
  let#[Z,r,z]:=r;cases B with|nm i=>exact nm i (.refl _) (.refl _) (λb h z=>im h z) I rfl r (λb hb=>hy b (z b hb)) h rfl|tp y=>have Q:(match t.vw with | .tp P=>∃g,TC y P ρ=jr g/\QP g|_=>False):=h;split at Q;rename_i P e;let#[g,R,q]:=Q;let#[a,W,S',rfl,M,rp,z2]:=r.tp I.fh e;let#[o,g1,g2]:=tp y (.refl _) rfl (Tn.of_trs rp λb hb=>z b (z2 b hb)) R q;exact#[W,o,M,g1,g2];exact Q.elim
 |tup W =>
  let#[ds,rfl,rd]:=r;cases B with|nm i=>intro p M;refine nm i (PB (I.fh.free M)) (PB M) (λb h1 Q=>?_) (I.newT M (.tup W)) rfl (.d (S:=λ_=>False) (.tup (ED.of YA) (rd.mono (PB (I.fh.free M)))) λ_ z=>z) (λb z=>z.elim) h rfl;by_cases hb:b=p;rw[hb];exact M;rw[uA hb]at Q;exact im h1 Q|tp y=>intro X s;let#[g,R,q]:=h;exact tp y s rfl (Tn.of_trs (Trs.of_reps (st:=kd) rd) λb hb=>hb.elim) R q
noncomputable def jf(k:Nat)(S:Ft):Ft:=λi=>if i<k then λ_=>False else S (i - k)
theorem VP:∀(m:List Bool) (ρ:xA) (i:Nat) s,(bC m ρ)[i]?=jr (jr s)->ρ[i]?=jr (jr s)/\m.getD i kd=kd
 |[],ρ,i,s,h=>by
  have e:bC [] ρ=ρ:=by cases ρ<;>rfl
  rw[e]at h;exact#[h,rfl]
 |b::m,[],i,s,h=>by simp[bC]at h|b::m,v::ρ,0,s,h=>by
  cases b with|true=>simp[bC]at h|false=>simp[bC]at h;simp[h]
 |b::m,v::ρ,i+1,s,h=>by simp only[bC,wc]at h;let#[y,x]:=VP m ρ i s h;exact#[by simpa using y,by simpa using x]
theorem ZP:∀(m:List Bool) (σ:St) (i:Nat) v,σ[i]?=jr (jr v)->m.getD i kd=kd->(VC m σ)[i]?=jr (jr v)
 |[],σ,i,v,h,_=>by
  have e:VC [] σ=σ:=by cases σ<;>rfl
  rw[e];exact h
 |b::m,[],i,v,h,_=>by simp at h|b::m,w::σ,0,v,h,hb=>by
  have:b=false:=by simpa using hb
  subst this;simpa[VC]using h
 |b::m,w::σ,i+1,v,h,hb=>by simp only[VC,wc];exact ZP m σ i v (by simpa using h) (by simpa using hb)
theorem KP:∀(m:List Bool) (ρ:xA),(bC m ρ).9=ρ.9
 |[],ρ=>by cases ρ<;>rfl|_::_,[]=>rfl|b::m,v::ρ=>by simp[bC,KP m ρ]
theorem fG{ρ:xA}{i:Nat}{s:Sl}(h:(DO k l ρ)[i]?=jr (jr s)):k<=i/\ρ[i - k]?=jr (jr s)/\l.getD (i - k) kd=false:=by unfold DO at h;rcases QBG i k with z|z;rw[qL (by simpa using z),we]at h;split at h<;>cases h;rw[Qy (by simpa using z)]at h;simp only[qt]at h;let#[y,x]:=VP l ρ _ s h;exact#[z,y,x]
theorem Rl.ent(I:Rl K F H S ρ σ)(k:Nat)(l:List Bool):Rl K F H (jf k S) (DO k l ρ) (tJ k l σ) where
 fh:=I.fh
 len:=by simp[DO,tJ,KP,lK,I.len]
 sl:=λi s h=>by let#[u,z,y]:=fG h;let#[v,a,w]:=I.sl _ s z;refine#[v,?_,?_];unfold tJ;rw[Qy (by simpa using u)];simp only[qt];exact ZP l σ _ v a y;unfold jf;rw[a8 ()];exact w
 dj:=λi j t s n z y b hb x=>by let#[p,f,_]:=fG z;let#[m,e,_]:=fG y;unfold jf at hb x;rw[a8 ()]at hb x;exact I.dj (i - k) (j - k) t s () f e b hb x
theorem HZ(b:ko):¬ U (DO k l (lockA ρ)) S' b:=λ#[i,t,h,_]=>by let#[_,x,_]:=fG h;let#[_,_,e]:=YB x;cases e
theorem Paired.get_of{α v:Type}{R:α->v->Prop}{xs:List α}{u:List v}(h:x0 R xs u):∀{i:Nat}{x:α},xs[i]?=jr x->∃y,u.drop i=y::u.drop (i+1)/\R x y:=by
 induction h with
 |nil=>intro i x e;simp at e|@cons x y xs u h t a =>
  intro i z e;cases i with|zero=>simp at e;subst e;exact#[y,by simp,h]|succ i=>let#[w,f,b]:=a (i:=i) (by simpa using e);exact#[w,by simpa using f,b]
structure Pur(F H A X:Hp):Prop where
 ff:Same F A
 hh:Same H X
 fn:∀b,F b=kv->A b≠kv->H b=kv
theorem Pur.trans{u y:Hp}(a:Pur F H D G)(b:Pur D G u y):Pur F H u y:=#[a.ff.trans b.ff,a.hh.trans b.hh,λx h z=>by by_cases q:D x=kv;exact a.hh.free (b.fn x q z);exact a.fn x h q]
theorem Pur.ste(p:Pur F H D G):Ste F H S ρ D G S ρ:=#[#[p.ff,λb u h _=>p.hh b u h,λb h=>p.hh.free h,λb h z=>.inr (p.fn b h z),λb h=>.inl h,λ_ _ h _=>#[h,rfl]],λ_ t h=>#[t,h]]
theorem Pur.rl(p:Pur F H D G)(f:Same D G)(I:Rl K F H S ρ σ):Rl K D G S ρ σ:=#[f,I.len,λi s e=>by
 let#[v,y,h]:=I.sl i s e;exact#[v,y,h.mono p.ff λb hb=>by
  let#[x,z]:=h.dom b hb;refine#[?_,?_];cases e:H b with|none=>exact im e x|some u=>exact p.hh b u e
  by_cases q:D b=kv
  ·exact q
  exact im (p.fn b z q) x],I.dj]
theorem Stp.pur(s:Stp F H S ρ D G S' g)(n:∀b,¬ U ρ S b):Pur F H D G:=#[s.ff,λb u h=>s.hh b u h (n b),λb h z=>(s.fn b h z).elim (λq=>im q (n b)) id]
theorem Pur.trs(p:Pur F H D G){v:LV}{t:LT}(h:Trs K F H st v t Z):Trs K D G st v t Z:=h.mono p.ff λb hb=>by
  let#[x,y]:=h.dom b hb;refine#[?_,?_];cases e:H b with|none=>exact im e x|some u=>exact p.hh b u e
  by_cases q:D b=kv
  ·exact q
  exact im (p.fn b y q) x
theorem S9{ws:LN}{N:Nat}{c:xA->(Bool->xA->Prop)->Prop}{e:xA->TK->Prop}{tc:TT}{te:TE}{us:LN}
  (ic:∀{F H:Hp}{S:Ft}{ρ:xA}{σ:St}{Q:Bool->xA->Prop}{R:Bool->Hp->Prop},Rl K F H S ρ σ->c ρ Q->MJ K F H S ρ σ Q R->tc σ H R)
  (ie:∀{F H:Hp}{S:Ft}{ρ:xA}{σ:St}{Q:TK}{R:VK},Rl K F H S ρ σ->e ρ Q->dB K us F H S ρ σ Q R->te σ H R)
  {F0 H0:Hp}{S0:Ft}{P:xA}(s:Ste F0 H0 S0 P F H S ρ) (I:Rl K F H S ρ σ) {xs:List Item}{M:LT}{st:Hp->Prop}(pr:x0 (G4 K F H Y) xs M) (hyd:∀b,Y b->H b≠kv/\F b=kv) (hst:∀A X,Same F A->Same A X->(∀b,Y b->X b=H b)->st X) {Q:TK}{R:VK}
  (h:RC (hG B (DO N l (lockA ρ)) c e) M [] λM=>Q (.lst M) kf ρ) (k:dB K ws F0 H0 S0 P σ Q R) :
  Y0 K xs st B tc te (tJ N l σ) H R:=by
 refine T9 ?_;have len:=qI pr;have yk:∀{A X:Hp},Pur F H A X->∀b,Y b->X b=H b/\A b=none:=λ{A X} p b hb=>by
  let#[d1,d2]:=hyd b hb;refine#[?_,?_];cases e:H b with|none=>exact im e d1|some u=>exact p.hh b u e
  by_cases q:A b=kv
  ·exact q
  exact im (p.fn b d2 q) d1
 refine#[λi m X=>∃A w W,Pur F H A X/\Same A X/\Trs K A X kf m w W/\(∀b,W b->H b=kv)/\RC (hG B (DO N l (lockA ρ)) c e) (M.drop i) w λM=>Q (.lst M) kf ρ,
  #[F,[],λ_=>False,#[.refl _,.refl _,λb h z=>im h z],I.fh,.nil λ_ z=>z,λ_ z=>z.elim,by simpa using h],?_,?_,?_]
 rintro i m X _ ⟨A,w,W,p,f,_,_,_⟩;exact hst A X p.ff f λb hb=>(yk p b hb).1;rintro i x m G hx ⟨D,w,W,p1,f1,J,hw,hc⟩;let#[y,hd,ry]:=Paired.get_of pr hx;rw[hd]at hc;unfold RC at hc;unfold hG at hc;have I1:Rl K D G (jf N S) (DO N l (lockA ρ)) (tJ N l σ):=((p1.rl f1 I).lockA).ent N l;refine tV I1 (λb _=>HZ b) (ry.mono p1.ff (yk p1)) hc λρ2 σ2 F2 H2 S2 O I2 hc=>?_;have p2:Pur D G F2 H2:=#[O.ff,O.hh,O.fn]
 have nu2:∀b,¬ U ρ2 S2 b:=λb u=>HZ b (O.U u);refine ic I2 hc λb F3 H3 S3 ρ3 s3 I3 q=>?_;have p3:Pur F2 H2 F3 H3:=s3.toStp.pur nu2;have nu3:∀b,¬ U ρ3 S3 b:=λb #[j,t,h1,_]=>by let#[t0,h0]:=s3.ow j t h1;by_cases hj:j∈B.ix;exact O.inn j t0 hj h0;rw[(O.out j hj).1]at h0;let#[_,h1,_]:=fG h0;let#[_,_,e]:=YB h1;cases e
 have a:=p1.trans (p2.trans p3);cases b with
 |false=>exact#[F3,w,W,a,I3.fh,p3.trs (p2.trs J),hw,q]|true =>
  refine ie I3 q λv F4 H4 S4 ρ4 z n Z s4 I4 r4 #[hk,hl,hc]=>?_;have p4:Pur F3 H3 F4 H4:=s4.toStp.pur nu3;have ra4:=p4.trs (p3.trs (p2.trs J));have rz:∃Z',Tr K F4 H4 kf v z Z'/\∀b,Z' b->H3 b=none:=by
   cases n with
   |true=>exact#[Z,r4.tr,λb hb=>(r4.fr rfl b hb).elim id λu=>im u (nu3 b)]|false =>
    cases z with
    |d x =>
     have tr:=r4.tr;cases tr with|d r n=>exact#[λ_=>False,.d r λ_ z=>z,λ_ z=>z.elim]
    |_=>exact im hk (by simp[KH,T.isD])
  let#[Z',rz,fz]:=rz;refine#[by rw[J.9];exact hl,F4,_,λb=>W b∨Z' b,a.trans p4,I4.fh,ra4.append (Trs.one rz) λb hb hz=>?_,λb hb=>?_,hc];have q1:=(J.dom b hb).1;exact q1 ((p2.trans p3).hh.free (fz b hz));rcases hb with hb|hb
  ·exact hw b hb
  exact a.hh.free (fz b hb)
 rintro m X ⟨A,w,W,p,f,J,hw,hc⟩;rw[len,List.drop_length]at hc;unfold RC at hc;have I':=p.rl f I;refine#[by rw[J.9];exact hc.1,λq hq=>?_];refine dB.list (k.from s) (p.ste) I' hq J (λb hb=>.inl (hw b hb)) #[J.dom,λi sl hi b hb z=>?_] hc.2;exact(I.dom hi z).1 (hw b hb)
end
end
section
variable{K:QA}{Γ:Ev}{Ψ:PEv}{E:XE}{p:XK}{F H l c:Hp}{S S1:Ft}{ρ y:xA}{σ:St}
theorem Tr.shal{v:V}{u t:T}{Z:eB}(h:Tr K F H kd v u Z)(e:rE u=jr t):Tr K F H kd v t Z:=by
 unfold rE at e;split at e;rename_i ts ev;cases x:HG ts with
 |none=>rw[x]at e;cases e|some f =>
  rw[x]at e;injection e with e;subst e;cases h with
  |d r n =>
   cases r with|lst q r=>injection ev with ev;subst ev;rw[KA]at x;injection x with x;subst x;exact .lstF q r n|dct _ _ _=>exact(FH ev).elim|_=>cases ev
  |lst k w z b a=>injection ev with ev;subst ev;show Tr K F H kd _ (.lst (f.map T.d)) Z;rw[<- tM x];exact .lst k w z b a|tup=>cases ev|dct=>cases ev|lstF k w z=>injection ev with ev;subst ev;rw[KA]at x;injection x with x;subst x;exact .lstF k w z
 split at e
 ·injection e with e;subst e;exact h
 cases e
theorem AV.pass{Y:eB}{md:List Md}{vs:LV}{xs:List (T×Bool)}{W:eB}(h:AV K F H md vs xs W Y)(e:Same F l)(k:∀b,W b->l b=H b)(G:∀b,Y b->F b=kv->l b=kv) :
  ∀{g ts:LT},sA md xs g=jr ts->ArgsR K l H Y md vs ts/\LB md ts=g:=by
 induction h with
 |nil h =>
  intro g ts w;cases g with|nil=>simp only[sA,Qr]at w;subst w;exact#[.nil,rfl]|cons _ _=>simp[sA]at w
 |@chg md v vs x xs W Y h t C =>
  intro g ts w;have f:md.headD .fro=.chg:=by generalize md.headD .fro=m at h;cases m<;>first|rfl|cases h
  unfold sA at w;rw[f]at w;cases g with
  |nil=>cases w|cons o g =>
   cases a:sA md.tail xs g with|none=>simp only[a,wa]at w;cases w|some B=>simp only[a,Q1,Qr]at w;subst w;let#[s,j]:=C k G a;refine#[.chg f s,?_];unfold LB;rw[f];simp only[j]
 |@new md v vs x xs Z W J Y h r t n q C =>
  intro g ts w;have X:Tr K l H kd v (.d x.er) (λ_=>False):=.d (r.kept e λb u hb I=>by rw[k b ((q b).mpr (.inl hb))];exact I) λ_ z=>z;have i:=@C (λb hb=>k b ((q b).mpr (.inr hb))) G;unfold sA at w;cases f:md.headD .fro with
  |chg=>rw[f]at h;cases h|fro =>
   simp only[f,nA]at w;cases a:sA md.tail xs g with|none=>simp only[a,wa]at w;cases w|some B=>simp only[a,Q1,Qr]at w;subst w;let#[s,j]:=i a;exact#[.rd (by rw[f];simp) X (λ_ z=>z.elim) s,by unfold LB;rw[f];exact j]
  |shal =>
   simp only[f,nA]at w;cases A:rE (.d x.er) with
   |none=>simp only[A]at w;cases w|some u =>
    simp only[A]at w;cases a:sA md.tail xs g with|none=>simp only[a,wa]at w;cases w|some B=>simp only[a,Q1,Qr]at w;subst w;let#[s,j]:=i a;exact#[.rd (by rw[f];simp) (X.shal A) (λ_ z=>z.elim) s,by unfold LB;rw[f];exact j]
  |bor =>
   simp only[f,nA]at w;cases a:sA md.tail xs g with|none=>simp only[a,wa]at w;cases w|some B=>simp only[a,Q1,Qr]at w;subst w;let#[s,j]:=i a;exact#[.rd (by rw[f];simp) X (λ_ z=>z.elim) s,by unfold LB;rw[f];exact j]
 |@tmp md v vs x xs Z W Y h r z t C =>
  intro g ts w;have X:Tr K l H kd v x Z:=r.mono e λb hb=>#[rfl,G b (z b hb) (r.dom b hb).2]
  have i:=@C k G;unfold sA at w;cases f:md.headD .fro with
  |chg=>rw[f]at h;cases h|fro =>
   simp only[f,nA]at w;cases x with
   |d x =>
    cases a:sA md.tail xs g with|none=>simp only[a,wa]at w;cases w|some B=>simp only[a,Q1,Qr]at w;subst w;let#[s,j]:=i a;exact#[.rd (by rw[f];simp) X z s,by unfold LB;rw[f];exact j]
   |_=>cases w
  |shal =>
   simp only[f,nA]at w;cases A:rE x with
   |none=>simp only[A]at w;cases w|some u =>
    simp only[A]at w;cases a:sA md.tail xs g with|none=>simp only[a,wa]at w;cases w|some B=>simp only[a,Q1,Qr]at w;subst w;let#[s,j]:=i a;exact#[.rd (by rw[f];simp) (X.shal A) z s,by unfold LB;rw[f];exact j]
  |bor =>
   simp only[f,nA]at w;cases a:sA md.tail xs g with|none=>simp only[a,wa]at w;cases w|some B=>simp only[a,Q1,Qr]at w;subst w;let#[s,j]:=i a;exact#[.rd (by rw[f];simp) X z s,by unfold LB;rw[f];exact j]
theorem xD:∀(J:LN) (ρ:xA) (i:Nat) s,(clear J ρ)[i]?=jr (jr s)->i∉J/\ρ[i]?=jr (jr s)
 |[],ρ,i,s,h=>#[(by simp),h]|j::J,ρ,i,s,h=>by
  unfold clear at h;let#[u,z]:=xD J _ i s h;rcases lA z with⟨_,e,_⟩| ⟨n,x⟩
  cases e;exact#[λm=>(QK.mp m).elim (λe=>n e.symm) u,x]
theorem GP:∀(J:LN) (ρ:xA),(clear J ρ).9=ρ.9
 |[],_=>rfl|j::J,ρ=>by unfold clear;rw[GP J];simp
theorem Rl.drop(I:Rl K F H S ρ σ)(hl:y.9=ρ.9)(h:∀(i:Nat) s,y[i]?=jr (jr s)->ρ[i]?=jr (jr s)):Rl K F H S y σ :=
 #[I.fh,hl.trans I.len,λi s e=>I.sl i s (h i s e),λi j t s n z x=>I.dj i j t s n (h i _ z) (h j _ x)]
theorem LD:∀{J:LN}{ρ:xA}{x:LT},HA J ρ=jr x->x.9=J.9/\∀(i:Nat) j,J[i]?=jr j->∃t,x[i]?=jr t/\ρ[j]?=jr (jr (.own t))
 |[],ρ,x,h=>by simp only[HA,Qr]at h;subst h;exact#[rfl,λi j e=>by simp at e]|j::J,ρ,x,h=>by
  unfold HA at h;split at h;rename_i t e;cases z:HA J ρ with
  |none=>rw[z]at h;cases h|some f =>
   rw[z]at h;injection h with h;subst h;let#[w,v]:=LD z;refine#[by simp[w],λi k hk=>?_];cases i with|zero=>simp at hk;subst hk;exact#[t,rfl,e]|succ i=>let#[u,b,a]:=v i k (by simpa using hk);exact#[u,by simpa using b,a]
  cases h
theorem Rl.trs(I:Rl K F H S ρ σ):∀{J:LN}{w:LT}{vs:LV},J.Nodup->HA J ρ=jr w->vs.map (λv=>jr (jr v))=J.map (λj=>σ[j]?)->Trs K F H kf vs w (λb=>∃j∈J,S j b)
 |[],w,vs,_,h,hv=>by
  simp only[HA,Qr]at h;subst h;cases vs with|nil=>exact .nil λb #[j,m,_]=>by simp at m|cons _ _=>simp at hv
 |j::J,w,vs,nd,h,hv=>by
  unfold HA at h;split at h;rename_i t e;cases a:HA J ρ with
  |none=>rw[a]at h;cases h|some r =>
   rw[a]at h;injection h with h;subst h;cases vs with
   |nil=>simp at hv|cons v vs =>
    simp only[QX,Wc]at hv;let#[f,q,o]:=I.sl j _ e;rw[q]at hv;have:v=f:=by simpa using hv.1
    subst this;have x:=Qj.mp nd;refine .cons o (Rl.trs I x.2 a hv.2) (λb hb #[k,hk,z]=>?_) λb=>?_;let#[i,n]:=Ww.mp hk;let#[u,_,g]:=(LD a).2 i k n;exact I.dj j k t _ (λz=>x.1 (z▸hk)) e g b hb z;constructor
    ·rintro⟨k,hk,z⟩
     rcases QK.mp hk with e|e;subst e;exact .inl z;exact .inr #[k,e,z]
    rintro(z|⟨k,hk,z⟩)
    ·exact#[j,QD,z]
    exact#[k,QE _ hk,z]
  cases h
theorem Rl.setO(I:Rl K F H S ρ σ)(i:Nat){v:V}{t:T}{Z:eB}(hv:σ[i]?=jr (jr v))(r:Tr K F H kf v t Z)(w:∀(j:Nat) s,j≠i->ρ[j]?=jr (jr s)->∀b,Z b->¬ S j b):Rl K F H (GH S i Z) (ρ.set i (jr (.own t))) σ where
 fh:=I.fh
 len:=by simpa using I.len
 sl:=λj s h=>by
  rcases lA h with⟨rfl,e,hl⟩| ⟨g,h⟩
  cases e;exact#[v,hv,by rw[EA];exact r];rw[ZA (Q7 g)];exact I.sl j s h
 dj:=λj k a s n u x b hb hk=>by
  rcases lA u with⟨e,_,_⟩| ⟨f,u⟩
  subst e;rw[EA]at hb;rcases lA x with⟨e,_,_⟩| ⟨z,x⟩
  exact n e;rw[ZA (Q7 z)]at hk;exact w k s (Q7 z) x b hb hk;rw[ZA (Q7 f)]at hb;rcases lA x with⟨e,_,_⟩| ⟨z,x⟩
  subst e;rw[EA]at hk;exact w j _ n u b hk hb;rw[ZA (Q7 z)]at hk;exact I.dj j k a s n u x b hb hk
theorem MM:∀{J:LN}{w:LT}{vs:LV}{M:eB}{S1:Ft}{y x:xA},J.Nodup->Rl K F H S1 y σ->Trs K F H kf vs w M->vs.map (λv=>jr (jr v))=J.map (λj=>σ[j]?)->Held F H S1 y M->yC J w y=jr x ->
  ∃f,Rl K F H f x σ/\(∀i,i∉J->x[i]?=y[i]?/\f i=S1 i)/\∀i∈J,∀s,x[i]?=jr (jr s)->(∃t,s=.own t)/\∀b,f i b->M b
 |[],w,vs,M,S1,y,x,nd,I,r,hv,hm,h=>by
  cases w with|nil=>simp only[yC,Qr]at h;subst h;exact#[S1,I,λ_ _=>#[rfl,rfl],λi u=>by simp at u]|cons _ _=>simp[yC]at h
 |j::J,w,vs,M,S1,y,x,nd,I,r,hv,hm,h=>by
  cases r with
  |nil _=>simp[yC]at h|@cons _ v t vs ts _ Z Q G C n q =>
   simp only[yC]at h;simp only[QX,Wc]at hv;have a:=Qj.mp nd;have R:=I.setO j hv.1.symm G λk s _ hk b hb=>hm.nw k s hk b ((q b).mpr (.inl hb));have W:Held F H (GH S1 j Z) (y.set j (jr (.own t))) Q:=#[λb hb=>hm.dom b ((q b).mpr (.inr hb)),λi s u b hb z=>by
    rcases lA u with⟨rfl,_,_⟩| ⟨X,u⟩
    rw[EA]at z;exact n b z hb;rw[ZA (Q7 X)]at z;exact hm.nw i s u b ((q b).mpr (.inr hb)) z]
   let#[f,P,B,O]:=MM a.2 R C hv.2 W h;refine#[f,P,λi u=>?_,λi u s Y=>?_];have A:j≠i:=λe=>u (e▸QD);let#[o,g]:=B i λm=>u (QE _ m);rw[jE A]at o;rw[ZA (Q7 A)]at g;exact#[o,g];rcases QK.mp u with e|e
   ·subst e
    let#[o,g]:=B i a.1;rw[o]at Y;rcases lA Y with⟨_,e,_⟩| ⟨X,_⟩
    injection e with e;refine#[#[t,e],λb hb=>?_];rw[g,EA]at hb;exact(q b).mpr (.inl hb);exact im rfl X
   let#[N,L]:=O i e s Y;exact#[N,λb hb=>(q b).mpr (.inr (L b hb))]
theorem tf{f:Str}{as:PX}(g:GOk K Γ Ψ)(ia:PSnd K Γ Ψ as)(I:Rl K F H S ρ σ)(X:YF K F H S ρ E p){Q:TK}{R:VK}{ws:LN}(h:(pe Ψ (.call f as) E).e ρ Q)(k:dB K ws F H S ρ σ Q R):(wp K Γ (.call f as) p).e σ H R:=by
 let#[os,ho,nd,h]:=h;generalize hJ:bA (Ψ.sp f).md as=J at ho nd h;have C:∀j∈J,∃t,ρ[j]?=jr (jr (.own t)):=λj A=>by let#[i,hi]:=Ww.mp A;let#[t,_,e]:=(LD ho).2 i j hi;exact#[t,e]
 have I0:Rl K F H S (clear J ρ) σ:=I.drop (GP J ρ) λi s e=>(xD J ρ i s e).2;have P:∀b,U (clear J ρ) S b->U ρ S b:=λb #[i,t,h1,O]=>#[i,t,(xD J ρ i _ h1).2,O]
 have X0:YF K F H S (clear J ρ) E p:=λx dx F2 H2 S2 L m ff r q=>X x dx F2 H2 (λ_ _=>False) [] #[m.ff,λb u e n=>m.hh b u e λz=>n (P b z),m.dm,λb e z=>(m.fn b e z).imp (P b) id,λb #[i,t,e,_]=>by simp at e,λj t e=>by simp at e] ff r q;have hm:∀j∈bA (Ψ.sp f).md as,∃v,σ[j]?=jr (jr v):=λj A=>by let#[t,e]:=C j (hJ▸A);let#[v,h1,_]:=I.sl j _ e;exact#[v,h1]
 show(wp K Γ as p).a σ H λvs c=>Γ.sp f vs c R p;refine ia.a I0 X0 hm h λvs l c S1 y xs W Y s1 I1 r1 mv q1=>?_;rw[hJ]at mv;let#[ts,hp,q1]:=q1;have hw:=r1.held;have m:=s1.frz (λb hb=>(hw.dom b hb).2) r1.fr;have I2:=I1.frz hw;have yk:∀b,Y b->l b=kv->oJ l c W b=none:=λb hy hf=>by let#[i,sl,_,O,h3]:=r1.tm b hy;rw[fC λz=>r1.nw i sl O b z h3];exact hf
 let#[ar,mt]:=r1.av.pass (vH λb hb=>(hw.dom b hb).2) (λb hb=>nJ hb) yk hp;generalize oJ l c W=F2 at m I2 yk ar;have M0:=I.trs nd ho mv;have hM:Held F H S (clear J ρ) (λb=>∃j∈J,S j b):=#[λb #[j,A,hb]=>let#[t,e]:=C j A;I.dom e hb,λi s e b #[j,A,hb] z=>by let#[G,B]:=xD J ρ i s e;let#[t,et]:=C j A;exact I.dj j i t s (λq=>G (q▸A)) et B b hb z]
 have N:=hM.step m.toStp I2;have M2:Trs K F2 c kf (tB (Ψ.sp f).md vs) (LB (Ψ.sp f).md ts) (λb=>∃j∈J,S j b):=by
  rw[mt];refine M0.mono m.ff λb hb=>?_;refine#[?_,(N.dom b hb).2];cases e:H b with|none=>exact im e (hM.dom b hb).1|some u=>exact m.hh b u e (hM.nu b hb)
 refine g.sp f vs c R p #[F2,ts,_,Y,I2.fh,ar,M2,λb hy hb=>?_,?_];let#[i,sl,_,O,h3]:=r1.tm b hy;exact N.nw i sl O b hb h3
 ·have up:∀b,(∃j∈J,S j b)->U ρ S b:=λb #[j,A,hb]=>let#[t,e]:=C j A;#[j,t,e,hb]
  have lk:∀b,(∃j∈J,S j b)∨c b=kv->U ρ S b∨H b=none:=λb hb=>hb.imp (up b) (m.dm b);refine(Ψ.sp f).mono ?_ ?_ q1
  rotate_left
  rintro x qx dx F' H' o xr;refine X x dx F' H' (λ_ _=>False) [] #[m.ff.trans o.ff,λb u e n=>o.hh b u (m.hh b u e λz=>n (P b z)) λz=>n (up b z),λb e=>m.dm b (o.dm b e),λb e z=>?_,λb #[i,t,e,_]=>by simp at e,λj t e=>by simp at e] o.fh xr qx;by_cases q:F2 b=kv;exact lk b (o.fn b q z);exact(m.fn b e q).imp (P b) id;rintro r os' ⟨L,hput,q⟩ v F' H' Z M' o tr trs dz hf;have I3:Rl K F' H' S1 y σ:=#[o.fh,I2.len,λi s e=>by
   let#[w,g1,g2]:=I2.sl i s e;refine#[w,g1,g2.mono o.ff λb hb=>?_];let#[d1,d2]:=g2.dom b hb;have nM:¬ ∃j∈J,S j b:=λz=>N.nw i s e b z hb;refine#[?_,?_];cases e:c b with|none=>exact im e d1|some u=>exact o.hh b u e nM
   by_cases z:F' b=kv
   ·exact z
   exact((o.fn b d2 z).elim nM d1).elim,I2.dj]
  have nw3:∀b,(∃j∈J,S j b)∨c b=kv->∀(i:Nat) s,y[i]?=jr (jr s)->¬ S1 i b:=λb hb i s e z=>by rcases hb with hb|hb;exact N.nw i s e b hb z;exact(I2.dom e z).1 hb
  have hM':Held F' H' S1 y M':=#[trs.dom,λi s e b hb=>nw3 b (hf b (.inr hb)) i s e]
  let#[S2,I4,g2,g3]:=MM nd I3 trs mv hM' hput;have M:∀i s,L[i]?=jr (jr s)->(i∈J/\(∃t,s=.own t)/\∀b,S2 i b->M' b)∨(i∉J/\y[i]?=jr (jr s)/\S2 i=S1 i):=λi s e=>by by_cases hi:i∈J;exact .inl #[hi,g3 i hi s e];let#[G,B]:=g2 i hi;exact .inr #[hi,G▸e,B]
  have st:Ste F H S ρ F' H' S2 L:=#[#[m.ff.trans o.ff,λb u e n=>o.hh b u (m.hh b u e λz=>n (P b z)) λz=>n (up b z),λb e=>m.dm b (o.dm b e),λb e z=>by
    by_cases q:F2 b=kv;exact lk b (o.fn b q z);exact(m.fn b e q).imp (P b) id,
   λb #[i,t,h1,O]=>by
    rcases M i _ h1 with⟨_,_,e⟩| ⟨_,G,B⟩
    exact lk b (hf b (.inr (e b O)));rw[B]at O;exact(m.uu b #[i,t,G,O]).imp (P b) id,
   λj t e hd=>by
    rcases M j _ e with⟨_,⟨t',z⟩,_⟩| ⟨_,G,B⟩
    cases z;let#[b1,b2]:=m.bo j t G hd;exact#[(xD J ρ j _ b1).2,B.trans b2]],
   λj t e=>by
    rcases M j _ e with⟨A,_,_⟩| ⟨_,G,B⟩
    exact C j A;let#[t0,e0]:=m.ow j t G;exact#[t0,(xD J ρ j _ e0).2]]
  refine k v F' H' S2 L r kf Z st I4 #[tr,λ_ b hb=>?_,λz=>(by cases z),λ_ i s e b hb z=>?_] q;exact(lk b (hf b (.inl hb))).symm;rcases M i s e with⟨_,_,B⟩| ⟨_,G,B⟩
  ·exact dz b hb (B b z)
  rw[B]at z;exact nw3 b (hf b (.inl hb)) i s G z
end
section
variable{K:QA}{Γ:Ev}{Ψ:PEv}{E:XE}{O:XK}{F H F1 H1:Hp}{S S1:Ft}{ρ Q:xA}{σ:St}
section
variable{j i:Nat}{t s:T}{b:Bool}{G C:Hp}{B:Ft}{Y:xA}{W P Z:eB}{vs L:LV}{ts us:LT}{a:ko}{M o:HO}{v A J:V}{x y:D}{ks:List D}{R:Hp->Prop}{N:T->Prop}
theorem kC(z:ρ[j]?=jr (jr (.own t))){s:Sl}(h:(ρ.set j (jr (.bor t)))[i]?=jr (jr s)):(i=j/\s=.bor t)∨(i≠j/\ρ[i]?=jr (jr s)):=by
 rcases lA h with⟨rfl,e,_⟩| ⟨n,h⟩
 injection e with e;exact .inl #[rfl,e];exact .inr #[Q7 n,h]
theorem Rl.lock1(I:Rl K F H S ρ σ)(h:ρ[j]?=jr (jr (.own t))):Rl K F H S (ρ.set j (jr (.bor t))) σ where
 fh:=I.fh
 len:=by simpa using I.len
 sl:=λi s e=>by
  rcases kC h e with⟨rfl,rfl⟩| ⟨_,e⟩
  let#[v,g,f]:=I.sl i _ h;exact#[v,g,f.weak];exact I.sl i s e
 dj:=λi k u s n p m=>by
  rcases kC h p with⟨_,z⟩| ⟨r,w⟩
  cases z;rcases kC h m with⟨q,_⟩| ⟨_,l⟩
  ·exact I.dj i k u _ n w (q▸h)
  exact I.dj i k u s n w l
theorem Rl.lock1U(I:Rl K F H S ρ σ)(w:ρ[j]?=jr (jr (.own t)))(b:ko)(hb:S j b):¬ U (ρ.set j (jr (.bor t))) S b:=λ#[i,u,h,k]=>by
 rcases kC w h with⟨_,z⟩| ⟨n,h⟩
 cases z;exact I.dj i j u _ n h w b k hb
theorem lock1U(k:ρ[j]?=jr (jr (.own t))){b:ko}(h:U (ρ.set j (jr (.bor t))) S b):U ρ S b:=by
 let#[i,u,w,e]:=h;rcases kC k w with⟨_,z⟩| ⟨n,w⟩
 cases z;exact#[i,u,w,e]
theorem YF.lock1(X:YF K F H S ρ E O)(w:ρ[j]?=jr (jr (.own t))):YF K F H S (ρ.set j (jr (.bor t))) E O:=λx k G C B Y h f r q =>
 X x k G C (λ_ _=>False) [] #[h.ff,λb u e n=>h.hh b u e λz=>n (lock1U w z),h.dm,λb e z=>(h.fn b e z).imp (lock1U w) id,λb #[i,t,e,_]=>by simp at e,λj t e=>by simp at e] f r q
theorem pU(I:Rl K F H S ρ σ)(h:ρ[j]?=jr (jr (.own t)))(s:Ste F H S (ρ.set j (jr (.bor t))) G C B Y)(l:Rl K G C B Y σ){b:ko}(hb:S j b) :
  ∀(i:Nat) w,i≠j->Y[i]?=jr (jr w)->¬ B i b:=λi w n e z=>by
 cases w with
 |own u=>rcases s.uu b ⟨i,u,e,z⟩ with q|q;exact I.lock1U h b hb q;exact(I.dom h hb).1 q
 |bor u =>
  cases f:u.isD with
  |true=>exact l.isD e f z|false =>
   let#[k,g]:=s.bo i u e f;rw[g]at z;rcases kC h k with⟨q,_⟩| ⟨_,k⟩
   exact n q;exact I.dj j i t _ (Q7 n) h k b hb z
theorem HI{t':T}{v0:V}{m:Hp}{Z':eB}(I:Rl K F H S ρ σ)(w:ρ[j]?=jr (jr (.own t)))(hv:σ[j]?=jr (jr v0))(s:Ste F H S (ρ.set j (jr (.bor t))) G C B Y)(l:Rl K G C B Y σ)
  (hH:∀b u,C b=jr u->¬ S j b->m b=jr u) (dm:∀b,m b=kv->C b=kv) (r:Tr K G m kf v0 t' Z') (hz:∀b,Z' b->S j b∨W b∨C b=kv) (hw:Held G C B Y W) (frW:∀b,W b->H b=kv∨U (ρ.set j (jr (.bor t))) S b) :
  Ste F H S ρ G m (GH B j Z') (Y.set j (jr (.own t')))/\Rl K G m (GH B j Z') (Y.set j (jr (.own t'))) σ/\∀b,S j b∨W b∨C b=kv->∀(i:Nat) h,i≠j->Y[i]?=jr (jr h)->¬ B i b:=by
 have nw:∀b,S j b∨W b∨C b=kv->∀(i:Nat) h,i≠j->Y[i]?=jr (jr h)->¬ B i b:=λb hb i h n e z=>by rcases hb with hb|hb|hb;exact pU I w s l hb i h n e z;exact hw.nw i h e b hb z;exact(l.dom e z).1 hb
 have uj:∀b,S j b->U ρ S b:=λb hb=>#[j,t,w,hb]
 have lk:∀b,S j b∨W b∨C b=kv->U ρ S b∨H b=none:=λb hb=>by rcases hb with hb|hb|hb;exact .inl (uj b hb);exact(frW b hb).symm.imp (lock1U w) id;exact .inr (s.dm b hb)
 have fS:∀b,S j b->G b=none:=λb hb=>by
  by_cases q:G b=kv;exact q;rcases s.fn b (I.dom w hb).2 q with z|z
  ·exact im z (I.lock1U w b hb)
  exact im z (I.dom w hb).1
 have fh:Same G m:=λb u e=>hH b u (l.fh b u e) λz=>by rw[fS b z]at e;cases e
 have I3:Rl K G m B (Y.set j kv) σ:=#[fh,by simpa using l.len,λi h e=>by
   rcases lA e with⟨_,z,_⟩| ⟨n,e⟩
   cases z;let#[v,p,f]:=l.sl i h e;refine#[v,p,f.mono (.refl _) λb hb=>#[?_,(f.dom b hb).2]];cases eb:C b with|none=>exact im eb (f.dom b hb).1|some u=>exact hH b u eb λz=>pU I w s l z i h (Q7 n) e hb,
  λi k u h n g X=>by
   rcases lA g with⟨_,z,_⟩| ⟨_,g⟩
   cases z;rcases lA X with⟨_,z,_⟩| ⟨_,X⟩
   ·cases z
   exact l.dj i k u h n g X]
 have I4:=I3.setO j hv r λi h n e b hb=>by
  rcases lA e with⟨_,z,_⟩| ⟨_,e⟩
  cases z;exact nw b (hz b hb) i h n e
 have es:(Y.set j kv).set j (jr (.own t'))=Y.set j (jr (.own t')):=by simp
 rw[es]at I4;refine#[#[#[s.ff,λb u e n=>hH b u (s.hh b u e λz=>n (lock1U w z)) λz=>n (uj b z),λb e=>s.dm b (dm b e),λb e z=>(s.fn b e z).imp (lock1U w) id,λb #[i,u,p,f]=>?_,λi u e hd=>?_],λi u e=>?_],I4,nw];rcases lA p with⟨rfl,_,_⟩| ⟨n,p⟩
 ·rw[EA]at f
  exact lk b (hz b f)
 rw[ZA (Q7 n)]at f;exact(s.uu b #[i,u,p,f]).imp (lock1U w) id;rcases lA e with⟨rfl,z,_⟩| ⟨n,e⟩
 ·cases z
 let#[g,X]:=s.bo i u e hd;rcases kC w g with⟨z,_⟩| ⟨_,g⟩
 exact im z.symm n;exact#[g,by rw[ZA (Q7 n)];exact X];rcases lA e with⟨rfl,_,_⟩| ⟨n,e⟩
 ·exact#[t,w]
 let#[t0,e0]:=s.ow i u e;rcases kC w e0 with⟨_,z⟩| ⟨_,e0⟩
 cases z;exact#[t0,e0]
theorem Trs.erase{st:Bool}{S:eB}{k:Nat}(h:Trs K F H st vs ts S)(e:ts[k]?=jr t):∃v P1 u,vs[k]?=jr v/\Tr K F H st v t P1/\Trs K F H st (vs.eraseIdx k) (ts.eraseIdx k) u/\(∀b,P1 b->¬ u b)/\∀b,P1 b∨u b->S b:=by
 revert k;refine Trs.ind (R:=λst vs ts S=>∀{k:Nat},ts[k]?=jr t->∃v P1 u,vs[k]?=jr v/\Tr K F H st v t P1/\Trs K F H st (vs.eraseIdx k) (ts.eraseIdx k) u/\(∀b,P1 b->¬ u b)/\∀b,P1 b∨u b->S b) (λn k e=>by cases e) (λ{_ _ _ _ _ _ r _} h t n q f k e=>?_) h;cases k with|zero=>cases e;exact#[_,_,_,rfl,h,t,n,λb hb=>(q b).mpr hb]|succ k=>let#[v,P1,u,p,m,l,g,w]:=f (k:=k) e;refine#[v,P1,λb=>r b∨u b,p,m,.cons h l (λb hb z=>n b hb (w b (.inr z))) λb=>WQ,λb hb z=>z.elim (λz=>n b z (w b (.inl hb))) (g b hb),λb hb=>(q b).mpr ?_];rcases hb with hb|hb|hb;exact .inr (w b (.inl hb));exact .inl hb;exact .inr (w b (.inr hb))
theorem vJ{α:Type}:∀{l:List α}{k:α},l.Nodup->¬ k∈l->(l++[k]).Nodup
 |[],k,_,_=>by simp|a::r,k,h,hk=>by let#[u,z]:=Qj.mp h;show(a::(r++[k])).Nodup;refine Qj.mpr #[λm=>?_,vJ z λm=>hk (QK.mpr (Or.inr m))];rcases Qg.mp m with q|q;exact u q;exact hk (QK.mpr (Or.inl (QJ.mp q).symm))
theorem vM(h:F a=kv)(r:Trs K F H kf L us P)(n:¬ P a):Tr K F (CA H a (.lst L)) kf (.ref a) (.lst us) λb=>b=a∨P b :=
 .lst (S':=P) YA h (r.mono (.refl _) λb hb=>#[uA λz=>n (z▸hb),(r.dom b hb).2]) n λb=>WQ
theorem zD(w:Z a)(b:ko)(u:HO)(e:H b=jr u)(hb:¬ Z b):CA H a M b=jr u:=by have h:b≠a:=λz=>hb (by rw[z];exact w);rw[uA h];exact e
theorem DB(b:ko)(e:CA H a M b=kv):H b=none:=by by_cases hb:b=a;rw[hb,YA]at e;cases e;rw[uA hb]at e;exact e
theorem be{m:Mt}{N:T->T->Prop}{R:VK}(f:Same F H)(r:Tr K F H kf v s Z)(rv:Trs K F H kf vs ts W)(dj:∀b,Z b->¬ W b)(h:LL m s ts N)
  (k:∀w r s' H' S1 Zr,(∀b u,H b=jr u->¬ Z b->H' b=jr u)->(∀b,H' b=kv->H b=kv)->Tr K F H' kf v s' S1->Tr K F H' kf w r Zr->(∀b,Zr b->¬ S1 b)->(∀b,S1 b∨Zr b->Z b∨W b∨H b=kv)->N r s'->R w H'):ge K m v vs H R:=by
 cases m with
 |append =>
  let#[us0,t0,rfl,rfl,h]:=h;cases r with
  |@lst _ a xs _ _ S' h1 h2 l X e =>
   have g:Z a:=(e a).mpr (.inl rfl);cases rv with
   |@cons _ w t ws us _ W1 W2 p r2 n q =>
    cases r2 with
    |nil n2 =>
     have hW:∀b,W b↔W1 b:=λb=>by rw[q b];simp[n2 b]
     refine#[a,xs,w,rfl,rfl,h1,by rw[l.9];exact h.1,k .non (.d .none) _ _ _ (λ_=>False) (zD g) DB (vM h2 (Trs.append l (Trs.one p) λb hb hw=>dj b ((e b).mpr (.inr hb)) ((hW b).mpr hw)) λz=>z.elim X λz=>dj a g ((hW a).mpr z)) (.d .non λ_ z=>z) (λ_ z=>z.elim) (λb hb=>?_) h.2];rcases hb with(hb|hb|hb)|hb;exact .inl (hb▸g);exact .inl ((e b).mpr (.inr hb));exact .inr (.inl ((hW b).mpr hb));exact hb.elim
 |extend =>
  let#[us0,vs0,rfl,rfl,h]:=h;cases r with
  |@lst _ a xs _ _ S' h1 h2 l X e =>
   have g:Z a:=(e a).mpr (.inl rfl);cases rv with
   |@cons _ w t ws us _ W1 W2 p r2 n q =>
    cases r2 with
    |nil n2 =>
     have hW:∀b,W b↔W1 b:=λb=>by rw[q b];simp[n2 b]
     cases p with|@lst _ c zs _ _ B g1 g2 g3 g4 I=>have dw:∀b,B b->W b:=λb hb=>(hW b).mpr ((I b).mpr (.inr hb));refine#[a,c,xs,zs,rfl,rfl,h1,g1,by rw[l.9,g3.9];exact h.1,k .non (.d .none) _ _ _ (λ_=>False) (zD g) DB (vM h2 (Trs.append l g3 λb hb hw=>dj b ((e b).mpr (.inr hb)) (dw b hw)) λz=>z.elim X λz=>dj a g (dw a z)) (.d .non λ_ z=>z) (λ_ z=>z.elim) (λb hb=>?_) h.2];rcases hb with(hb|hb|hb)|hb;exact .inl (hb▸g);exact .inl ((e b).mpr (.inr hb));exact .inr (.inl (dw b hb));exact hb.elim
 |pop =>
  let#[us0,i,j,t0,rfl,rfl,hi,ht,q]:=h;cases r with
  |@lst _ a xs _ _ S' h1 h2 l X e =>
   have g:Z a:=(e a).mpr (.inl rfl);let#[w,P1,P2,g1,g2,g3,g4,I]:=l.erase ht;have na:¬ P1 a:=λz=>X (I a (.inl z));have nb:¬ P2 a:=λz=>X (I a (.inr z));cases rv with
   |cons p r2 n q2 =>
    cases r2;cases p with
    |d p n1 =>
     cases p;refine#[a,i,xs,j,w,rfl,rfl,h1,by rw[l.9];exact hi,g1,k w t0 _ _ _ P1 (zD g) DB (vM h2 g3 nb) (g2.mono (.refl _) λb hb=>#[uA λz=>na (z▸hb),(g2.dom b hb).2]) (λb hb z=>?_) (λb hb=>?_) q];rcases z with z|z
     ·exact na (z▸hb)
     exact g4 b hb z;rcases hb with(hb|hb)|hb
     ·exact .inl (hb▸g)
     exact .inl ((e b).mpr (.inr (I b (.inr hb))));exact .inl ((e b).mpr (.inr (I b (.inl hb))))
 |_=>exact h.elim
theorem Trs.setD(w:Rep K F A x){S:eB}(n:Nat)(h:Trs K F H kf vs ts S):∃P,Trs K F H kf (vs.set n A) (ts.set n (.d x)) P/\∀b,P b->S b:=by
 revert n;refine Trs.ind (R:=λst vs ts S=>∀n:Nat,∃P,Trs K F H st (vs.set n A) (ts.set n (.d x)) P/\∀b,P b->S b) (λ{_ S} z n=>#[S,.nil z,λ_ h=>h]) (λ{_ _ _ _ _ _ S1 B} h t m q k n=>?_) h;cases n with|zero=>exact#[B,.cons (S1:=λ_=>False) (.d w λ_ z=>z) t (λ_ z=>z.elim) λb=>by simp,λb hb=>(q b).mpr (.inr hb)]|succ n=>let#[P,e,u]:=k n;exact#[λb=>S1 b∨P b,.cons h e (λb hb z=>m b hb (u b z)) λb=>WQ,λb hb=>(q b).mpr (hb.imp id (u b))]
theorem Trs.part{S:eB}(h:Trs K F H kf vs ts S)(e:ts[i]?=jr t):∃v S1,vs[i]?=jr v/\Tr K F H kf v t S1/\(∀b,S1 b->S b) /\
  ∀(w:Hp) t' u,(∀b,S b->¬ S1 b->w b=H b)->Tr K F w kf v t' u->(∀b,u b->S1 b)->∃P,Trs K F w kf vs (ts.set i t') P/\∀b,P b->S b:=by
 revert i;refine Trs.ind (R:=λst vs ts S=>∀{i:Nat},ts[i]?=jr t->∃v S1,vs[i]?=jr v/\Tr K F H st v t S1/\(∀b,S1 b->S b)/\∀(w:Hp) t' u,(∀b,S b->¬ S1 b->w b=H b)->Tr K F w st v t' u->(∀b,u b->S1 b)->∃P,Trs K F w st vs (ts.set i t') P/\∀b,P b->S b) (λn i e=>by cases e) (λ{_ _ _ _ _ _ m P2} h t n q p i e=>?_) h;cases i with|zero=>cases e;exact#[_,m,rfl,h,λb hb=>(q b).mpr (.inl hb),λw t' u k r f=>#[λb=>u b∨P2 b,.cons r (t.mono (.refl _) λb hb=>#[k b ((q b).mpr (.inr hb)) λz=>n b z hb,(t.dom b hb).2]) (λb hb z=>n b (f b hb) z) λb=>WQ,λb hb=>(q b).mpr (hb.imp (f b) id)]]|succ i=>let#[v,S1,h1,h2,g,I]:=p (i:=i) e;refine#[v,S1,h1,h2,λb hb=>(q b).mpr (.inr (g b hb)),λw t' u k r f=>?_];let#[P,g1,l]:=I w t' u (λb hb X=>k b ((q b).mpr (.inr hb)) X) r f;exact#[λb=>m b∨P b,.cons (h.mono (.refl _) λb hb=>#[k b ((q b).mpr (.inl hb)) λz=>n b hb (g b z),(h.dom b hb).2]) g1 (λb hb z=>n b hb (l b z)) λb=>WQ,λb hb=>(q b).mpr (hb.imp id (l b))]
def Yv(ks:List D)(k:D):List D:=match cA ks k with
 |some _=>ks|none=>ks++[k]
def dv{α:Type}(ks:List D)(vs:List α)(k:D)(x:α):List α:=match cA ks k with
 |some n=>vs.set n x|none=>vs++[x]
theorem RQ{α h:Type}[DecidableEq α](k:α)(key:h->α)(f:h->h)(hf:∀p,key (f p)=key p):∀(l:List h) (n:Nat),(l.map key).Nodup->(l.map key)[n]?=jr k->(∀(g:h->V) (x:V),(∀p,key p=k->g (f p)=x)->(l.map λp=>if key p=k then f p else p).map g=(l.map g).set n x)
 |[],n,_,e=>by simp at e|p::r,0,nd,e=>by
  intro g x w;have e:key p=k:=by simpa using e
  rw[QX]at nd;let#[u,m]:=Qj.mp nd;have e2:(r.map λp=>if key p=k then f p else p)=r:=by rw[show r=r.map id from(QCd r).symm,QW];refine wK λq I=>?_;have:key q≠k:=λz=>u (QR.mpr #[q,by simpa using I,z.trans e.symm]);simp[this]
  rw[QX,e2,QX,QX,a9 e,w p e];rfl
 |p::r,n+1,nd,e=>by
  intro g x w;rw[QX]at nd;let#[u,m]:=Qj.mp nd;have e:(r.map key)[n]?=jr k:=by simpa using e
  have X:¬ key p=k:=λz=>u (by rw[z];exact qN e);rw[QX,QX,QX,a8 X,RQ k key f hf r n m e g x w];rfl
theorem put_keys{α h z:Type}[DecidableEq α](k:α)(key:h->α)(f:h->h)(g:h->z)(u:∀p,g (f p)=g p)(l:List h):(l.map λp=>if key p=k then f p else p).map g=l.map g:=by rw[QW];refine wK λp _=>?_;show g (if key p=k then f p else p)=g p;split;exact u p;rfl
theorem OJ.put{k:D}(f:Same F H)(ha:H a=jr o)(dk:OJ K F b o ks vs)(ry:Rep K F J k)(hk:aD b k)(hl:ks.9<kn)
  (kk:∀o',OJ K F b o' (Yv ks k) (dv ks vs k A)->R (CA H a o')):rT K (.ref a) J A H R:=by
 cases b with
 |true =>
  let#[ep,u,rfl,rfl,rfl,h4,X]:=dk;cases FR hk ry with
  |intro q h =>
   let#[p,rfl,rfl,hq]:=h;refine#[ep,u,q,ha,λp hp=>f.key (h4 p hp),f.key hq,by simpa using hl,λI=>kk _ ?_];have w:=GG q u;unfold LM Yv dv;cases e:cA (u.map λp=>tD p.1) (tD q) with
   |none =>
    rw[e]at w;have w:dH u q=none:=w;rw[w];refine#[I,u++[(q,p,A)],rfl,by simp,by simp,λx l=>?_,?_];rcases Qg.mp l with l|l
    ·exact h4 x l
    rw[QJ.mp l];exact hq;rw[QO];refine vJ X λm=>kB.mp e ?_;let#[x,l,ex]:=QR.mp m;exact QR.mpr #[x,l,by rw[ex]]
   |some n =>
    rw[e]at w;have g:=BC e;have r:(u.map (·.1))[n]?=jr q:=by
     rw[Qa]at g ⊢;cases en:u[n]? with|none=>rw[en]at g;cases g|some x=>rw[en]at g;rw[Q1,Qr]at g ⊢;exact bW g
    have hs:(dH u q).isSome=true:=by
     rw[w];have:n<u.length:=by have:=(Qi.mp r).1;simpa using this
     simp[this]
    rw[a9 hs];refine#[I,_,rfl,(put_keys q (·.1) (λp=>(p.1,p.2.1,A)) (λp=>tD p.1) (λ_=>rfl) u).symm,(RQ q (·.1) (λp=>(p.1,p.2.1,A)) (λ_=>rfl) u n X r (·.2.2) A λ_ _=>rfl).symm,λx l=>?_,?_];let#[y,hy,ey]:=QR.mp l;have hy:=h4 y hy;by_cases z:y.1=q;rw[a9 z]at ey;subst ey;exact hy;rw[a8 z]at ey;subst ey;exact hy;have:=put_keys q (·.1) (λp:KE=>(p.1,p.2.1,A)) (·.1) (λ_=>rfl) u;rw[this];exact X
 |false =>
  let#[z,rfl]:=hk;cases ry;rcases dk with⟨u,hne,rfl,rfl,rfl,X⟩| ⟨ep,rfl,rfl,rfl⟩
  rotate_left
  exact .inr #[ep,ha,kk _ (.inl #[[(.inr z,A)],by simp,rfl,rfl,rfl,by simp])];refine .inl #[u,ha,by simpa using hl,kk _ (.inl ?_)];have w:=AJ (.inr z) u;have ez:kD (.inr z)=.str z:=rfl;rw[ez]at w;unfold eW Yv dv;rw[ES];cases e:cA (u.map λp=>kD p.1) (.str z) with
  |none=>rw[e]at w;have w:pM u (.inr z)=none:=w;rw[w];refine#[u++[(.inr z,A)],by simp,rfl,by simp[ez],by simp,?_];rw[QO];refine vJ X λm=>kB.mp e ?_;let#[x,l,ex]:=QR.mp m;exact QR.mpr #[x,l,by rw[ex];rfl]|some n =>
   rw[e]at w;have g:=BC e;have r:(u.map (·.1))[n]?=jr (.inr z):=by
    rw[Qa]at g ⊢;cases en:u[n]? with|none=>rw[en]at g;cases g|some x=>rw[en]at g;rw[Q1,Qr]at g ⊢;exact x9 g
   have hs:(pM u (.inr z)).isSome=true:=by
    rw[w];have:n<u.length:=by have:=(Qi.mp r).1;simpa using this
    simp[this]
   rw[a9 hs];refine#[_,by simpa using hne,rfl,(put_keys (.inr z) (·.1) (λp=>(p.1,A)) (λp=>kD p.1) (λ_=>rfl) u).symm,(RQ (.inr z) (·.1) (λp=>(p.1,A)) (λ_=>rfl) u n X r (·.2) A λ_ _=>rfl).symm,?_];have:=put_keys (.inr z) (·.1) (λp:Key×V=>(p.1,A)) (·.1) (λ_=>rfl) u;rw[this];exact X
theorem xS(h:F a=kv)(u:OJ K F b o ks L)(r:Trs K F H kf L us P)(n:¬ P a):Tr K F (CA H a o) kf (.ref a) (.dct b ks us) λb=>b=a∨P b :=
 .dct (S':=P) YA u h (r.mono (.refl _) λb hb=>#[uA λz=>n (z▸hb),(r.dom b hb).2]) n λb=>WQ
theorem k6(f:Same F H)(r:Tr K F H kf v s Z)(ry:Rep K F J y)(rx:Rep K F A x)(h:mq s y x N)
  (k:∀s' H' S1,(∀b u,H b=jr u->¬ Z b->H' b=jr u)->(∀b,H' b=kv->H b=kv)->Tr K F H' kf v s' S1->(∀b,S1 b->Z b)->N s'->R H'):rT K v J A H R:=by
 cases s with
 |lst ts =>
  cases y with
  |int i =>
   let#[n,hn,q]:=h;cases ry;cases r with|@lst _ a xs _ _ S' h1 h2 m I l=>have g:Z a:=(l a).mpr (.inl rfl);let#[P,X,p]:=m.setD rx n;refine#[xs,n,h1,by rw[m.9];exact hn,k _ _ _ (zD g) DB (vM h2 X λz=>I (p a z)) (λb hb=>?_) q];rcases hb with hb|hb;exact hb▸g;exact(l b).mpr (.inr (p b hb))
  |_=>exact h.elim
 |dct b ks ts =>
  let#[hk,hl,q]:=h;cases r with
  |@dct _ _ a o _ vs _ _ S' h1 dk h2 m I l =>
   have g:Z a:=(l a).mpr (.inl rfl);refine dk.put f h1 ry hk hl λo' w=>?_;unfold Yv dv at w;unfold xK at q;cases e:cA ks y with
   |some n=>rw[e]at w q;let#[P,X,p]:=m.setD rx n;refine k _ _ _ (zD g) DB (xS h2 w X λz=>I (p a z)) (λb hb=>?_) q;rcases hb with hb|hb;exact hb▸g;exact(l b).mpr (.inr (p b hb))
   |none=>rw[e]at w q;have X:=Trs.append m (Trs.one (Tr.d (S:=λ_=>False) rx λ_ z=>z)) λ_ _ z=>z;refine k _ _ _ (zD g) DB (xS h2 w X λz=>z.elim I id) (λb hb=>?_) q;rcases hb with hb|hb|hb;exact hb▸g;exact(l b).mpr (.inr hb);exact hb.elim
 |_=>exact h.elim
theorem OJ.vs_inj{m:Hp}{f:List D}{u:LV}(h:OJ K F b o ks vs)(h':OJ K m b o f u):vs=u:=by
 cases b with|true=>let#[l,k,e,_,rfl,_]:=h;let#[g,w,z,_,rfl,_]:=h';rw[e]at z;cases z;rfl|false=>rcases h with⟨k,_,e,_,rfl,_⟩| ⟨l,e,_,rfl⟩<;>rcases h' with⟨w,_,z,_,rfl,_⟩| ⟨g,z,_,rfl⟩<;>rw[e]at z<;>cases z<;>rfl
theorem jc{F0:Hp}{n:Nat}{w:V}(f:Same F H)(r:Tr K F H kf (.ref a) (.dct b ks ts) Z)(l:H a=jr o)(q:OJ K F0 b o ks vs)(hw:vs[n]?=jr w)(ht:ts[n]?=jr s)
  (ry:Rep K F J y) (rx:Rep K F A x) (h:mq s y x N)
  (k:∀s' g S1,(∀b u,H b=jr u->¬ Z b->g b=jr u)->(∀b,g b=kv->H b=kv)->Tr K F g kf (.ref a) (.dct b ks (ts.set n s')) S1->(∀b,S1 b->Z b)->N s'->R g):rT K w J A H R:=by
 cases r with
 |@dct _ _ a o' _ vs' _ _ S' h1 dk h2 h3 h4 p =>
  rw[l]at h1;cases h1;cases q.vs_inj dk;have ha:Z a:=(p a).mpr (.inl rfl);let#[w',S1,g1,g2,g3,g4]:=h3.part ht;rw[hw]at g1;cases g1;refine k6 f g2 ry rx h λs' g X hh dm rs sub q2=>?_;have keep:∀b,¬ S1 b->H b≠kv->g b=H b:=λb hb m=>by
   cases e:H b with|none=>exact im e m|some u=>exact hh b u e hb
  have na:¬ S1 a:=λz=>h4 (g3 a z);let#[P,p1,I]:=g4 g s' X (λb hb m=>keep b m (h3.dom b hb).1) rs sub;refine k _ g (λb=>b=a∨P b) (λb u e hb=>hh b u e λz=>hb ((p b).mpr (.inr (g3 b z)))) dm (.dct (S':=P) ((keep a na (by rw[l];simp)).trans l) dk h2 p1 (λz=>h4 (I a z)) λb=>WQ) (λb hb=>?_) q2;rcases hb with hb|hb;exact hb▸ha;exact(p b).mpr (.inr (I b hb))
theorem Vj{p:ko}(f:Same F H)(X:H p=kv)(r:Tr K F H kf v t Z)(ry:Rep K F J y)(h:Kj y t N)
  (k:∀s' l S1,(∀b u,H b=jr u->¬ Z b->l b=jr u)->(∀b,l b=kv->H b=kv)->Tr K F l kf v s' S1->(∀b,S1 b->Z b∨b=p)->N s'->R l):EL K v [J,.ref p] (CA H p (.dT 0 [])) λ_ l=>R l:=by
 let#[ks,ts,rfl,hk,hl,h]:=h;cases r with
 |@dct _ _ a o _ vs _ _ S' h1 dk h2 h3 h4 h5 =>
  have ha:Z a:=(h5 a).mpr (.inl rfl);let#[ep,w,rfl,rfl,rfl,d4,d5]:=dk;have ap:a≠p:=iA h1 X;have fp:F p=none:=f.free X;have sm:Same H (CA H p (.dT 0 [])):=PB X;cases FR hk ry with
  |intro q hh =>
   let#[c,rfl,rfl,hq]:=hh;have vf:=GG q w;refine#[a,c,.ref p,ep,w,q,rfl,rfl,(uA ap).trans h1,λx g=>(f.trans sm).key (d4 x g),(f.trans sm).key hq,by simpa using hl,λu eu=>?_,λen I=>?_];rcases h with⟨n,e,q⟩| ⟨e,q⟩
   ·have r0:Tr K F H kf (.ref a) (.dct kf (w.map λp=>tD p.1) ts) Z:=.dct h1 #[ep,w,rfl,rfl,rfl,d4,d5] h2 h3 h4 h5
    refine k _ _ Z (λb u e _=>sm b u e) (λb e=>DB b e) (r0.mono (.refl _) λb hb=>#[uA λz=>(r0.dom b hb).1 (by rw[z];exact X),(r0.dom b hb).2]) (λb hb=>.inl hb) q
   rw[e]at vf;rw[vf]at eu;cases eu;rcases h with⟨n,e,q⟩| ⟨e,q2⟩
   ·have hn:=BC e
    rw[e]at vf;have:n<w.length:=by have:=(Qi.mp hn).1;simpa using this
    rw[vf]at en;have en:(w.map (·.2.2))[n]?=none:=en;rw[List.getElem?_eq_none_iff,QC]at en;omega
   have ep2:LM w q c (.ref p)=w++[(q,c,.ref p)]:=by unfold LM;rw[en];rfl
   rw[ep2];have np:¬ S' p:=λz=>(h3.dom p z).1 X;have g0:Tr K F (CA H p (.dT 0 [])) kf (.ref p) (.dct kf [] []) λb=>b=p :=
    .dct (S':=λ_=>False) (vs:=[]) YA #[0,[],rfl,rfl,rfl,λ_ z=>(nomatch z),Qq] fp (.nil λ_ z=>z) (λz=>z) λb=>by simp
   have g3:Trs K F (CA H p (.dT 0 [])) kf (w.map (·.2.2)) ts S':=h3.mono (.refl _) λb hb=>#[uA λz=>np (z▸hb),(h3.dom b hb).2]
   have g1:=Trs.append g3 (Trs.one g0) λb hb z=>np (z▸hb);have dk':OJ K F kf (.dT I (w++[(q,c,.ref p)])) ((w.map λp=>tD p.1)++[tD q]) (w.map (·.2.2)++[.ref p]):=by
    refine#[I,_,rfl,by simp,by simp,λx g=>?_,?_];rcases Qg.mp g with g|g
    ·exact d4 x g
    rw[QJ.mp g];exact hq;rw[QO];refine vJ d5 λm=>kB.mp e ?_;let#[x,g,ex]:=QR.mp m;exact QR.mpr #[x,g,by rw[ex]]
   refine k _ _ _ (λb u e hb=>?_) (λb e=>DB b (DB b e)) (xS h2 dk' g1 λz=>z.elim h4 ap) (λb hb=>?_) q2;rw[uA λz=>hb (by rw[z];exact ha)];exact sm b u e;rcases hb with hb|hb|hb
   ·exact .inl (hb▸ha)
   exact .inl ((h5 b).mpr (.inr hb));exact .inr hb
end
end
section
variable{K:QA}{Γ:Ev}{Ψ:PEv}
section
variable{p:PX}{F H:Hp}{S:Ft}{ρ:xA}{Z:eB}
noncomputable abbrev C4(K:QA)(Γ:Ev)(Ψ:PEv)(p:PX):Prop:=∀{E:XE}{x:XK}{F H:Hp}{S:Ft}{ρ:xA}{h:St}{Q:TK}{R:VK},Rl K F H S ρ h->YF K F H S ρ E x->(pe Ψ p E).e ρ Q->dB K (GF p) F H S ρ h Q R->(wp K Γ p x).e h H R
theorem vW(f:C4 K Γ Ψ p){E:XE}{w:XK}{σ:St}{Q:Bool->xA->Prop}{R:Bool->Hp->Prop}(I:Rl K F H S ρ σ)(X:YF K F H S ρ E w)(h:(pe Ψ p E).e ρ λt _ y=>sI t.er λb=>Q b y)(k:MJ K F H S ρ σ Q R) :
  (wp K Γ p w).e σ H λx i=>fH K x i R :=
 f I X h λv l j g z t n Z s u r q=>iY (r.tr.rep u.fh) q λc a=>k c l j g z s u a
theorem PSnd.of_e(w:∀E ρ Q,(pe Ψ p E).t ρ Q=(pe Ψ p E).e ρ λt _ y=>sI t.er λb=>Q b y)(z:∀v σ H R,(wp K Γ p v).t σ H R=(wp K Γ p v).e σ H λx g=>fH K x g R)(f:∀E,(pe Ψ p E).a=vE.a)(u:C4 K Γ Ψ p):PSnd K Γ Ψ p where
 e:=u
 t:=λI X h k=>by rw[w]at h;rw[z];exact vW u I X h k
 a:=λI X _ h k=>by rw[f]at h;exact h.elim
theorem PSnd.of_0(x:∀E,(pe Ψ p E).t=vE.t)(z:∀E,(pe Ψ p E).a=vE.a)(y:C4 K Γ Ψ p):PSnd K Γ Ψ p where
 e:=y
 t:=λI X h k=>by rw[x]at h;exact h.elim
 a:=λI X _ h k=>by rw[z]at h;exact h.elim
theorem PSnd.of_t(l:∀E ρ Q,(pe Ψ p E).e ρ Q=(pe Ψ p E).t ρ λb u=>Q (.d (.bool b)) kd u)(v:∀z σ H R,(wp K Γ p z).t σ H R=(wp K Γ p z).e σ H λx n=>Ua x n R)(m:∀E,(pe Ψ p E).a=vE.a)
  (f:∀{E:XE}{z:XK}{F H:Hp}{S:Ft}{ρ:xA}{σ:St}{Q:Bool->xA->Prop}{R:VK},Rl K F H S ρ σ->YF K F H S ρ E z->(pe Ψ p E).t ρ Q->MJ K F H S ρ σ Q (λb=>R (.bl b))->(wp K Γ p z).e σ H R):PSnd K Γ Ψ p where
 e:=λI X h k=>by rw[l]at h;exact f I X h λb j i g y s w q=>dB.d k s w (.bl b) q
 t:=λI X h k=>by rw[v];exact f I X h λb j i g y s w q=>k b j i g y s w q
 a:=λI X _ h k=>by rw[m]at h;exact h.elim
theorem Sf(i:Nat):C4 K Γ Ψ (.var i):=by
 intro E a F H S ρ y Q R I X h k;have x:pv ρ[i]? λt=>Q t kd ρ:=h;show(match y[i]? with|some (jr v)=>R v H|_=>False);have key:∀s,ρ[i]?=jr (jr s)->Q s.t kd ρ->(match y[i]? with|some (jr v)=>R v H|_=>False):=λs e q=>by let#[v,w,u]:=I.sl i _ e;rw[w];exact k v F H S ρ s.t kd (S i) .refl I #[u.weak,λz=>(by cases z),λ_ b hb=>#[i,s,QJ.mpr rfl,e,hb],λz=>(by cases z)] q
 unfold pv at x;split at x;rename_i e;exact key _ e x;rename_i e;exact key _ e x;exact x.elim;exact x.elim
theorem Ll{m:Mt}{v:V}{s:T}(h:isMut m=kf)(x:xJ m s=kf)(r:Tr K F H kf v s Z):M4 K m.ty v H:=by
 unfold xJ at x;split at x;cases r with
 |lst y _ _ _ _ =>
  refine .inl #[?_,_,nC.of y];cases m with|append=>rfl|pop=>rfl|extend=>rfl|_=>cases x
 cases x
theorem Iw{m:Mt}{o g:PX}(io:PSnd K Γ Ψ o)(ia:PSnd K Γ Ψ g):C4 K Γ Ψ (.mt m o g):=by
 intro E EK F H S ρ L Q R I X h k;show(wp K Γ o EK).e L H λx J=>M4 K m.ty x J/\(wp K Γ g EK).a L J λA l=>ge K m x A l R;cases hm:isMut m with
 |false =>
  have h:(pe Ψ o E).e ρ λx n M=>B8 m (nA x n).vw=kf/\sq (nA x n) M ((pe Ψ g E).a []) λf y=>Jv m (nA x n).vw (CB f) λz k=>Q z k y:=by have C:(if isMut m=kf then _ else _):=h;rw[hm,a8 (by simp)]at C;exact C
  refine jq (P1:=λx n=>B8 m (nA x n).vw=kf) (R1:=λv J=>M4 K m.ty v J) (RR:=λv A l=>ge K m v A l R) io ia I X h (λv F' H' x n Za r p=>Dr r p) λv A F' H' S' ρ' x n f Za Y s I' X' r _ tn q=>?_;rw[gM _ rfl]at q;exact Ml s I' r tn q k
 |true =>
  have h:gg (L6 o) λj=>AC ρ[j]? λt=>xJ m t=kf/\(pe Ψ g E).a [] (ρ.set j (jr (.bor t))) λf y=>UE f=kf/\y[j]?=jr (jr (.bor t))/\LL m t (DF f) λr s'=>Q r kf (y.set j (jr (.own s'))):=by have C:(if isMut m=kf then _ else _):=h;rw[hm,a9 rfl]at C;exact C
  cases o with
  |var j =>
   have h:AC ρ[j]? _:=h;unfold AC at h;split at h;rename_i t u;let#[ht,q1]:=h;let#[v0,hv,B]:=I.sl j _ u;have IL:=I.lock1 u;have n0:=I.lock1U u;have B:Tr K F H kf v0 t (S j):=B;have XL:=X.lock1 u;show(match L[j]? with|some (jr v)=>_|_=>False);rw[hv];refine#[Ll hm ht B,?_];refine ia.a (md:=[]) IL XL (λj u=>by cases g<;>cases u) q1 λA F2 l S2 y f W Y N I2 G _ P=>?_;let#[he,hj2,P]:=P;have r2:Tr K F2 l kf v0 t (S j):=N.toStp.keep B n0;have hw:=G.held;have trs:=G.av.trs Bl he;have wS:∀b,S j b->¬ W b:=λb hb hb2=>by rcases G.fr b hb2 with q|q;exact(B.dom b hb).1 q;exact n0 b hb q
   refine be I2.fh r2 trs wS P λw r s' H3 S3 Zr hh dm O rr dz hf q=>?_;let#[st,I3,nw]:=HI I u hv N I2 hh dm O (λb hb=>hf b (.inl hb)) hw G.fr;have zr:∀b,Zr b->S j b∨W b∨l b=none:=λb hb=>hf b (.inr hb);refine k w F2 H3 _ _ r kf Zr st I3 #[rr,λ_ b hb=>?_,λz=>(by cases z),λ_ i sl e b hb z=>?_] q;rcases zr b hb with q|q|q
   ·exact .inr #[j,t,u,q]
   exact(G.fr b q).imp id (lock1U u);exact .inl (N.dm b q);rcases lA e with⟨rfl,_,_⟩| ⟨n,e⟩
   ·rw[EA]at z
    exact dz b hb z
   rw[ZA (Q7 n)]at z;exact nw b (zr b hb) i sl (Q7 n) e z
   all_goals exact h.elim
  |_=>exact h.elim
theorem dB.dct{ws:LN}{F H x y:Hp}{S S1:Ft}{ρ h:xA}{σ:St}{Q:TK}{R:VK}(k:dB K ws F H S ρ σ Q R)(s:Ste F H S ρ x y S1 h)(I:Rl K x y S1 h σ){p:ko}(g:H p=kv)(m:x p=kv)(j:Held x y S1 h λb=>b=p){o:HO}{b:Bool}{ks:List D}{vs:LV}{ts:LT}{W:eB}(B:OJ K x b o ks vs)(r:Trs K x y kf vs ts W)
  (fr:∀b,W b->H b=kv∨U ρ S b) (f:Held x y S1 h W) (a:¬ W p) (q:Q (.dct b ks ts) kf h):R (.ref p) (CA y p o):=by
 have Y:∀b u,H b=jr u->b≠p:=λb u e=>iA e g;have X:Ste F H S ρ x (CA y p o) S1 h:=#[#[s.ff,λb u e n=>by rw[uA (Y b u e)];exact s.hh b u e n,λb e=>s.dm b (DB b e),s.fn,s.uu,s.bo],s.ow]
 have C:Rl K x (CA y p o) S1 h σ:=#[λb u e=>by rw[uA λz=>by rw[z,m]at e;cases e];exact I.fh b u e,I.len,λi w e=>by let#[v,A,l]:=I.sl i w e;exact#[v,A,l.mono (.refl _) λb hb=>#[uA λz=>j.nw i w e b z hb,(l.dom b hb).2]],I.dj]
 refine k _ x _ S1 h _ kf (λb=>b=p∨W b) X C #[.dct YA B m (r.mono (.refl _) λb hb=>#[uA λz=>a (z▸hb),(f.dom b hb).2]) a (λb=>WQ),λ_ b hb=>?_,λz=>(by cases z),λ_ i w e b hb z=>?_] q;rcases hb with hb|hb
 ·exact .inl (hb▸g)
 exact fr b hb;rcases hb with hb|hb
 ·exact j.nw i w e b hb z
 exact f.nw i w e b hb z
theorem VR.strict{u y:Hp}{S1:Ft}{h:xA}{ws:LN}{v:V}{t:T}{n:Bool}(r:VR K ws H S ρ u y S1 h v t n Z)(e:KH t n=kf):∃W,Tr K u y kf v t W/\Held u y S1 h W/\∀b,W b->H b=kv∨U ρ S b:=by
 cases n with
 |true=>exact#[Z,r.tr,r.held,r.fr rfl]|false =>
  have w:=r.tr;cases t with
  |d x=>cases w with|d q _=>exact#[λ_=>False,.d q λ_ z=>z,.none,λ_ z=>z.elim]
  |_=>cases e
theorem DU{σ:St}(I:Rl K F H S ρ σ){p:ko}(h:H p=kv)(o:HO):Held F (CA H p o) S ρ λb=>b=p :=
 #[λb hb=>#[by rw[hb,YA];simp,by rw[hb];exact I.fh.free h],λi x e b hb z=>(I.dom e z).1 (by rw[hb];exact h)]
theorem NA(g:GOk K Γ Ψ):∀(p:PX),PSnd K Γ Ψ p
 | .var i=>#[Sf i,λI X h k=>vW (Γ:=Γ) (Ψ:=Ψ) (Sf i) I X h k,λI X _ h k=>h.elim]|.int i=>#[λI X h k=>dB.d k .refl I (.int i) h,λI X h k=>k _ _ _ _ _ .refl I h,λI X _ h k=>h.elim]|.str x=>#[λI X h k=>dB.d k .refl I (.str x) h,λI X h k=>h.elim,λI X _ h k=>h.elim]|.bl b=>#[λI X h k=>dB.d k .refl I (.bl b) h,λI X h k=>k _ _ _ _ _ .refl I h,λI X _ h k=>h.elim]|.non=>#[λI X h k=>dB.d k .refl I .non h,λI X h k=>k _ _ _ _ _ .refl I h,λI X _ h k=>h.elim]|.glo x=>.of_e (λ_ _ _=>rfl) (λ_ _ _ _=>rfl) (λ_=>rfl) λ{E M F H S ρ G Q R} I X h k=>by have h:(match Ψ.va x with|some d=>Q (.d d) kd ρ|none=>False):=h;split at h;rename_i d e;exact dB.d k .refl I (g.va x d e F) h;exact h.elim
 | .bin op a b=>.of_e (λ_ _ _=>rfl) (λ_ _ _ _=>rfl) (λ_=>rfl) λ{E M F H S ρ G Q R} I X h k =>
  P5 (P:=λx n y m L=>binT op (nA x n).vw (nA y m).vw λz k=>Q z k L) (RR:=λx y H2=>Vf K op x y H2 R) (NA g a) (NA g b) I X h λv w F' H' S' B x n y m Za Zb s C X' ra _ rb q=>Gn s C ra rb q k
 | .cmp op a b=>.of_t (λ_ _ _=>rfl) (λ_ _ _ _=>rfl) (λ_=>rfl) λ{E M F H S ρ G Q R} I X h k =>
  P5 (P:=λx n y m L=>uf op x.er (nA y m) λk=>Q k L) (RR:=λx y H2=>ja K op x y H2 R) (NA g a) (NA g b) I X h λv w F' H' S' B x n y m Za Zb s C X' ra _ rb q =>
   xf C.fh (by have:=ra.rep C.fh;rwa [UZ]at this) rb q λc qc=>k c F' H' S' B s C qc
 | .and a b=>#[λ{E M F H S ρ G Q R} I X h k=>by
   refine(NA g a).e (Q:=λx _ A=>An x.er λc=>if c=kf then(pe Ψ b E).e A Q else Q (.d (.bool kd)) kd A) (R:=λx J=>Ua x J λc H2=>if c=kf then(wp K Γ b M).e G H2 R else R (.bl kd) H2) I X h λv F' H' S' B x n Z s C r q=>?_;refine Xa (r.tr.rep C.fh) q λc qc=>?_;cases c with|false=>exact dB.d k s C (.bl kd) qc|true=>exact(NA g b).e C (X.from s.toStp) qc ((k.from s).vars λi hi=>QU _ hi),
  λ{E M F H S ρ G Q R} I X h k=>by
   refine(NA g a).t (Q:=λc A=>if c=kf then(pe Ψ b E).t A Q else Q kd A) (R:=λc J=>if c=kf then(wp K Γ b M).t G J R else R kd J) I X h λc F' H' S' B s C qc=>?_;cases c with|false=>exact k _ F' H' S' B s C qc|true=>exact(NA g b).t C (X.from s.toStp) qc (MJ.from k s),λI X _ h k=>h.elim]
 | .or a b=>#[λ{E M F H S ρ G Q R} I X h k=>by
   refine(NA g a).e (Q:=λx _ A=>An x.er λc=>if c=kf then Q (.d (.bool kf)) kd A else(pe Ψ b E).e A Q) (R:=λx J=>Ua x J λc H2=>if c=kf then R (.bl kf) H2 else(wp K Γ b M).e G H2 R) I X h λv F' H' S' B x n Z s C r q=>?_;refine Xa (r.tr.rep C.fh) q λc qc=>?_;cases c with|true=>exact dB.d k s C (.bl kf) qc|false=>exact(NA g b).e C (X.from s.toStp) qc ((k.from s).vars λi hi=>QU _ hi),
  λ{E M F H S ρ G Q R} I X h k=>by
   refine(NA g a).t (Q:=λc A=>if c=kf then Q kf A else(pe Ψ b E).t A Q) (R:=λc J=>if c=kf then R kf J else(wp K Γ b M).t G J R) I X h λc F' H' S' B s C qc=>?_;cases c with|true=>exact k _ F' H' S' B s C qc|false=>exact(NA g b).t C (X.from s.toStp) qc (MJ.from k s),λI X _ h k=>h.elim]
 | .not a=>#[λ{E M F H S ρ G Q R} I X h k=>by
   refine(NA g a).e (Q:=λx _ A=>sI x.er λc=>Q (.d (.bool (!c))) kd A) (R:=λx J=>fH K x J λc H2=>R (.bl (!c)) H2) I X h λv F' H' S' B x n Z s C r q=>?_;exact iY (r.tr.rep C.fh) q λc qc=>dB.d k s C (.bl _) qc,
  λ{E M F H S ρ G Q R} I X h k=>(NA g a).t (Q:=λc A=>Q (!c) A) (R:=λc J=>R (!c) J) I X h λc F' H' S' B s C qc=>k _ F' H' S' B s C qc,λI X _ h k=>h.elim]
 | .ife c a b=>.of_0 (λ_=>rfl) (λ_=>rfl) λ{E M F H S ρ G Q R} I X h k=>by
  refine(NA g c).t (Q:=λk A=>if k=kf then(pe Ψ a E).e A Q else(pe Ψ b E).e A Q) (R:=λk J=>if k=kf then(wp K Γ a M).e G J R else(wp K Γ b M).e G J R) I X h λc F' H' S' B s C qc=>?_;cases c with|true=>exact(NA g a).e C (X.from s.toStp) qc ((k.from s).vars λi hi=>Qn _ hi)|false=>exact(NA g b).e C (X.from s.toStp) qc ((k.from s).vars λi hi=>QU _ hi)
 | .call f O=>.of_e (λ_ _ _=>rfl) (λ_ _ _ _=>rfl) (λ_=>rfl) λ{E M F H S ρ G Q R} I X h k=>tf g (NA g O) I X h k|.bi f O=>.of_e (λ_ _ _=>rfl) (λ_ _ _ _=>rfl) (λ_=>rfl) λ{E M F H S ρ G Q R} I X h k =>
  cY (P:=λxs A=>uY f (CB xs) λz k=>Q z k A) (RR:=λvs J=>gu K f vs J R) (NA g O) I X h λvs F' H' S' B xs Y s C X' tn _ q=>by rw[gM _ rfl]at q;exact Rn s C tn q k
 | .mt m o O=>.of_e (λ_ _ _=>rfl) (λ_ _ _ _=>rfl) (λ_=>rfl) (Iw (NA g o) (NA g O))|.idx a b=>by
  have he:C4 K Γ Ψ (.idx a b):=λ{E M F H S ρ G Q R} I X h k =>
   P5 (P:=λx n y m L=>(BN (nA x n).vw (nA y m).vw λz=>Q z kd L)∨(yS (nA x n).vw y.er λz=>Q z kd L)) (RR:=λx y H2=>U1 K x y H2 R) (NA g a) (NA g b) I X h λv w F' H' S' B x n y m Za Zb s C X' ra za rb q=>by rcases q with q|q;exact Zm s C ra za rb q k;exact vn s C ra za (by have:=rb.rep C.fh;rwa [UZ]at this) q k
  exact#[he,λI X h k=>vW he I X h k,λI X _ h k=>h.elim]
 | .slc a lo hi=>.of_0 (λ_=>rfl) (λ_=>rfl) λ{E M F H S ρ G Q R} I X h k=>by
  have part:∀(p:PX),PSnd K Γ Ψ p->∀{F H:Hp}{S:Ft}{ρ:xA}{x:T}{P:Option Int->xA->Prop}{RP:Option Int->Hp->Prop},Rl K F H S ρ G->YF K F H S ρ E M ->
    sq (α:=Option Int) x ρ (if isNop p=kf then λρ (R:Option Int->xA->Prop)=>R kv ρ else λρ R=>(pe Ψ p E).e ρ λl _ L=>EF l.er λo=>R o L) P ->
    (∀o F' H' S' B,Ste F H S ρ F' H' S' B->Rl K F' H' S' B G->(∀st v Zx,Tr K F H st v x Zx->Tr K F' H' st v x Zx)->P o B->RP o H') ->
    (if isNop p=kf then λ(R:Option Int->Hp->Prop)=>R kv H else λR=>(wp K Γ p M).e G H λl H2=>bN l H2 R) RP:=by
   intro p ip F H S ρ x P RP I X h k;cases hn:isNop p with
   |true=>simp only[hn,if_true]at h ⊢;refine k kv F H S ρ .refl I (λ_ _ _ r=>r) ?_;unfold sq at h;split at h<;>exact h|false =>
    simp only[hn,Qu,if_false]at h ⊢;have h2:sq x ρ (cu (pe Ψ p E).e) λy B=>EF y.1.er λo=>P o B:=by unfold sq at h ⊢;exact h
    refine oq ip I X h2 λw F' H' S' B y m Z s C kp _ r q=>Ec (r.tr.rep C.fh) q λo qo=>k o F' H' S' B s C kp qo
  refine UF (NA g a) I X h λv F1 J S1 A x n Za s1 I1 X1 r1 _ z1 h1=>?_;refine part lo (NA g lo) I1 X1 h1 λl F2 H2 S2 L s2 I2 k2 h2=>?_;refine part hi (NA g hi) I2 (X1.from s2.toStp) h2 λu F3 H3 S3 ρ3 s3 I3 k3 h3=>?_;exact Jj (s1.trans (s2.trans s3)) I3 (k3 _ _ _ (k2 _ _ _ r1)) h3 k
 | .nop=>#[λI X h k=>h.elim,λI X h k=>h.elim,λI X _ h k=>h.elim]|.lst O=>.of_0 (λ_=>rfl) (λ_=>rfl) λ{E M F H S ρ G Q R} I X h k=>by refine(NA g O).a (md:=[]) (R:=λxs J=>xs.9<=kn/\∀p,J p=kv->R (.ref p) (CA J p (.lst xs))) I X (λj hj=>by cases O<;>cases hj) h λvs F' H' S' B xs W Y s C r _ q=>?_;exact#[by rw[r.av.9];exact q.2.1,λp hp=>dB.list k s C hp (r.av.trs Bl q.1) r.fr r.held q.2.2]|.tup O=>.of_0 (λ_=>rfl) (λ_=>rfl) λ{E M F H S ρ G Q R} I X h k=>by refine(NA g O).a (md:=[]) (R:=λxs J=>xs.9<=kn/\∀p,J p=kv->R (.ref p) (CA J p (.tup xs))) I X (λj hj=>by cases O<;>cases hj) h λvs F' H' S' B xs W Y s C r _ q=>?_;exact#[by rw[r.av.9];exact q.2.1,λp hp=>dB.tup k s C hp (r.av.trs Bl q.1) r.fr r.held q.2.2]|.comp mask tgs tg ik its cond elt=>.of_0 (λ_=>rfl) (λ_=>rfl) λ{E M F H S ρ G Q R} I X h k=>by
  refine cY (RR:=λvs J=>dC K ik vs J λxs st H2=>Y0 K xs st tg (if isNop cond=kf then λ_ H Q=>Q kf H else(wp K Γ cond (λ_ _ _=>False)).t) (wp K Γ elt (λ_ _ _=>False)).e (tJ tgs.9 mask G) H2 R) (NA g its) I X h λvs F1 J S1 A xs Y s1 I1 X1 tn tm q1=>?_;rw[gM _ rfl]at q1;refine mK I1.fh tn q1 λxs ys st pr hst hc=>?_;refine S9 (us:=GF elt) ?_ ?_ s1 I1 pr (λb hb=>?_) hst hc k;intro F H S ρ G Q R I h k;cases hn:isNop cond with|true=>simp only[hn,if_true]at h ⊢;exact k kf F H S ρ .refl I h|false=>simp only[hn,Qu,if_false]at h ⊢;exact(NA g cond).t I YF.never h k
  intro F H S ρ G Q R I h k;exact(NA g elt).e I YF.never h k;let#[i,sl,_,h2,h3]:=tm b hb;exact I1.dom h2 h3
 | .ng i=>.of_0 (λ_=>rfl) (λ_=>rfl) λI X h k=>dB.d k .refl I (.int _) h|.lrv a=>.of_0 (λ_=>rfl) (λ_=>rfl) λ{E M F H S ρ G Q R} I X h k =>
  UF (P:=λx n A=>gc (nA x n).vw λz k=>Q z k A) (RR:=λx J=>aW K x J R) (NA g a) I X h λv F' H' S' B x n Z s C _ r _ _ #[us,ds,e,hb,q]=>by let#[p,xs,_,rfl,hp,rp,_]:=r.ls C.fh e;exact#[p,xs,rfl,hp,λl hl=>k.listD s C hl (rp.un hb).1.reverse q]
 | .dnew b=>.of_0 (λ_=>rfl) (λ_=>rfl) λ{E M F H S ρ G Q R} I X h k=>by
  intro p hp;have hh:=DU I hp (.dT 0 []);have e:=dB.dct (o:=.dT 0 []) (b:=b) (ks:=[]) (vs:=[]) (ts:=[]) (W:=λ_=>False) k (Ste.refl.new hp (.dT 0 [])) (I.new hp _) hp (I.fh.free hp) hh ?_ (.nil λ_ z=>z) (λ_ z=>z.elim) .none (λz=>z) h;rw[Pb]at e;exact e;cases b with
  |true=>exact#[0,[],rfl,rfl,rfl,λ_ z=>(nomatch z),Qq]
  |false=>exact .inr #[0,rfl,rfl,rfl]
 | .dsp a b=>.of_0 (λ_=>rfl) (λ_=>rfl) λ{E M F H S ρ G Q R} I X h k=>by
  intro p hp;have hh:=DU I hp (.dT 0 []);have s0:Ste F H S ρ F (CA H p (.dT 0 [])) S ρ:=Ste.refl.new hp _;refine UF (NA g a) (I.new hp _) (X.from s0.toStp) h λy F1 J S1 A x n Z s1 I1 X1 _ er _ #[he,q1]=>?_;have hh1:=hh.step s1.toStp I1;have ry:=er he;refine(NA g b).e I1 X1 q1 λv F2 H2 S2 L t m Zb s2 I2 r2 q2=>?_;have hh2:=hh1.step s2.toStp I2;let#[he2,hk,q2]:=q2;let#[W,rw,hw,frw]:=(r2.from s1.toStp).strict he2;have hp2:H2 p=jr (.dT 0 []):=s2.hh p _ (s1.hh p _ YA (hh.nu p rfl)) (hh1.nu p rfl);have np:¬ W p:=λz=>by rcases frw p z with q|q;rw[YA]at q;cases q;exact hh.nu p rfl q
  have ry2:=ry.mono s2.ff;refine#[hp2,?_];generalize x.er=d at hk ry2 q2;cases FR hk ry2 with|intro ks hh=>let#[c,rfl,rfl,hq]:=hh;refine#[c,ks,rfl,I2.fh.key hq,λep=>?_];exact dB.dct (o:=.dT ep [(ks,c,v)]) (b:=kf) (vs:=[v]) (ts:=[t]) k (s0.trans (s1.trans s2)) I2 hp (hh2.dom p rfl).2 hh2 #[ep,_,rfl,rfl,rfl,λz hz=>by rw[QJ.mp hz];exact hq,by simp] (Trs.one rw) (λb hb=>by rcases frw b hb with q|q;exact .inl (DB b q);exact .inr q) hw np q2
 | .anil=>#[λI X h k=>h.elim,λI X h k=>h.elim,λ{E M F H S ρ G md Q R} I X _ h k=>k [] F H S ρ [] (λ_=>False) (λ_=>False) .refl I #[.nil λ_ z=>z,λ_ z=>z.elim,λ_ z=>z.elim,λ_ _ _ _ z=>z.elim] (by cases md with|nil=>rfl|cons m r=>cases m<;>rfl) h]
 | .acons a O=>#[λI X h k=>h.elim,λI X h k=>h.elim,λ{E M F H S ρ G md Q R} I X hm h k=>by
  show(wp K Γ a M).e G H λx J=>(wp K Γ O M).a G J λxs H2=>R (x::xs) H2;have vr2:∀i∈GF O,i∈GF (.acons a O):=λi hi=>QU _ hi;cases N:(md.headD .fro).isMut with
  |true =>
   have h2:f9 a=kf/\(pe Ψ O E).a md.tail ρ λxs A=>Q ((.d .none,kf)::xs) A:=by have h3:(if(md.headD .fro).isMut=kf then _ else _):=h;rw[N,a9 rfl]at h3;exact h3
   obtain⟨m,md',rfl⟩:∃m md',md=m::md':=by
    cases md with|nil=>cases N|cons m md'=>exact#[m,md',rfl]
   have em:m=.chg:=by have N:m.isMut=true:=N;cases m<;>first|rfl|cases N
   subst em;cases a with
   |var j=>let#[v,hv]:=hm j (show j∈j::bA md' O from QD);show(match G[j]? with|some (jr v)=>_|_=>False);rw[hv];refine(NA g O).a I X (λi hi=>hm i (QE _ hi)) h2.2 λvs F' H' S' B xs W Y s C r mv q=>?_;refine k (v::vs) F' H' S' B _ W Y s C #[.chg N r.av,r.fr,(r.vars vr2).tm,r.nw] ?_ q;show(jr (jr v))::(tB md' vs).map _=G[j]?::(bA md' O).map _;have mv:(tB md' vs).map (λv=>jr (jr v))=(bA md' O).map (λj=>G[j]?):=mv;rw[hv,mv]
   |_=>exact im h2.1 (by simp[f9])
  |false =>
   have h2:(pe Ψ a E).e ρ λx n A=>sq (α:=List (T×Bool)) (if n=kf then .d .none else x) A ((pe Ψ O E).a md.tail) λxs L=>Q ((x,n)::xs) L:=by have h3:(if(md.headD .fro).isMut=kf then _ else _):=h;rw[N,a8 (by simp)]at h3;exact h3
   have hroots:bA md (.acons a O)=bA md.tail O:=by
    cases md with|nil=>cases O<;>rfl|cons m md'=>have N:m.isMut=false:=N;cases m<;>first|rfl|cases N
   have hmv:∀v vs,tB md (v::vs)=tB md.tail vs:=λv vs=>by unfold tB;generalize md.headD .fro=m at N;cases m<;>first | (cases vs<;>rfl)|cases N
   refine(NA g a).e I X h2 λv F1 J S1 A x n Z s1 I1 r1 q1=>?_;refine pq (NA g O) I1 (X.from s1.toStp) (λi hi=>hm i (by rw[hroots];exact hi)) q1 λvs F2 H2 S2 L xs W Y s2 I2 kp hs r2 mv q2=>?_;have s12:=s1.trans s2;have r2':=(r2.from s1.toStp).vars vr2;have mv':(tB md (v::vs)).map (λv=>jr (jr v))=(bA md (.acons a O)).map (λj=>G[j]?):=by rw[hroots,hmv];exact mv
   cases n with
   |true =>
    have hd:=r1.held;have hd2:=hd.step s2.toStp I2;refine k (v::vs) F2 H2 S2 L _ (λb=>Z b∨W b) Y s12 I2 #[.new N (s2.toStp.keep r1.tr hd.nu) r2.av (λb hb hw=>?_) λb=>WQ,λb hb=>?_,r2'.tm,λi sl e b hb=>?_] mv' q2;rcases r2.fr b hw with q|q
    ·exact(hd.dom b hb).1 q
    exact hd.nu b hb q;rcases hb with hb|hb
    ·exact r1.fr rfl b hb
    exact r2'.fr b hb;rcases hb with hb|hb
    ·exact hd2.nw i sl e b hb
    exact r2.nw i sl e b hb
   |false =>
    have za:∀b,Z b->∃(i:Nat) (s:Sl),i∈GF a/\L[i]?=jr (jr s)/\S2 i b:=by
     cases hd:x.isD with
     |true =>
      intro b hb;exfalso;have tr:=r1.tr;cases x with
      |d x=>cases tr with|d r n=>exact n b hb
      |_=>cases hd
     |false=>let#[e1,e2]:=hs hd;rw[e1,e2];exact r1.tm rfl
    refine k (v::vs) F2 H2 S2 L _ W (λb=>Z b∨Y b) s12 I2 #[.tmp N (kp _ _ _ r1.tr) (λb hb=>.inl hb) (r2.av.sub λb hb=>.inr hb),r2'.fr,λb hb=>?_,r2.nw] mv' q2;rcases hb with hb|hb;let#[i,sl,h1,h2]:=za b hb;exact#[i,sl,Qn _ h1,h2];exact r2'.tm b hb]
end
end
structure Sts(C J:LN)(F H:Hp)(S:Ft)(ρ:xA)(σ:St)(F' H':Hp)(S':Ft)(ρ':xA)(σ':St):Prop where
 ff:Same F F'
 hh:∀b u,H b=jr u->¬ U ρ S b->H' b=jr u
 dm:∀b,H' b=kv->H b=kv
 fn:∀b,F b=kv->F' b≠kv->U ρ S b∨H b=kv
 uu:∀b,U ρ' S' b->U ρ S b∨H b=kv
 bo:∀(j:Nat) t,j∉J->ρ'[j]?=jr (jr (.bor t))->t.isD=kd->ρ[j]?=jr (jr (.bor t))/\S' j=S j/\σ'[j]?=σ[j]?
 sg:∀j∈C,σ'[j]?=σ[j]?
structure Stc(C:LN)(F H:Hp)(S:Ft)(ρ:xA)(σ:St)(F' H':Hp)(S':Ft)(ρ':xA)(σ':St):Prop where
 ff:Same F F'
 hh:∀b u,H b=jr u->¬ U ρ S b->H' b=jr u
 dm:∀b,H' b=kv->H b=kv
 fn:∀b,F b=kv->F' b≠kv->U ρ S b∨H b=kv
 uu:∀b,U ρ' S' b->U ρ S b∨H b=kv
 sg:∀j∈C,σ'[j]?=σ[j]?
section
variable{K:QA}{Γ:Ev}{Ψ:PEv}{E:XE}{L:XK}{F H m p A G:Hp}{S S1 B:Ft}{ρ y X:xA}{σ g Y:St}{C J:LN}
section
variable{t:T}{Z:eB}{i:Nat}
theorem Stp.sts(s:Stp F H S ρ m p S1 y):Sts C J F H S ρ σ m p S1 y σ:=#[s.ff,s.hh,s.dm,s.fn,s.uu,λj t _ e h=>let#[z,x]:=s.bo j t e h;#[z,x,rfl],λ_ _=>rfl]
theorem Sts.refl:Sts C J F H S ρ σ F H S ρ σ:=Stp.refl.sts
theorem Sts.trans(a:Sts C J F H S ρ σ m p S1 y g)(b:Sts C [] m p S1 y g A G B X Y):Sts C J F H S ρ σ A G B X Y where
 ff:=a.ff.trans b.ff
 hh:=λx u h n=>b.hh x u (a.hh x u h n) λz=>by rcases a.uu x z with q|q;exact n q;rw[q]at h;cases h
 dm:=λx h=>a.dm x (b.dm x h)
 fn:=λx h z=>by
  by_cases q:m x=kv;rcases b.fn x q z with w|w
  ·exact a.uu x w
  exact .inr (a.dm x w);exact a.fn x h q
 uu:=λx h=>by rcases b.uu x h with w|w;exact a.uu x w;exact .inr (a.dm x w)
 bo:=λj t v h n=>by let#[r,o,l]:=b.bo j t (by simp) h n;let#[f,e,k]:=a.bo j t v r n;exact#[f,o.trans e,l.trans k]
 sg:=λj v=>(b.sg j v).trans (a.sg j v)
theorem Sts.c(s:Sts C J F H S ρ σ m p S1 y g):Stc C F H S ρ σ m p S1 y g:=#[s.ff,s.hh,s.dm,s.fn,s.uu,s.sg]
theorem Stc.trans(a:Stc C F H S ρ σ m p S1 y g)(b:Stc C m p S1 y g A G B X Y):Stc C F H S ρ σ A G B X Y where
 ff:=a.ff.trans b.ff
 hh:=λx u h n=>b.hh x u (a.hh x u h n) λz=>by rcases a.uu x z with q|q;exact n q;rw[q]at h;cases h
 dm:=λx h=>a.dm x (b.dm x h)
 fn:=λx h z=>by
  by_cases q:m x=kv;rcases b.fn x q z with w|w
  ·exact a.uu x w
  exact .inr (a.dm x w);exact a.fn x h q
 uu:=λx h=>by rcases b.uu x h with w|w;exact a.uu x w;exact .inr (a.dm x w)
 sg:=λj v=>(b.sg j v).trans (a.sg j v)
theorem YF.fromS(h:YF K F H S ρ E L)(s:Sts C J F H S ρ σ m p S1 y g):YF K m p S1 y E L:=λx k A G B X v f r q =>
 h x k A G (λ_ _=>False) [] #[s.ff.trans v.ff,λb u e n=>v.hh b u (s.hh b u e n) (λz=>(s.uu b z).elim n λw=>(by rw[w]at e;cases e)),λb e=>s.dm b (v.dm b e),λb e z=>by
  by_cases q:m b=kv;rcases v.fn b q z with w|w
  ·exact s.uu b w
  exact .inr (s.dm b w);exact s.fn b e q,λb #[i,t,e,_]=>by simp at e,λj t e=>by simp at e] f r q
structure EndsOk(K:QA)(C:LN)(F H:Hp)(S:Ft)(ρ:xA)(σ:St)(Z:PEnds)(Dn:Ends):Prop where
 nx:∀F' H' S' ρ' σ',Sts C [] F H S ρ σ F' H' S' ρ' σ'->Rl K F' H' S' ρ' σ'->Z.nx ρ'->Dn.nx σ' H'
 rt:∀v t W F' H' S' ρ' σ',Stc C F H S ρ σ F' H' S' ρ' σ'->Rl K F' H' S' ρ' σ'->Tr K F' H' kf v t W->Held F' H' S' ρ' W->(∀b,W b->H b=kv∨U ρ S b)->Z.rt t ρ'->Dn.rt v H'
 bk:∀F' H' S' ρ' σ',Sts C [] F H S ρ σ F' H' S' ρ' σ'->Rl K F' H' S' ρ' σ'->Z.bk ρ'->Dn.bk σ' H'
 ct:∀F' H' S' ρ' σ',Sts C [] F H S ρ σ F' H' S' ρ' σ'->Rl K F' H' S' ρ' σ'->Z.ct ρ'->Dn.ct σ' H'
theorem Nx(s:Sts C J F H S ρ σ m p S1 y g){W:eB}(fr:∀b,W b->p b=kv∨U y S1 b):∀b,W b->H b=kv∨U ρ S b:=λb hb=>by rcases fr b hb with q|q;exact .inl (s.dm b q);exact(s.uu b q).symm
theorem EndsOk.from{Z:PEnds}{Dn:Ends}(ok:EndsOk K C F H S ρ σ Z Dn)(s:Sts C [] F H S ρ σ m p S1 y g):EndsOk K C m p S1 y g Z Dn :=
 #[λa k w z x u I q=>ok.nx a k w z x (s.trans u) I q,λv t W a k w z x u I r h fr q=>ok.rt v t W a k w z x (s.c.trans u) I r h (Nx s fr) q,
  λa k w z x u I q=>ok.bk a k w z x (s.trans u) I q,λa k w z x u I q=>ok.ct a k w z x (s.trans u) I q]
theorem Sts.setD(s:Sts C J F H S ρ σ m p S1 y g)(i:Nat)(a:i∉C)(v:V)(k:t.isD=kf)(Z:eB):Sts C J F H S ρ σ m p (GH S1 i Z) (y.set i (jr (.bor t))) (g.set i (jr v)) :=
 #[s.ff,s.hh,s.dm,s.fn,λb #[j,u,z,w]=>by
  rcases lA z with⟨_,e,_⟩| ⟨n,z⟩
  cases e;rw[ZA (Q7 n)]at w;exact s.uu b #[j,u,z,w],
 λj u h e x=>by
  rcases lA e with⟨_,e,_⟩| ⟨n,e⟩
  injection e with e;injection e with e;subst e;rw[k]at x;cases x;rw[ZA (Q7 n),jE n];exact s.bo j u h e x,
 λj h=>by have n:i≠j:=λe=>a (e▸h);rw[jE n];exact s.sg j h]
theorem Rl.setD(I:Rl K F H S ρ σ)(i:Nat){v:V}{x:D}(r:Rep K F v x):Rl K F H (GH S i λ_=>False) (ρ.set i (bD x)) (σ.set i (jr v)) :=
 I.setB i (.d r λ_ z=>z) λ_ _ _ _ _ z=>z.elim
theorem Rl.setN(I:Rl K F H S ρ σ)(i:Nat){v:V}(r:Tr K F H kf v t Z)(w:∀(j:Nat) s,j≠i->ρ[j]?=jr (jr s)->∀b,Z b->¬ S j b):Rl K F H (GH S i Z) (ρ.set i (jr (.own t))) (σ.set i (jr v)) where
 fh:=I.fh
 len:=by simpa using I.len
 sl:=λj s h=>by
  rcases lA h with⟨rfl,e,hl⟩| ⟨a,h⟩
  cases e;exact#[v,CY (by rw[<- I.len];exact hl),by rw[EA];exact r];rw[jE a,ZA (Q7 a)];exact I.sl j s h
 dj:=λj k f s n u x b hb hk=>by
  rcases lA u with⟨e,_,_⟩| ⟨l,u⟩
  subst e;rw[EA]at hb;rcases lA x with⟨e,_,_⟩| ⟨z,x⟩
  exact n e;rw[ZA (Q7 z)]at hk;exact w k s (Q7 z) x b hb hk;rw[ZA (Q7 l)]at hb;rcases lA x with⟨e,_,_⟩| ⟨z,x⟩
  subst e;rw[EA]at hk;exact w j _ n u b hk hb;rw[ZA (Q7 z)]at hk;exact I.dj j k f s n u x b hb hk
theorem Sts.setN(s:Sts C J F H S ρ σ m p S1 y g)(i:Nat)(w:i∉C)(v:V)(t:T)(fr:∀b,Z b->H b=kv∨U ρ S b):Sts C J F H S ρ σ m p (GH S1 i Z) (y.set i (jr (.own t))) (g.set i (jr v)) :=
 #[s.ff,s.hh,s.dm,s.fn,λb #[j,u,z,x]=>by
  rcases lA z with⟨rfl,_,_⟩| ⟨n,z⟩
  rw[EA]at x;exact(fr b x).symm;rw[ZA (Q7 n)]at x;exact s.uu b #[j,u,z,x],
 λj u h e k=>by
  rcases lA e with⟨_,e,_⟩| ⟨n,e⟩
  cases e;rw[ZA (Q7 n),jE n];exact s.bo j u h e k,
 λj h=>by have n:i≠j:=λe=>w (e▸h);rw[jE n];exact s.sg j h]
theorem Rl.frz1(I:Rl K F H S ρ σ)(h:ρ[i]?=jr (jr (.own t))):Rl K (oJ F H (S i)) H (GH S i λ_=>False) (ρ.set i (bD t.er)) σ/\Sts C [] F H S ρ σ (oJ F H (S i)) H (GH S i λ_=>False) (ρ.set i (bD t.er)) σ:=by
 let#[v,hv,r]:=I.sl i _ h;have k:=vH (H:=H) λb (hb:S i b)=>(r.dom b hb).2;have O:Rl K F H S (ρ.set i kv) σ:=I.drop (by simp) λj s e=>by
  rcases lA e with⟨_,z,_⟩| ⟨_,e⟩
  cases z;exact e
 have l:Held F H S (ρ.set i kv) (S i):=#[r.dom,λj s e b hb z=>by
  rcases lA e with⟨_,q,_⟩| ⟨n,e⟩
  cases q;exact I.dj i j t s n h e b hb z]
 have N:=O.frz l;have f:Rep K (oJ F H (S i)) v t.er:=Tr.kept k r λb u hb e=>by rw[nJ hb];exact e
 have a:=N.setD i f;have M:(ρ.set i kv).set i (bD t.er)=ρ.set i (bD t.er):=by simp
 have W:σ.set i (jr v)=σ:=by apply qX;intro j;rw[wE];split;rename_i e;subst e;split;exact hv.symm;rename_i n;rw[Qk ()];rfl
 rw[M,W]at a;refine#[a,#[k,λb u e _=>e,λb e=>e,λb e z=>.inl ?_,λb #[j,u,x,w]=>.inl ?_,λj u _ e o=>?_,λ_ _=>rfl]];by_cases hb:S i b
 ·exact#[i,t,h,hb]
 rw[fC hb]at z;exact im e z;rcases lA x with⟨_,q,_⟩| ⟨n,x⟩
 ·cases q
 rw[ZA (Q7 n)]at w;exact#[j,u,x,w];rcases lA e with⟨_,q,_⟩| ⟨n,e⟩
 ·injection q with q;injection q with q;subst q;cases o
 exact#[e,ZA (Q7 n),rfl]
theorem u3{f:Option Sl->Option Sl}:ρ.modify i f=match ρ[i]? with|some o=>ρ.set i (f o)|none=>ρ:=by
 apply qX;intro j;rw[W6];cases h:ρ[i]? with|none=>simp only;by_cases e:i=j;subst e;simp[h];simp[e]|some o=>simp only;rw[wE];by_cases e:i=j;subst e;let#[hl,rfl]:=Qi.mp h;simp[hl];simp[e]
theorem oT{α:Type}{l:List α}{o:α}(h:l[i]?=jr o):l.set i o=l:=by apply qX;intro j;rw[wE];split;rename_i e;subst e;rw[a9 (Qi.mp h).1,h];rfl
theorem Rl.frzAt:∀(x:LN) {F:Hp}{S:Ft}{ρ:xA},Rl K F H S ρ σ->∃z S',Rl K z H S' (frzAt x ρ) σ/\Sts C [] F H S ρ σ z H S' (frzAt x ρ) σ
 |[],F,S,ρ,I=>#[F,S,I,.refl]|i::x,F,S,ρ,I=>by
  have one:∃m S1,Rl K m H S1 (ρ.modify i sX) σ/\Sts C [] F H S ρ σ m H S1 (ρ.modify i sX) σ:=by
   rw[u3];cases h:ρ[i]? with
   |none=>exact#[F,S,I,.refl]|some o =>
    cases o with
    |none=>have e:ρ.set i (sX kv)=ρ:=oT h;simp only[e];exact#[F,S,I,.refl]|some u =>
     cases u with|bor t=>have e:ρ.set i (sX (jr (.bor t)))=ρ:=oT h;simp only[e];exact#[F,S,I,.refl]|own t=>exact#[_,_,I.frz1 h]
  let#[m,S1,a,w]:=one;let#[A,B,k,v]:=Rl.frzAt x a;exact#[A,B,k,w.trans v]
end
end
noncomputable def fK(C:LN):PT->Bool
 | .seq s r=>fK C s&&fK C r|.set i _=>!C.contains i|.own i _=>!C.contains i|.ife _ a b=>fK C a&&fK C b|.for_ x _ _ h=>x.ix.all (λi=>!C.contains i)&&fK C h|.nil=>kf|.expr _=>kf|.ret _=>kf|.six _ _ _=>kf|.sdf _ _=>kf|.whl _ h=>fK C h|.frz _ s=>fK C s
section
variable{K:QA}{Γ:Ev}{Ψ:PEv}{E:XE}{N:XK}{F H D B F2 M:Hp}{S S1 O:Ft}{ρ A P:xA}{σ G R:St}{C J:LN}
theorem Sts.bind{L:LN}(s:Sts C J F H S ρ σ D B S1 A G)(b:Bd L D B S1 A G F2 M O P R)(v:∀j∈L,j∈J)(w:∀j∈L,j∉C):Sts C J F H S ρ σ F2 M O P R :=
 #[s.ff.trans b.ff,λx u e n=>b.hh x u (s.hh x u e n),λx e=>s.dm x (b.dm x e),λx e z=>by
  by_cases q:D x=kv;exact .inr (s.dm x (b.fn x q z));exact s.fn x e q,λx u=>s.uu x (b.U u),λj t h e y=>by
  let#[l,i,g]:=b.out j λz=>h (v j z);rw[l]at e;let#[f,a,k]:=s.bo j t h e y;exact#[f,i.trans a,g.trans k],λj h=>(b.out j λz=>w j z h).2.2.trans (s.sg j h)]
theorem CZ{g:Tg}{body:PEnds->xA->Prop}{tb:TS}{Z:PEnds}{Dn:Ends}{xs:List Item}{o:LT}{st:Hp->Prop}{Y:eB}
  (ib:∀{F H:Hp}{S:Ft}{ρ:xA}{σ:St}{Z:PEnds}{Dn:Ends},Rl K F H S ρ σ->YF K F H S ρ E N->body Z ρ->EndsOk K C F H S ρ σ Z Dn->tb Dn σ H)
  (I:Rl K F H S ρ σ) (X:YF K F H S ρ E N) (hC:∀j∈g.ix,j∉C) (pr:x0 (G4 K F H Y) xs o) (hy:∀b,Y b->¬ U ρ S b/\H b≠kv/\F b=kv) (hst:∀f k,Same F f->Same f k->(∀b,Y b->k b=H b)->st k) (h:EH body g Z o ρ)
  (onx:∀f k S' z w,Sts C g.ix F H S ρ σ f k S' z w->Rl K f k S' z w->Z.nx z->Dn.nx w k)
  (ort:∀v t W f k S' z w,Stc C F H S ρ σ f k S' z w->Rl K f k S' z w->Tr K f k kf v t W->Held f k S' z W->(∀b,W b->H b=kv∨U ρ S b)->Z.rt t z->Dn.rt v k):Vo K xs st g tb Dn σ H:=by
 intro J hJ;have len:=qI pr;have yk:∀{D B:Hp}{S1:Ft}{A:xA}{G:St},Sts C g.ix F H S ρ σ D B S1 A G->∀b,Y b->B b=H b/\D b=none:=λ{D B S1 A G} s b hb=>by
  let#[n,d1,d2]:=hy b hb;refine#[?_,?_];cases e:H b with|none=>exact im e d1|some u=>exact s.hh b u e n
  by_cases q:D b=kv
  ·exact q
  exact((s.fn b d2 q).elim n d1).elim
 refine#[λi m w k=>i<=xs.9/\m=xs.9 - i/\∃z f S',Sts C g.ix F H S ρ σ f k S' z w/\Rl K f k S' z w/\EH body g Z (o.drop i) z,#[_,Qv _,rfl,ρ,F,S,.refl,I,by simpa using h],?_];rintro i m G B ⟨hi,rfl,A,D,S1,p,I1,h1⟩;have hs:=hst D B p.ff I1.fh λb hb=>(yk p b hb).1;rcases QBG i xs.9 with l|hge;refine .inr #[hJ.go i B hs l,λw k=>i+1<=xs.9/\∃z f S',Sts C g.ix F H S ρ σ f k S' z w/\Rl K f k S' z w/\EH body g Z (o.drop (i+1)) z,λw k #[a,b]=>#[_,(),a,rfl,b],λx M hyl=>?_];let#[it,hx,hm]:=hJ.yld i B x M hs l hyl;let#[y,hd,ry]:=Paired.get_of pr hx;rw[hd]at h1;unfold EH at h1;have key:L3.bindI K g it G B λR M=>tb { Dn with nx:=λw k=>i+1<=xs.9/\∃z f S',Sts C g.ix F H S ρ σ f k S' z w/\Rl K f k S' z w/\EH body g Z (o.drop (i+1)) z,ct:=λw k=>i+1<=xs.9/\∃z f S',Sts C g.ix F H S ρ σ f k S' z w/\Rl K f k S' z w/\EH body g Z (o.drop (i+1)) z,bk:=Dn.nx } R M:=by
  refine tV I1 (λb hb u=>?_) (ry.mono p.ff (yk p)) h1 λP R F2 H3 O bd I2 h2=>?_;rcases p.uu b u with q|q
  ·exact(hy b hb).1 q
  exact(hy b hb).2.1 q;have s2:=p.bind bd (λj hj=>hj) hC;exact ib I2 (X.fromS s2) h2 #[λf k S' z w L Q q=>#[l,z,f,S',s2.trans L,Q,q],λv t W f k S' z w L Q r hw fr q=>ort v t W f k S' z w (s2.c.trans L) Q r hw (Nx s2 fr) q,
   λf k S' z w L Q q=>onx f k S' z w (s2.trans L) Q q,λf k S' z w L Q q=>#[l,z,f,S',s2.trans L,Q,q]]
 exact yO hm key;have e:o.drop i=[]:=Wk ();rw[e]at h1;exact .inl #[hJ.stop i B hs hge,onx D B S1 A G p I1 h1]
theorem vG:∀(J:LN) (ρ:xA) (i:Nat) s,(kill J ρ)[i]?=jr (jr s)->ρ[i]?=jr (jr s)/\(i∈J->∀t,s=.bor t->t.isD=kf)
 |[],ρ,i,s,h=>#[h,λz=>by simp at z]|j::J,ρ,i,s,h=>by
  unfold kill at h;let#[x,w]:=vG J _ i s h;rw[W6]at x;by_cases e:j=i;subst e;simp only[reduceIte]at x;cases q:ρ[j]? with
  |none=>rw[q]at x;cases x|some o =>
   rw[q]at x;have x:VN o=jr s:=by simpa using x
   cases o with
   |none=>cases x|some v =>
    cases v with
    |own t=>cases x;exact#[rfl,λ_ u z=>by cases z]|bor t =>
     have x:(if t.isD=kf then jr (Sl.bor t) else kv)=jr s:=x;cases y:t.isD with|true=>rw[y,a9 rfl]at x;cases x;exact#[rfl,λ_ u z=>by cases z;exact y]|false=>rw[y]at x;simp at x
  simp only[e,if_false]at x;refine#[by simpa using x,λm=>w ((QK.mp m).elim (λz=>im z.symm e) id)]
theorem KN:∀(J:LN) (ρ:xA),(kill J ρ).9=ρ.9
 |[],_=>rfl|j::J,ρ=>by unfold kill;rw[KN J];simp
theorem Sts.kill(s:Sts C J F H S ρ σ D B S1 A G):Sts C [] F H S ρ σ D B S1 (L3.kill J A) G :=
 #[s.ff,s.hh,s.dm,s.fn,λb #[i,t,y,x]=>s.uu b #[i,t,(vG J A i _ y).1,x],λj t _ e h=>by let#[y,x]:=vG J A j _ e;by_cases z:j∈J;rw[x z t rfl]at h;cases h;exact s.bo j t z y h,s.sg]
theorem oU:∀(L:LN) (ρ:xA) (j:Nat),(lock L ρ)[j]?=if j∈L then ρ[j]?.map zG else ρ[j]?
 |[],ρ,j=>by simp[lock]|i::L,ρ,j=>by
  have x:∀o,zG (zG o)=zG o:=λo=>by
   match o with
   |none=>rfl|some (.own _)=>rfl|some (.bor _)=>rfl
  unfold lock;rw[oU L,W6];by_cases e:i=j;subst e;cases h:ρ[i]? with|none=>simp|some o=>simp[x]
  have y:¬ j=i:=λz=>e z.symm;simp[e,y]
theorem nU:∀(L:LN) (ρ:xA),(lock L ρ).9=ρ.9
 |[],_=>rfl|i::L,ρ=>by unfold lock;rw[nU L];simp
theorem sM:∀(L:LN) (x ρ:xA) (j:Nat),(∀i∈L,i<ρ.9)->(YC L x ρ)[j]?=if j∈L then jr (x[j]?.getD kv) else ρ[j]?
 |[],x,ρ,j,_=>by simp[YC]|i::L,x,ρ,j,h=>by unfold YC;rw[sM L x _ j (λk hk=>by simpa using h k (QE _ hk)),wE];by_cases e:i=j;subst e;simp[h i QD];have y:¬ j=i:=λz=>e z.symm;simp[e,y]
theorem rM:∀(L:LN) (h ρ:xA),(YC L h ρ).9=ρ.9
 |[],_,_=>rfl|i::L,h,ρ=>by unfold YC;rw[rM L];simp
theorem OH{ρ:xA}:∀(x:LN),∀i∈xC ρ x,∃t,ρ[i]?=jr (jr (.own t))
 |[],i,h=>by simp[xC]at h|j::x,i,h=>by
  unfold xC at h;split at h
  ·rename_i ho
   rcases QK.mp h with e|e
   ·subst e
    unfold lN at ho;split at ho;rename_i t e;exact#[t,e]
    all_goals cases ho
   exact OH x i e
  exact OH x i h
theorem gN{ρ:xA}{i:Nat}{t:T}(h:ρ[i]?=jr (jr (.own t))):∀(x:LN),i∈x->i∈xC ρ x
 |[],hi=>by simp at hi|j::x,hi=>by
  unfold xC;rcases QK.mp hi with e|e;subst e;have:lN ρ[i]?=true:=by rw[h];rfl
  rw[a9 this];exact QD;have:=gN h x e;split;exact QE _ this;exact this
section
variable{L:LN}(y:∀i∈L,∃t,ρ[i]?=jr (jr (.own t)))
include y
theorem lL{i:Nat}{s:Sl}(h:(lock L ρ)[i]?=jr (jr s)):(i∈L/\∃t,ρ[i]?=jr (jr (.own t))/\s=.bor t)∨(i∉L/\ρ[i]?=jr (jr s)):=by rw[oU]at h;by_cases x:i∈L;rw[a9 x]at h;let#[t,e]:=y i x;rw[e]at h;injection h with h;injection h with h;exact .inl #[x,t,e,h.symm];rw[a8 x]at h;exact .inr #[x,h]
theorem zF{b:ko}(h:U (lock L ρ) S b):U ρ S b:=by
 let#[i,t,x,z]:=h;rcases lL y x with⟨_,u,_,e⟩| ⟨_,x⟩
 cases e;exact#[i,t,x,z]
theorem Rl.lock(I:Rl K F H S ρ σ):Rl K F H S (L3.lock L ρ) σ where
 fh:=I.fh
 len:=by rw[nU];exact I.len
 sl:=λi s e=>by
  rcases lL y e with⟨_,t,h,rfl⟩| ⟨_,h⟩
  let#[v,u,x]:=I.sl i _ h;exact#[v,u,x.weak];exact I.sl i s h
 dj:=λi j t s n k w=>by
  rcases lL y k with⟨_,_,_,z⟩| ⟨_,u⟩
  cases z;rcases lL y w with⟨_,a,x,_⟩| ⟨_,x⟩
  ·exact I.dj i j t _ n u x
  exact I.dj i j t s n u x
theorem Rl.lockU(I:Rl K F H S ρ σ){i:Nat}(x:i∈L){b:ko}(hb:S i b):¬ U (L3.lock L ρ) S b:=λ#[j,t,h,v]=>by
 let#[w,e]:=y i x;rcases lL y h with⟨_,_,_,z⟩| ⟨u,h⟩
 cases z;exact I.dj j i t _ (λz=>u (z▸x)) h e b v hb
theorem B0(I:Rl K F H S ρ σ)(s:Sts C [] F H S (lock L ρ) σ D B S1 A G)(W:Rl K D B S1 A G)(hl:∀i∈L,A[i]?=ρ[i]?.map zG) :
  ∃O,Rl K D B O (YC L ρ A) G/\Sts C [] F H S ρ σ D B O (YC L ρ A) G:=by
 classical
 have l1:∀i∈L,∃t,ρ[i]?=jr (jr (.own t))/\A[i]?=jr (jr (.bor t)):=λi h=>by let#[t,e]:=y i h;have:=hl i h;rw[e]at this;exact#[t,e,this]
 have hlt:∀i∈L,i<A.length:=λi h=>by let#[t,_,e]:=l1 i h;exact(Qi.mp e).1
 let O:Ft:=λi=>if i∈L then S i else S1 i
 have l:∀i∈L,O i=S i:=λi h=>a9 h;have g:∀i,i∉L->O i=S1 i:=λi h=>a8 h;have get:∀i a,(YC L ρ A)[i]?=jr (jr a)->(i∈L/\∃t,ρ[i]?=jr (jr (.own t))/\A[i]?=jr (jr (.bor t))/\a=.own t)∨(i∉L/\A[i]?=jr (jr a)):=λi a e=>by rw[sM L ρ A i hlt]at e;by_cases h:i∈L;rw[a9 h]at e;let#[t,f,Y]:=l1 i h;rw[f]at e;injection e with e;have e:jr (Sl.own t)=jr a:=e;injection e with e;exact .inl #[h,t,f,Y,e.symm];rw[a8 h]at e;exact .inr #[h,e]
 have Q:∀i∈L,∀k a,k∉L->A[k]?=jr (jr a)->∀b,S i b->¬ S1 k b:=λi h k a hk e b hb z=>by
  let#[t,f,_]:=l1 i h;cases a with
  |own u=>rcases s.uu b ⟨k,u,e,z⟩ with q|q;exact I.lockU y h hb q;exact(I.dom f hb).1 q
  |bor u =>
   cases o:u.isD with
   |true=>exact W.isD e o z|false =>
    let#[m,p,_]:=s.bo k u (by simp) e o;rw[p]at z;rcases lL y m with⟨q,_⟩| ⟨_,m⟩
    exact hk q;exact I.dj i k t _ (λq=>hk (q▸h)) f m b hb z
 refine#[O,#[W.fh,by rw[rM];exact W.len,λi a e=>?_,λi k t a n f Y b hb hk=>?_],#[s.ff,λb u e n=>s.hh b u e λz=>n (zF y z),s.dm,λb e z=>(s.fn b e z).imp (zF y) id,λb #[i,t,h1,h2]=>?_,λj t _ e o=>?_,s.sg]];rcases get i a e with⟨h,t,f,Y,rfl⟩| ⟨h,f⟩
 ·rw[l i h]
  let#[v,m,p]:=I.sl i _ f;cases o:t.isD with
  |true =>
   let#[v',g3,g4]:=W.sl i _ Y;refine#[v',g3,?_];have nb:∀b,¬ S i b:=λb=>I.isD f o;cases t with
   |d x =>
    have g4:Tr K D B kd v' (.d x) (S1 i):=g4;cases g4 with|d r _=>exact .d r nb
   |_=>cases o
  |false =>
   let#[_,_,g5]:=s.bo i t (by simp) Y o;refine#[v,g5.trans m,?_];have p:Tr K F H kf v t (S i):=p;refine p.mono s.ff λb hb=>?_;let#[d1,d2]:=p.dom b hb;have nu:=I.lockU y h hb;refine#[?_,?_];cases eb:H b with|none=>exact im eb d1|some u=>exact s.hh b u eb nu
   by_cases q:D b=kv
   ·exact q
   exact((s.fn b d2 q).elim nu d1).elim
 rw[g i h];exact W.sl i a f;rcases get i _ f with⟨h,t',X,a2,_⟩| ⟨h,X⟩
 ·rw[l i h]at hb
  rcases get k a Y with⟨w,t2,Z,b2,_⟩| ⟨w,Z⟩
  rw[l k w]at hk;exact I.dj i k t' _ n X Z b hb hk;rw[g k w]at hk;exact Q i h k a w Z b hb hk
 rw[g i h]at hb;rcases get k a Y with⟨w,t2,Z,b2,_⟩| ⟨w,Z⟩
 rw[l k w]at hk;exact Q k w i _ h X b hk hb;rw[g k w]at hk;exact W.dj i k t a n X Z b hb hk;rcases get i _ h1 with⟨h,t',X,a2,_⟩| ⟨h,X⟩
 ·rw[l i h]at h2
  exact .inl #[i,t',X,h2]
 rw[g i h]at h2;exact(s.uu b #[i,t,X,h2]).imp (zF y) id;rcases get j _ e with⟨_,_,_,_,z⟩| ⟨hj,f⟩
 ·cases z
 let#[m,p,g3]:=s.bo j t (by simp) f o;rcases lL y m with⟨q,_⟩| ⟨_,m⟩
 exact im q hj;exact#[m,(g j hj).trans p,g3]
end
theorem lR{i:Nat}(h:(!C.contains i)=kf):i∉C:=λz=>by have:C.contains i=true:=Q2.mpr z;rw[this]at h;cases h
theorem g8{x:LN}(h:(x.all λi=>!C.contains i)=kf):∀i∈x,i∉C:=λi y=>lR (Q9.mp h i y)
theorem EZ:∀{xs:List (T×Bool)},YS xs=kf->∀t∈CO xs,t.isD=kf
 |[],_,t,h=>by simp[CO]at h|p::r,h,t,y=>by
  simp only[YS,Qb]at h;simp only[CO,QK]at y;rcases y with rfl|y;let#[x,n]:=p;cases n with
  |true=>rfl|false =>
   have z:=h.1;cases x with|d x=>rfl|_=>cases z
  exact EZ h.2 t y
theorem Tn.bare{Y:eB}{vs:LV}{ts:LT}(h:Tn K F H Y vs ts):(∀t∈ts,t.isD=kf)->Tn K F H (λ_=>False) vs ts:=by
 induction h with
 |nil=>exact λ_=>.nil|@cons v t vs ts Z r z a w =>
  intro y;refine .cons (Z:=λ_=>False) ?_ (λ_ z=>z) (w λu k=>y u (QE _ k));have y:=y t QD;cases t with
  |d x=>cases r with|d q _=>exact .d q λ_ z=>z
  |_=>cases y
theorem N6{v:V}{t:T}{W:eB}{Z:PEnds}{Dn:Ends}(ok:EndsOk K C F H S ρ σ Z Dn)(s:Ste F H S ρ D B S1 A)(I:Rl K D B S1 A σ)(r:Tr K D B kf v t W)(h:Held D B S1 A W)(fr:∀b,W b->H b=kv∨U ρ S b)(q:Z.rt t A):Dn.rt v B :=
 ok.rt v t W D B S1 A σ (s.toStp.sts (J:=[])).c I r h fr q
theorem PQ(g:GOk K Γ Ψ):∀(e:PX) {F H:Hp}{S:Ft}{ρ:xA}{σ:St}{Z:PEnds}{Dn:Ends},Rl K F H S ρ σ->YF K F H S ρ E N->FD Ψ E Z.rt e ρ->EndsOk K C F H S ρ σ Z Dn->(wp K Γ e N).e σ H Dn.rt:=by
  intro e F H S ρ σ Z Dn I X h ok;have m:∀e,(pe Ψ e E).e ρ (λx n A=>KH x n=kf/\Z.rt x A)->(wp K Γ e N).e σ H Dn.rt:=λe h=>by refine(NA g e).e (Q:=λx n A=>KH x n=kf/\Z.rt x A) I X h λv F' H' S' l x n Za s J r #[L,q]=>?_;let#[W,o,p,fr]:=r.strict L;exact N6 ok s J o p fr q
  cases e with
  |ife t a b =>
   have h:(pe Ψ t E).t ρ λk A=>if k=kf then FD Ψ E Z.rt a A else FD Ψ E Z.rt b A:=h
   refine(NA g t).t I X h λk F' H' S' l s J q=>?_;cases k with|true=>exact PQ g a J (X.from s.toStp) q (ok.from s.toStp.sts)|false=>exact PQ g b J (X.from s.toStp) q (ok.from s.toStp.sts)
  |var i =>
   have y:Hw ρ i Z.rt ρ[i]?:=h;show(match σ[i]? with|some (jr v)=>Dn.rt v _|_=>False)
   match f:ρ[i]?,y with
   |some (jr (.own t)),y =>
    let#[v,w,r]:=I.sl i _ f;rw[w];have I0:Rl K F H S (ρ.set i kv) σ:=I.drop (by simp) λj s e=>by
     rcases lA e with⟨_,z,_⟩| ⟨_,e⟩
     cases z;exact e
    refine ok.rt v t (S i) F H S (ρ.set i kv) σ #[.refl _,λb u e _=>e,λb e=>e,λb e z=>im e z,λb #[j,u,w,h2]=>.inl ?_,λ_ _=>rfl] I0 r #[r.dom,λj s e b hb z=>?_] (λb hb=>.inr #[i,t,f,hb]) y;rcases lA w with⟨_,z,_⟩| ⟨_,w⟩
    ·cases z
    exact#[j,u,w,h2];rcases lA e with⟨_,q,_⟩| ⟨n,e⟩
    ·cases q
    exact I.dj i j t s n f e b hb z
   |some (jr (.bor t)),y =>
    let#[v,w,r]:=I.sl i _ f;rw[w];let#[Y,y]:=y;cases t with
    |d x =>
     have r:Tr K F H kd v (.d x) (S i):=r;cases r with|d q n=>exact N6 (W:=λ_=>False) ok .refl I (.d q λ_ z=>z) .none (λ_ z=>z.elim) y
    |_=>cases Y
   |some kv,y=>exact y.elim|none,y=>exact y.elim
  |_=>exact m _ h
theorem MI(g:GOk K Γ Ψ):∀(p:PT) {F H:Hp}{S:Ft}{ρ:xA}{σ:St}{Z:PEnds}{Dn:Ends},fK C p=kf->Rl K F H S ρ σ->YF K F H S ρ E N->iB Ψ E p Z ρ->EndsOk K C F H S ρ σ Z Dn->OS K Γ N p Dn σ H
 | .nil,_,_,_,_,_,_,_,c,I,X,h,ok=>ok.nx _ _ _ _ _ .refl I h|.seq s r,_,_,_,_,_,_,_,c,I,X,h,ok=>by let#[c1,c2]:=vA c;exact MI g s c1 I X h #[λF' H' S' L σ' s' J q=>MI g r c2 J (X.fromS s') q (ok.from s'),ok.rt,ok.bk,ok.ct]|.set i e,F,H,S,ρ,σ,Z,Dn,c,I,X,h,ok=>by have hi:=lR c;refine UF (RR:=λx B=>Dn.nx (σ.set i (jr x)) B) (NA g e) I X h λv F' H' S' L x n Za s J X' r er _ #[he,q]=>?_;exact ok.nx _ _ _ _ _ (s.toStp.sts.setD i hi v rfl _) (J.setD i (er he)) q|.expr e,F,H,S,ρ,σ,Z,Dn,c,I,X,h,ok=>(NA g e).e I X h λv F' H' S' L x n Za s J r q=>ok.nx _ _ _ _ _ s.toStp.sts J q|.ret e,F,H,S,ρ,σ,Z,Dn,c,I,X,h,ok=>PQ g e I X h ok|.ife t a b,F,H,S,ρ,σ,Z,Dn,c,I,X,h,ok=>by
  let#[c1,c2]:=vA c;refine(NA g t).t I X h λk F' H' S' L s J q=>?_;cases k with|true=>exact MI g a c1 J (X.from s.toStp) q (ok.from s.toStp.sts)|false=>exact MI g b c2 J (X.from s.toStp) q (ok.from s.toStp.sts)
 | .for_ tg ik its body,F,H,S,ρ,σ,Z,Dn,c,I,X,h,ok=>by
  let#[c1,c2]:=vA c;have hC:=g8 c1;refine cY (RR:=λvs B=>dC K ik vs B λxs st M=>Vo K xs st tg (OS K Γ N body) Dn σ M) (NA g its) I X h λvs D B S1 A xs Y s1 I1 X1 tn tm q=>?_;rw[gM _ rfl]at q;have ok1:=ok.from s1.toStp.sts;cases ha:YS xs with
  |true=>have tn':=tn.bare (EZ ha);refine mK I1.fh tn' q λits ys st pr hst hc=>?_;rw[ha,a9 rfl]at hc;refine CZ (λI X h ok=>MI g body c2 I X h ok) I1 X1 hC pr (λb z=>z.elim) hst hc ?_ ?_;exact λF' H' S' L σ' s' I' q=>ok1.nx _ _ _ _ _ s'.kill (I'.drop (KN _ _) λi sl e=>(vG _ _ i sl e).1) q;exact λv t W F' H' S' L σ' s' I' r hw fr q=>ok1.rt v t W F' H' S' L σ' s' I' r hw fr q|false =>
   refine mK I1.fh tn q λits' ys st pr hst hc=>?_;rw[ha,a8 (by simp)]at hc;have hL:=OH (ρ:=A) (GF its);have IL:=I1.lock hL;have sL:Sts C [] D B S1 A σ D B (λ_ _=>False) [] σ:=#[.refl _,λb u e _=>e,λb e=>e,λb e z=>im e z,λb #[i,t,e,_]=>by simp at e,λj t _ e=>by simp at e,λ_ _=>rfl]
   have XL:YF K D B S1 (lock (xC A (GF its)) A) E N:=λx dx F2 M O P s2 f r q =>
    X1 x dx F2 M (λ_ _=>False) [] #[s2.ff,λb u e n=>s2.hh b u e λz=>n (zF hL z),s2.dm,λb e z=>(s2.fn b e z).imp (zF hL) id,λb #[i,t,e,_]=>by simp at e,λj t e=>by simp at e] f r q
   refine CZ (λI X h ok=>MI g body c2 I X h ok) IL XL hC pr (λb hb=>?_) hst hc ?_ ?_;let#[i,sl,h1,h2,h3]:=tm b hb;refine#[λu=>?_,I1.dom h2 h3];cases sl with
   |own t=>exact I1.lockU hL (gN h2 _ h1) h3 u|bor t =>
    let#[j,t',e1,e2]:=u;rcases lL hL e1 with⟨_,_,_,z⟩| ⟨_,e1⟩
    cases z;exact I1.dj j i t' _ (λz=>by subst z;rw[h2]at e1;cases e1) e1 h2 b e2 h3
   intro F' H' S' L σ' s' I' #[q1,q2];have sk:=s'.kill;have Ik:=I'.drop (KN tg.ix L) λi sl e=>(vG _ _ i sl e).1;let#[O,I2,s2]:=B0 hL I1 sk Ik λi hi=>(q1 i hi).2;exact ok1.nx _ _ _ _ _ s2 I2 q2;intro v t W F' H' S' L σ' s' I' r hw fr q;exact ok1.rt v t W F' H' S' L σ' #[s'.ff,λb u e n=>s'.hh b u e λz=>n (zF hL z),s'.dm,λb e z=>(s'.fn b e z).imp (zF hL) id,λb u=>(s'.uu b u).imp (zF hL) id,s'.sg] I' r hw (λb hb=>(fr b hb).imp id (zF hL)) q
 | .own i e,F,H,S,ρ,σ,Z,Dn,c,I,X,h,ok=>by refine(NA g e).e (Q:=λx n A=>KH x n=kf/\Z.nx (A.set i (jr (.own x)))) I X h λv F' H' S' L x n Za s J r #[he,q]=>?_;let#[W,r2,hw,fr]:=r.strict he;exact ok.nx _ _ _ _ _ (s.toStp.sts.setN i (lR c) v x fr) (J.setN i r2 λj sl _ e b hb=>hw.nw j sl e b hb) q|.six o i e,F,H,S,ρ,σ,Z,Dn,c,I,X,h,ok=>by
  have later:∀{j:Nat}{t:T}{v0:V},ρ[j]?=jr (jr (.own t))->Tr K F H kf v0 t (S j)->∀{F' H':Hp}{S':Ft}{L:xA},Ste F H S (ρ.set j (jr (.bor t))) F' H' S' L->Tr K F' H' kf v0 t (S j)/\∀b,S j b->H' b=H b:=λ{j t v0} hj r0 {F' H' S' L} s=>#[s.toStp.keep r0 (I.lock1U hj),λb hb=>by
   cases e:H b with|none=>exact im e (r0.dom b hb).1|some u=>exact s.hh b u e (I.lock1U hj b hb)]
  cases o with
  |var j =>
   have h:AC ρ[j]? _:=h;unfold AC at h;split at h;rename_i t hj;let#[v0,hv,r0]:=I.sl j _ hj;have r0:Tr K F H kf v0 t (S j):=r0;show(wp K Γ e N).e σ H λv B=>(wp K Γ (.var j) N).e σ B λov M=>(wp K Γ i N).e σ M λiv H3=>rT K ov iv v H3 λH4=>Dn.nx σ H4;refine UF (NA g e) (I.lock1 hj) (X.lock1 hj) h λxv D B S1 A x n Zx s1 I1 X1 _ er1 _ #[he,q1]=>?_;have rx:=er1 he;show(match σ[j]? with|some (jr v)=>_|_=>False);rw[hv];refine UF (NA g i) I1 X1 q1 λiv F2 M O P y m Zy s2 I2 X2 _ er2 _ #[he2,hj2,q2]=>?_;have s12:=s1.trans s2;refine k6 I2.fh (later hj r0 s12).1 (er2 he2) (rx.mono s2.ff) q2 λt' H3 S3 hh dm rt sub q=>?_;let#[st,I3,_]:=HI (W:=λ_=>False) I hj hv s12 I2 hh dm rt (λb hb=>.inl (sub b hb)) .none (λ_ z=>z.elim);exact ok.nx _ _ _ _ _ st.toStp.sts I3 q
   all_goals exact h.elim
  |idx a k =>
   cases a with
   |var j =>
    have h:AC ρ[j]? _:=h;unfold AC at h;split at h;rename_i t hj;let#[v0,hv,r0]:=I.sl j _ hj;have r0:Tr K F H kf v0 t (S j):=r0;show(wp K Γ e N).e σ H λv B=>(wp K Γ (.var j) N).e σ B λov M=>(wp K Γ k N).e σ M λzv H3=>U1 K ov zv H3 λow H4=>(wp K Γ i N).e σ H4 λiv H5=>rT K ow iv v H5 λH6=>Dn.nx σ H6;refine UF (NA g e) (I.lock1 hj) (X.lock1 hj) h λxv D B S1 A x n Zx s1 I1 X1 _ er1 _ #[he,q1]=>?_;have rx:=er1 he;show(match σ[j]? with|some (jr v)=>_|_=>False);rw[hv];refine UF (NA g k) I1 X1 q1 λzv F2 M O P z l Zz s2 I2 X2 _ er2 _ #[hez,b,ks,ts,n,s,et,hk,hf,ht,q2]=>?_;have s12:=s1.trans s2;have rz:=er2 hez;subst et;let#[r2,k2]:=later hj r0 s12;obtain⟨a,o,vs,ea,ho,dk,hw⟩:∃a o vs,v0=.ref a/\M a=jr o/\OJ K F2 b o ks vs/\∃w,vs[n]?=jr w/\S j a:=by
     cases r2 with|dct h1 dk h2 h3 h4 h5=>let#[w,_,g1,_]:=h3.get ht;exact#[_,_,_,rfl,h1,dk,w,g1,(h5 _).mpr (.inl rfl)]
    let#[w,hw,sa]:=hw;subst ea;have gd:=(dk.mono I2.fh).get ho (rz.mono I2.fh) hk;rw[hf]at gd;have gd:US K M a zv (vs[n]?):=gd;rw[hw]at gd;have fin:(wp K Γ i N).e σ M λiv H5=>rT K w iv xv H5 λH6=>Dn.nx σ H6:=by
     refine UF (NA g i) I2 X2 q2 λiv F3 H3 S3 ρ3 y m Zy s3 I3 X3 _ er3 _ #[he3,hj3,q3]=>?_;have s13:=s12.trans s3;let#[r3,k3]:=later hj r0 s13;have ho3:H3 a=jr o:=by rw[k3 a sa,<- k2 a sa];exact ho
     refine jc I3.fh r3 ho3 dk hw ht (er3 he3) ((rx.mono s2.ff).mono s3.ff) q3 λt' H4 S4 hh dm rt sub q=>?_;let#[st,I4,_]:=HI (W:=λ_=>False) I hj hv s13 I3 hh dm rt (λb hb=>.inl (sub b hb)) .none (λ_ z=>z.elim);exact ok.nx _ _ _ _ _ st.toStp.sts I4 q
    cases zv with|str z=>exact#[w,gd,fin]|ref c=>exact#[w,gd,fin]|_=>exact gd.elim
    all_goals exact h.elim
   |_=>exact h.elim
  |_=>exact h.elim
 | .sdf j k,F,H,S,ρ,σ,Z,Dn,c,I,X,h,ok=>by
  have h:AC ρ[j]? _:=h;unfold AC at h;split at h;rename_i t hj;let#[v0,hv,r0]:=I.sl j _ hj;have r0:Tr K F H kf v0 t (S j):=r0;let#[hd,h]:=h;show(match σ[j]? with|some (jr v)=>M4 K "dict" v H/\(wp K Γ k N).e σ H λx B=>∀p,B p=kv->EL K v [x,.ref p] (CA B p (.dT 0 [])) λ_ M=>Dn.nx σ M|_=>False);rw[hv];constructor;cases r0 with
  |@dct _ b _ _ _ _ _ _ _ h1 dk _ _ _ _ =>
   cases b with|true=>let#[ep,kvs,rfl,_]:=dk;exact .inr (.inr (.inl #[rfl,.inr #[ep,kvs,h1]]))|false=>cases hd
  |_=>cases hd
  refine UF (NA g k) (I.lock1 hj) (X.lock1 hj) h λiv D B S1 A y m Zy s1 I1 X1 _ er _ #[he,hj1,q1]=>?_;intro p hp;have r1:=s1.toStp.keep r0 (I.lock1U hj);refine Vj I1.fh hp r1 (er he) q1 λt' H3 S3 hh dm rt sub q=>?_;let#[st,I3,_]:=HI (W:=λ_=>False) I hj hv s1 I1 hh dm rt (λb hb=>(sub b hb).imp id λ(z:b=p)=>.inr (by rw[z];exact hp)) .none (λ_ z=>z.elim);exact ok.nx _ _ _ _ _ st.toStp.sts I3 q
  all_goals exact h.elim
 | .whl t body,F,H,S,ρ,σ,Z,Dn,c,I,X,h,ok=>by
  let#[W,#[m0,w0],turn]:=h;refine#[λm σ' H'=>∃L F' S',Sts C [] F H S ρ σ F' H' S' L σ'/\Rl K F' H' S' L σ'/\W m L,#[m0,ρ,F,S,.refl,I,w0],?_];rintro m G B ⟨A,D,S1,s1,I1,w1⟩;refine(NA g t).t I1 (X.fromS s1) (turn m A w1) λk F' H' S' L s' J q=>?_;have s2:=s1.trans s'.toStp.sts;cases k with
  |false=>exact ok.nx _ _ _ _ _ s2 J q|true =>
   refine#[λσ' H'=>∃m',m' < m/\∃L F' S',Sts C [] F H S ρ σ F' H' S' L σ'/\Rl K F' H' S' L σ'/\W m' L,λ_ _ z=>z,?_];refine MI g body c J (X.fromS s2) q #[?_,?_,?_,?_];exact λF' H' S' L σ' s' I' #[m',hm,w]=>#[m',hm,L,F',S',s2.trans s',I',w]
   exact λv t W F' H' S' L σ' s' I' r hw fr q=>ok.rt v t W F' H' S' L σ' (s2.c.trans s') I' r hw (Nx s2 fr) q;exact λF' H' S' L σ' s' I' q=>ok.nx _ _ _ _ _ (s2.trans s') I' q;exact λF' H' S' L σ' s' I' #[m',hm,w]=>#[m',hm,L,F',S',s2.trans s',I',w]
 | .frz is s,F,H,S,ρ,σ,Z,Dn,c,I,X,h,ok=>by let#[F',S',I',s']:=I.frzAt (C:=C) is;exact MI g s c I' (X.fromS s') h (ok.from s')
end
section
variable{z:Ev}{n:Need}
structure Need where
 fn:LS
 va:LS
 no:LS
noncomputable def gx(n:Need):ItK->Bool
 | .val=>kf|.rng1=>n.no.contains ("range":Str)|.enum=>n.no.contains ("enumerate":Str)|.rev=>n.no.contains ("reversed":Str)|.itm=>kf
def JB(n:Need):PX->Bool
 | .glo x=>n.va.contains x|.bin _ a b | .cmp _ a b | .and a b | .or a b | .idx a b | .acons a b | .dsp a b=>JB n a&&JB n b
 | .not a | .lst a | .tup a=>JB n a
 | .lrv a=>n.no.contains "list" && (n.no.contains "reversed" && JB n a)|.ife a b c | .slc a b c=>JB n a&&(JB n b&&JB n c)
 | .call f y=>n.fn.contains f&&JB n y|.bi f y=>n.no.contains f.nm&&JB n y|.mt _ o y=>JB n o&&JB n y|.comp _ _ _ w u h v=>gx n w&&(JB n u&&(JB n h&&JB n v))|_=>kf
def jF(n:Need):PT->Bool
 | .seq s r=>jF n s&&jF n r|.set _ e=>JB n e|.own _ e=>JB n e|.expr e=>JB n e|.ret e=>JB n e|.ife c a b=>JB n c&&(jF n a&&jF n b)|.for_ _ y x h=>gx n y&&(JB n x&&jF n h)|.six o i e=>JB n o&&(JB n i&&JB n e)|.sdf i k=>JB n (Zq i k)|.whl c b=>JB n c&&jF n b|.frz _ s=>jF n s|.nil=>kf
noncomputable def ER(z:Ev)(n:Need):Glob:=#[z,λf=>f∈n.fn,λx=>x∈n.va,λx=>x∈n.no]
theorem n9{x:ItK}(h:gx n x=kf):Ps (ER z n) x:=by
 cases x with|val=>trivial|itm=>trivial|_=>exact Q2.mp h
theorem KC:∀(p:PX),JB n p=kf->gB (ER z n) p:=by
 intro p;induction p with
 |glo x=>intro h;exact Q2.mp h|bin _ a b y w|cmp _ a b y w|and a b y w|or a b y w|idx a b y w|acons a b y w|dsp a b y w=>intro h;let#[v,u]:=vA h;exact#[y v,w u]
 |not a y|lst a y|tup a y=>intro h;exact y h
 |ife a b c y w i|slc a b c y w i=>intro h;let#[v,g]:=vA h;let#[u,k]:=vA g;exact#[y v,w u,i k]
 |call f l y=>intro h;let#[v,u]:=vA h;exact#[Q2.mp v,y u]|lrv a y=>intro h;let#[v,u]:=vA h;let#[k,e]:=vA u;exact#[Q2.mp v,Q2.mp k,y e]|bi f l y=>intro h;let#[v,u]:=vA h;exact#[Q2.mp v,y u]|mt _ o l q y=>intro h;let#[v,u]:=vA h;exact#[q v,y u]|comp _ _ _ Z m j Y X s r=>intro h;let#[v,h]:=vA h;let#[u,h]:=vA h;let#[k,e]:=vA h;exact#[n9 v,X u,s k,r e]|_=>intro _;trivial
theorem Y2:∀(p:PT),jF n p=kf->IE (ER z n) p:=by
 intro p;induction p with
 |seq s r f l=>intro h;let#[u,y]:=vA h;exact#[f u,l y]|set _ e|own _ e|expr e|ret e=>intro h;exact KC _ h
 |six o i e=>intro h;let#[u,x]:=vA h;let#[y,w]:=vA x;exact#[KC _ u,KC _ y,KC _ w]|sdf i k=>intro h;exact KC _ h|frz _ s f=>intro h;exact f h|whl c b v=>intro h;let#[u,y]:=vA h;exact#[KC _ u,v y]|ife c a b m v=>intro h;let#[u,x]:=vA h;let#[y,w]:=vA x;exact#[KC _ u,m y,v w]|for_ _ q j g v=>intro h;let#[u,x]:=vA h;let#[y,w]:=vA x;exact#[n9 u,KC _ y,v w]|_=>intro _;trivial
noncomputable def FN(N h:LS)(sc:hB):Bool:=sc.kind==.function&&!sc.isCoroutine&&!sc.isGenerator&&cK N&&N.take h.9==h &&
 h.all (λx=>sc.names.lookup x==jr .local||sc.names.lookup x==jr .cell)&&sc.names.all λy=>y.2 != .free
theorem LU{N x:LS}{sc:hB}(h:FN N x sc=kf):FnScope N x sc:=by simp only[FN,Qb,Q9,Wa,beq_iff_eq,Q4,bne_iff_ne,ne_eq]at h;let#[#[#[#[#[#[b,a],k],w],v],u],y]:=h;exact#[b,a,k,iE w,v,u,y]
def GA(n:Need)(b:PT)(N h:LS)(st:gl):Bool:=FN N h (RA st)&&vS b #[N,RA st] (gC st)&&jF n b
def gk:Md->T->Sl
 | .chg,t=>.own t|_,t=>.bor t
noncomputable def kE:List Md->LT->xA
 |_,[]=>[]|md,t::ts=>jr (gk (md.headD .fro) t)::kE md.tail ts
def mB(N:LS)(md:List Md)(ts:LT):xA:=kE md ts++QAa (N.9 - ts.9) kv
noncomputable def XB:Nat->List Md->Nat->LN
 |_,_,0=>[]|k,md,n+1=>match md.headD .fro with
  | .chg=>k::XB (k+1) md.tail n|_=>XB (k+1) md.tail n
def ZW:Option (LT)->(LT->Prop)->Prop
 |some os,Q=>Q os|none,_=>False
def PC(P:PSp)(n:Nat)(Q:T->LT->Prop):PEnds where
 nx:=λh=>ZW (HA (XB 0 P.md n) h) (Q (.d .none))
 rt:=λt h=>ZW (HA (XB 0 P.md n) h) (Q t)
abbrev Vz(Ψ:PEv)(b:PT)(p:PSp)(N h:LS)(ds:LT)(Q:T->LT->Prop):Prop:=ds.9=h.9/\pF Ψ b (PC p h.9 Q) (mB N p.md ds)
abbrev UD(Ψ:PEv)(b:PT)(p:PSp)(N x:LS):Prop:=∀(h:LT) (Q:T->LT->Prop) (E:XE),p.run h Q E->h.9=x.9/\pF Ψ b (PC p x.9 Q) (mB N p.md h)
def IV(mg:Str->Option kb)(x:Str):V:=((mg x).bind xO).getD .non
def ft(K:QA)(mg:Str->Option kb)(Ψ:PEv):Ev:=#[λf=>lift K (Ψ.sp f),IV mg]
structure ValsOk(P:k5)(w:xb)(K:QA)(mg:Str->Option kb)(Ψ:PEv)(va:LS):Prop where
 rep:∀x d,Ψ.va x=jr d->∀F,Rep K F (IV mg x) d
 has:∀x∈va,∃u v,mg x=jr u/\xO u=jr v
theorem MY{u:kb}{v:V}(h:xO u=jr v):JA v u:=by cases u<;>first | (obtain rfl:=Ql h;first|rfl|exact#[_,rfl])|exact nomatch (show(none:Option V)=jr v from h)
end
section
variable{P:k5}{w:xb}{K:QA}{mg:Str->Option kb}{base:vu}{Ψ:PEv}
section
variable{k:Nat}{F H:Hp}{Y M:eB}{md:List Md}{vs:LV}{ts:LT}{N l:LS}{R:PSp}{x o:Str}{st:gl}{f:ko}{p:gV}{n:Need}
def DG(P:k5)(w:xb)(K:QA)(mg:Str->Option kb)(base:vu)(Ψ:PEv)(k:Nat)(f:Str):Prop :=
 ∃(a:ko) (p:gV) (l:LS),FnOk P w K mg base v5 k a p l (lift K (Ψ.sp f))/\mg f=jr (.ref a)/\wO K (.ref a)=kf/\PJ K p l []
theorem DG.mono{j:Nat}{f:Str}(h:DG P w K mg base Ψ j f)(hk:j<=k):DG P w K mg base Ψ k f:=by let#[a,p,l,z,y]:=h;exact#[a,p,l,z.mono hk,y]
theorem ArgsR.length(h:ArgsR K F H Y md vs ts):vs.9=ts.length:=by
 induction h with|nil=>rfl|chg _ _ e=>exact i3 Nat.succ e|rd _ _ _ _ e=>exact i3 Nat.succ e
theorem yJ:∀(m:List Md) (ts:LT),(kE m ts).9=ts.9
 |_,[]=>rfl|m,d::ds=>by unfold kE;rw[QM,QM,yJ]
theorem V7{m:Md}(h:m≠.chg)(t:T):gk m t=.bor t:=by cases m<;>first|rfl|exact im rfl h
theorem RH(md:List Md)(v:V)(vs:LV):tB md (v::vs)=match md.headD .fro with | .chg=>v::tB md.tail vs|_=>tB md.tail vs:=by first | (rw[tB];done) | (rw[tB];cases md.headD .fro<;>rfl)
theorem eN(md:List Md)(v:T)(vs:LT):LB md (v::vs)=match md.headD .fro with | .chg=>v::LB md.tail vs|_=>LB md.tail vs:=by first | (rw[LB];done) | (rw[LB];cases md.headD .fro<;>rfl)
theorem aP(md:List Md)(t:T)(ts:LT):kE md (t::ts)=jr (gk (md.headD .fro) t)::kE md.tail ts:=by rw[kE]
theorem Bf(h:ArgsR K F H Y md vs ts)(r:Trs K F H kf (tB md vs) (LB md ts) M) :
  ∃Z:Ft,(∀(i:Nat) s,(kE md ts)[i]?=jr (jr s)->∃v,vs[i]?=jr v/\Tr K F H s.st v s.t (Z i))/\(∀(i:Nat) t,(kE md ts)[i]?=jr (jr (.own t))->∀b,Z i b->M b)/\(∀(i:Nat) t,(kE md ts)[i]?=jr (jr (.bor t))->∀b,Z i b->Y b) /\
   ∀(i j:Nat) t u,i≠j->(kE md ts)[i]?=jr (jr (.own t))->(kE md ts)[j]?=jr (jr (.own u))->∀b,Z i b->¬ Z j b:=by
 induction h generalizing M with
 |nil=>exact#[λ_ _=>False,λi s e=>by simp[kE]at e,λi t e=>by simp[kE]at e,λi t e=>by simp[kE]at e,λi j t u _ e=>by simp[kE]at e]|@chg md v vs t ts a O A =>
  have J:tB md (v::vs)=v::tB md.tail vs:=by rw[RH,a]
  have I:LB md (t::ts)=t::LB md.tail ts:=by rw[eN,a]
  rw[J,I]at r;cases r with
  |@cons _ _ _ _ _ _ L Z2 W Q n q =>
   let#[Z,E,g,C,B]:=A Q;have G:kE md (t::ts)=jr (.own t)::kE md.tail ts:=by rw[aP,a];rfl
   rw[G];refine#[λi=>match i with|0=>L|i+1=>Z i,λi s e=>?_,λi u e b hb=>?_,λi u e b hb=>?_,λi j u w X e m b hb y=>?_];cases i with|zero=>simp at e;subst e;exact#[v,rfl,W]|succ i=>exact E i s (by simpa using e)
   cases i with|zero=>exact(q b).mpr (.inl hb)|succ i=>exact(q b).mpr (.inr (g i u (by simpa using e) b hb))
   cases i with|zero=>simp at e|succ i=>exact C i u (by simpa using e) b hb
   cases i with
   |zero =>
    cases j with|zero=>exact X rfl|succ j=>exact n b hb (g j w (by simpa using m) b y)
   |succ i =>
    cases j with|zero=>exact n b y (g i u (by simpa using e) b hb)|succ j=>exact B i j u w (λz=>X (by rw[z])) (by simpa using e) (by simpa using m) b hb y
 |@rd md v vs t ts L a W S O A =>
  have J:tB md (v::vs)=tB md.tail vs:=by rw[RH];cases e:md.headD .fro<;>first|exact im e a|rfl
  have I:LB md (t::ts)=LB md.tail ts:=by rw[eN];cases e:md.headD .fro<;>first|exact im e a|rfl
  rw[J,I]at r;let#[Z,E,g,C,B]:=A r;have G:kE md (t::ts)=jr (.bor t)::kE md.tail ts:=by rw[aP,V7 a]
  rw[G];refine#[λi=>match i with|0=>L|i+1=>Z i,λi s e=>?_,λi u e b hb=>?_,λi u e b hb=>?_,λi j u w X e m b hb y=>?_];cases i with|zero=>simp at e;subst e;exact#[v,rfl,W]|succ i=>exact E i s (by simpa using e)
  cases i with|zero=>simp at e|succ i=>exact g i u (by simpa using e) b hb
  cases i with|zero=>exact S b hb|succ i=>exact C i u (by simpa using e) b hb
  cases i with
  |zero=>simp at e|succ i =>
   cases j with|zero=>simp at m|succ j=>exact B i j u w (λz=>X (by rw[z])) (by simpa using e) (by simpa using m) b hb y
theorem y6(f:Same F H)(h:ArgsR K F H Y md vs ts)(r:Trs K F H kf (tB md vs) (LB md ts) M)(C:∀b,Y b->¬ M b) :
  ∃S,Rl K F H S (mB N md ts) (dD N vs)/\∀b,U (mB N md ts) S b->M b:=by
 let#[Z,A,a,W,X]:=Bf h r;have hl:=h.9;have get:∀(i:Nat) s,(mB N md ts)[i]?=jr (jr s)->(kE md ts)[i]?=jr (jr s):=λi s e=>by
  unfold mB at e;rcases QBG i ts.9 with z|z
  ·rwa [qL (by rw[yJ];exact z)]at e
  rw[Qy (by rw[yJ];exact z),we]at e;split at e<;>cases e
 refine#[Z,#[f,?_,λi s e=>?_,λi j t s n q m b hb y=>?_],λb #[i,t,e,hb]=>a i t (get i _ e) b hb];unfold mB dD;rw[QI,QI,yJ,QC,qt,qt,hl];let#[v,g,B]:=A i s (get i s e);refine#[v,?_,B];unfold dD;rw[qL (by rw[QC];exact(Qi.mp g).1),Qa,g];rfl;cases s with|own u=>exact X i j t u n (get i _ q) (get j _ m) b hb y|bor u=>exact C b (W j u (get j _ m) b y) (a i t (get i _ q) b hb)
theorem LP:∀{md:List Md}{k n:Nat}{vs:LV}{σ:St},vs.9=n->(∀(i:Nat) v,vs[i]?=jr v->σ[k+i]?=jr (jr v))->(tB md vs).map (λv=>jr (jr v))=(XB k md n).map λj=>σ[j]?
 |md,k,0,vs,σ,h,g=>by
  cases vs with|nil=>rfl|cons _ _=>cases h
 |md,k,n+1,vs,σ,h,g=>by
  cases vs with
  |nil=>cases h|cons v vs =>
   have y:=LP (md:=md.tail) (k:=k+1) (n:=n) (vs:=vs) (σ:=σ) (by simpa using h) λi w z=>by have:=g (i+1) w (by simpa using z);rw[show k+1+i=k+(i+1) by omega];exact this
   have g0:=g 0 v rfl;rw[RH];unfold XB;cases e:md.headD .fro with|chg=>simp only[QX,y];rw[show σ[k]?=jr (jr v) from g0]|_=>exact y
theorem SN:∀{md:List Md}{k n j:Nat},j∈XB k md n->k<=j
 |md,k,0,j,h=>by simp[XB]at h|md,k,n+1,j,h=>by
  unfold XB at h;cases e:md.headD .fro with
  |chg=>rw[e]at h;rcases QK.mp h with z|z;omega;have:=SN z;omega
  |_=>rw[e]at h;have:=SN h;omega
theorem jV:∀(md:List Md) (k n:Nat),(XB k md n).Nodup
 |md,k,0=>Qq|md,k,n+1=>by
  have h:=jV md.tail (k+1) n;unfold XB;cases e:md.headD .fro with|chg=>exact Qj.mpr #[λz=>by have:=SN z;omega,h]|_=>exact h
theorem V9{b:PT}(F:Fun K x o st f p)(IB:GA n b N l st=kf)(hc:fK (XB 0 R.md l.9) b=kf)
  (fns:∀g∈n.fn,DG P w K mg base Ψ k g) (G:ValsOk P w K mg Ψ n.va) (nos:∀y∈n.no,mg y=kv)
  (body:∀ts Q E,R.run ts Q E->ts.9=l.9/\pF Ψ b (PC R l.9 Q) (mB N R.md ts)):FnOk P w K mg base v5 (k+1) f p l (lift K R):=by
 let#[c12,c3]:=vA IB;let#[c1,c2]:=vA c12;have S:=LU c1;refine F.ok S (λvs H Q E h=>?_) (λcdv A L s H vs Q E hr h=>?_);let#[F',ts,M,Y,h1,h2,h3,h4,h5]:=h;rw[h2.9];exact(body ts _ _ h5).1;let#[F',ts,M,Y,h1,h2,h3,h4,h5]:=h;have q:=(body ts _ _ h5).2;have hlen:=(body ts _ _ h5).1;have ok:OkS ((XX v5 P w K mg base N o (RA st) f cdv A L s H E).nox) #[N,RA st] (ER (ft K mg Ψ) n) E0:={
  N:=rfl
  sc:=rfl
  calm:=rfl
  un:=by have:=hr.un;show(A.deeper _).units+66<gp;omega
  fn:=λg hg=>by let#[a,gd,gps,g1,g2,g3,g4]:=fns g hg;exact#[v5,k,a,gd,gps,g1,hr,g2,g3,g4,Tq,λ_ _ _ _ _ z=>z]
  val:=λy hy=>by let#[u,v,e1,e2]:=G.has y hy;refine#[u,e1,?_];show JA (IV mg y) u;unfold IV;rw[e1];show JA ((xO u).getD .non) u;rw[e2];exact MY e2
  no:=λy hy=>nos y hy
  po:=PassesOwn.never
  nd:=S.nd
  cel:=λ_=>rfl }
 refine#[_,(Jw b ok c2 (Y2 b c3)).1,?_];let#[S0,I,hU]:=y6 (N:=N) h1 h2 h3 h4;have g:GOk K (ft K mg Ψ) Ψ:=#[λ_ _ _ _ _ h=>h,λy d e F=>G.rep y d e F]
 have hvl:vs.9=l.length:=h2.length.trans hlen;have fin:∀v t W C B J m X,Stc (XB 0 R.md l.9) F' H S0 (mB N R.md ts) (dD N vs) C B J m X->Rl K C B J m X->Tr K C B kf v t W->Held C B J m W->(∀b,W b->H b=kv∨U (mB N R.md ts) S0 b) ->
   ZW (HA (XB 0 R.md l.9) m) (λos=>∀v F3 H3 Z M',Frm M F' H F3 H3->Tr K F3 H3 kf v t Z->Trs K F3 H3 kf (tB R.md vs) os M'->(∀b,Z b->¬ M' b)->(∀b,Z b∨M' b->M b∨H b=kv)->Q v H3)->Q v B:=by
  intro v t W C B J m X s I2 r hw fr q;cases eo:HA (XB 0 R.md l.9) m with
  |none=>rw[eo]at q;exact q.elim|some os =>
   rw[eo]at q;have hv:(tB R.md vs).map (λv=>jr (jr v))=(XB 0 R.md l.9).map λj=>X[j]?:=by rw[LP (md:=R.md) (k:=0) (n:=l.9) (vs:=vs) (σ:=dD N vs) hvl λi w hw=>?_];exact wK λj O=>(s.sg j O).symm;unfold dD;rw[Wr,qL (by rw[QC];exact(Qi.mp hw).1),Qa,hw];rfl
   have trs:=I2.trs (jV _ _ _) eo hv;have own:∀j∈XB 0 R.md l.9,∃t,m[j]?=jr (jr (.own t)):=λj O=>by let#[i,hi]:=Ww.mp O;let#[t,_,e]:=(LD eo).2 i j hi;exact#[t,e]
   have lk:∀b,U (mB N R.md ts) S0 b∨H b=kv->M b∨H b=none:=λb hb=>hb.imp (hU b) id;refine q v C B W _ #[s.ff,I2.fh,λb u e n=>s.hh b u e λz=>n (hU b z),s.dm,λb e z=>lk b (s.fn b e z)] r trs (λb hb #[j,O,z]=>?_) λb hb=>?_;let#[t',e]:=own j O;exact hw.nw j _ e b hb z;rcases hb with hb|⟨j,O,z⟩
   ·exact lk b (fr b hb).symm
   let#[t',e]:=own j O;exact lk b (s.uu b #[j,t',e,z])
 refine MI g b hc I (λ_ _ _ _ _ _ _ _ _ z=>z.elim) q #[?_,?_,λ_ _ _ _ _ _ _ z=>z.elim,λ_ _ _ _ _ _ _ z=>z.elim];intro C B J m X s I2 q;exact fin .non (.d .none) (λ_=>False) C B J m X s.c I2 (.d .non λ_ z=>z) .none (λ_ z=>z.elim) q;intro v t W C B J m X s I2 r hw fr q;exact fin v t W C B J m X s I2 r hw fr q
theorem i9{h:PEv}{b:PT}(F:Fun K x o st f p)(a:mg x=jr (.ref f))(hb:PJ K p l [])(IB:GA n b N l st=kf)(hc:fK (XB 0 R.md l.9) b=kf)
  (v:∀g∈n.fn,DG P w K mg base Ψ k g) (z:ValsOk P w K mg Ψ n.va) (u:∀y∈n.no,mg y=kv)
  (body:∀ts Q E,R.run ts Q E->ts.9=l.9/\pF Ψ b (PC R l.9 Q) (mB N R.md ts)) (e:h.sp x=R):DG P w K mg base h (k+1) x :=
 #[f,p,l,by rw[e];exact V9 F IB hc v z u body,a,F.kp,hb]
end
end
noncomputable def CT:PSp where
 md:=[.shal]
 run:=λx Q _=>∃h:LJ,h.9<=63/\(∀n∈h,QAI n<=1048576)/\x=[.lst ((h.map j1).map T.d)]/\Q (.d (.bool kf)) []
def Lo:PSp:=#[[],λ_ _ _=>False,λ_ _ h=>h]
theorem mP{K:QA}{F:Hp}:∀(ns:LJ),Reps K F (ns.map V.int) (ns.map j1)
 |[]=>.nil|n::r=>.cons (.int n) (mP r)
theorem FM{K:QA}{F:Hp}:∀(ns:LS),Reps K F (ns.map V.str) (ns.map j0)
 |[]=>.nil|n::r=>.cons (.str n) (FM r)
theorem jm(K:QA)(H:Hp)(a:ko)(ns:LJ)(hl:ns.9<=63)(h:∀n∈ns,QAI n<=1048576)(x:nC K H a (ns.map V.int)):lift K CT [.ref a] H (λv _=>v=.bl kf) λ_ _ _=>False:=by
 refine#[H,[.lst ((ns.map j1).map T.d)],λ_=>False,λ_=>False,.refl _,.rd (Z:=λ_=>False) (by simp[CT]) (.lstF x (mP ns) λ_ z=>z) (λ_ z=>z) .nil,.nil λ_ z=>z,λ_ z=>z.elim,ns,hl,h,rfl,λv w u Z y _ r _ _ _=>?_];cases r with|d r _=>cases r;rfl
theorem TV{ns:LJ}:∀n∈ns,W7 (.int n)<=wg (ns.map QAC.int):=by
 induction ns with|nil=>intro n h;cases h|cons m ns x=>intro n h;show _<=W7 (.int m)+1+wg (ns.map QAC.int);rcases QK.mp h with rfl|h;omega;have:=x n h;omega
theorem Kf{ns:LJ}(h:QAC.layableAll [.list (ns.map .int)]=kf):∀n∈ns,QAI n<=1048576:=by
 intro n z;have v:=(PySem.W.layableW_iff.mp (PySem.W.layableW_arg h _ QD)).2.2;have k:wg (ns.map QAC.int)<=2 ^ 20:=v;have y:=TV n z;have u:W7 (.int n)=if n==0 then 0 else n.natAbs.log2+1:=rfl
 rw[PySem.intBits_le_iff];by_cases x:n=0;subst x;exact Nat.pow_pos (by decide);have:(n==0)=false:=by simpa using x
 rw[u,this]at y;have w:n.natAbs.log2+1<=1048576:=by have:n.natAbs.log2+1<=wg (ns.map QAC.int):=y;omega
 exact(Nat.log2_lt (show n.natAbs≠0 by omega)).mp ()
def o0(K:QA)(x:Str)(st:gl):Prop:=∃f h,qq K k4 x=jr (jr (.ref f))/\Fun K x x st f h
def uO(K:QA)(x:Str)(d:D):Prop:=∃u v,qq K k4 x=jr (jr u)/\xO u=jr v/\∀F,Rep K F v d
theorem F5{K:QA}{x:Str}{f:ko}{xs:LS}{v:Option ko}{its:LW}{n:Nat}{z:Array (Option kb)}(a:qq K k4 x=jr (jr (.ref f)))
  (l:K.lookup f=jr #[.type "tuple",v,.seq its.toArray n,z]) (h:its.map xO=xs.map λy=>jr (.str y)) (k:xs.9<=kn):uO K x (.tuple (xs.map j0)):=by
 refine#[_,_,a,rfl,λF=>.tup (.inr #[_,its.toArray,n,l,rfl,rfl,?_,?_]) (FM xs)];have:=i3 qO h;simp at this;simp;omega;have key:∀(its:LW) (xs:LS),its.map xO=xs.map (λy=>jr (.str y))->oA (xs.map V.str) its:=by
  intro its;induction its with
  |nil =>
   intro xs h;cases xs with|nil=>exact .nil|cons _ _=>simp at h
  |cons u its w =>
   intro xs h;cases xs with|nil=>simp at h|cons y xs=>simp only[QX,Wc]at h;exact .cons (MY h.1) (w xs h.2)
 simpa using key its xs h
section
variable{P:k5}{w:xb}{K:QA}{mg:Str->Option kb}{base h:vu}{Ψ:PEv}
section
variable{x:Str}{st:gl}{z:LS}{k:Nat}
theorem uO.inMg(X:K.In h)(G:h.Ns k4 mg){d:D}(v:uO K x d):(∀F,Rep K F (IV mg x) d)/\∃u v,mg x=jr u/\xO u=jr v:=by
 let#[u,v,b,y,a]:=v;have e:=We X G b;refine#[λF=>?_,u,v,e,y];have:IV mg x=v:=by unfold IV;rw[e];show(xO u).getD .non=v;rw[y];rfl
 rw[this];exact a F
theorem J9{R:PSp}{u:PEv}{N:LS}{b:PT}{n:Need}(X:K.In h)(G:h.Ns k4 mg)(D:o0 K x st)(IB:GA n b N z st=kf)(hc:fK (XB 0 R.md z.9) b=kf)
  (hb:∀(kV j m:kb) (q:Option ko) (l ct:kb) (us:LW),us.9=z.9->ew (qr x x (jD st) (gC st) (RA st) .none kV j m q l ct) #[us,[]]=tv (z.zip us))
  (i:∀g∈n.fn,DG P w K mg base Ψ k g) (v:ValsOk P w K mg Ψ n.va) (e:∀y∈n.no,qq K k4 y=jr kv)
  (body:∀ts Q E,R.run ts Q E->ts.9=z.9/\pF Ψ b (PC R z.9 Q) (mB N R.md ts)) (p:u.sp x=R):DG P w K mg base u (k+1) x:=by
 let#[f,r,a,F]:=D;exact i9 F (We X G a) (F.binds hb) IB hc i v (λy o=>QAU X G (e y o)) body p
theorem ym{j:ko}(X:K.In h)(G:h.Ns k4 mg)(D:o0 K "law" st)(q:z=[x])(g:mg "law"=jr (.ref j))(p:Ψ.sp "law"=CT)
  (hb:∀(kV v i:kb) (l:Option ko) (b ct:kb) (us:LW),us.9=z.9->ew (qr "law" "law" (jD st) (gC st) (RA st) .none kV v i l b ct) #[us,[]]=tv (z.zip us))
  (H:∀base:vu,K.In base->base.Ns k4 mg->∀f y,Fun K "law" "law" st f y->mg "law"=jr (.ref f)->FnOk P w K mg base v5 k f y z (lift K (Ψ.sp "law"))) :
  ∃y:gV,(∀(s:kt) (u:kb),l4 s y #[[u],[]] [(x,u)])/\∀base:vu,K.In base->base.Ns k4 mg->FnOk P w K mg base v5 k j y [x] (lift K CT):=by
 let#[f,y,a,F]:=D;have e:=g.symm.trans (We X G a);cases e;subst q;refine#[y,λs u=>?_,λbase o n=>?_];let#[Z,Y,kV,v,i,l,b,ct,m,rfl,lk,r]:=F.ex;exact .of_eq (hb kV v i l b ct [u] rfl);rw[<- p];exact H base o n j y F g
end
end
theorem IA{α:Type}{body:T->(Option T->Prop)->Prop}(g f:α->T):∀(l:List α) (h:LT) (Q:LT->Prop),(∀x∈l,∀R:Option T->Prop,R (jr (f x))->body (g x) R)->h.9+l.9<=kn->Q (h++l.map f)->RC body (l.map g) h Q
 |[],h,Q,_,hl,q=>by simp only[ww,RC];exact#[by simpa using hl,by simpa using q]|x::r,h,Q,hb,hl,q=>by simp only[QX,RC];refine hb x QD _ ?_;simp only[QM]at hl;refine#[(),IA g f r _ Q (λy z=>hb y (QE _ z)) (by simp;omega) (by simpa using q)]
theorem fA{α:Type}{body:T->(Option T->Prop)->Prop}(g f:α->T)(p:α->Bool):∀(l:List α) (h:LT) (Q:LT->Prop),(∀x∈l,∀R:Option T->Prop,R (if p x=kf then jr (f x) else kv)->body (g x) R)->h.9+l.9<=kn->Q (h++(l.filter p).map f)->RC body (l.map g) h Q
 |[],h,Q,_,hl,q=>by simp only[ww,RC];exact#[by simpa using hl,by simpa using q]|x::r,h,Q,hb,hl,q=>by
  simp only[QX,RC];refine hb x QD _ ?_;simp only[QM]at hl;cases u:p x with|true=>refine#[(),fA g f p r _ Q (λy z=>hb y (QE _ z)) (by simp;omega) ?_];rw[WN,a9 u]at q;simpa using q|false=>refine fA g f p r _ Q (λy z=>hb y (QE _ z)) () ?_;rw[WN,a8 (by rw[u];simp)]at q;exact q
theorem bM{α:Type}{xs:List α}{i:Int}(y:0<=i)(x:i<xs.9):∃v,uD xs i=jr v/\xs[i.toNat]?=jr v:=by
 have h:i.toNat<xs.length:=()
 have e:((i.toNat:Nat):Int)=i:=()
 have q:=iF (Qh h);rw[e]at q;exact#[xs[i.toNat],q,Qh h]
theorem JF{α h:Type}(f:α->h)(xs:List α)(i:Int):uD (xs.map f) i=(uD xs i).map f:=by
 unfold uD;rw[QC];cases HS xs.9 i with|none=>rfl|some j=>exact Qa
theorem LA{Ψ:PEv}{E:XE}{α:Type}{body:PT}{u:Tg}{Z:PEnds}(g:α->T)(W:List α->xA->Prop)(k:∀ρ,W [] ρ->Z.nx ρ)
  (v:∀x xs ρ (N:xA->Prop),(∀y,W xs y->N y)->W (x::xs) ρ->MP u (g x) ρ λz=>iB Ψ E body { Z with nx:=N,ct:=N,bk:=Z.nx } z):∀(xs:List α) (ρ:xA),W xs ρ->EH (iB Ψ E body) u Z (xs.map g) ρ
 |[],ρ,w=>k ρ w|x::xs,ρ,w=>v x xs ρ (λh=>EH (iB Ψ E body) u Z (xs.map g) h) (λh a=>LA g W k v xs h a) w
noncomputable def zg(y:List (Str×PSp))(h:List (Str×D)):PEv:=#[λf=>(y.lookup f).getD Lo,λx=>h.lookup x]
theorem tY{P:k5}{w:xb}{K:QA}{mg:Str->Option kb}{h:vu}{v:List (Str×PSp)}{tbl:List (Str×D)}{z:LS}(X:K.In h)(G:h.Ns k4 mg)(u:∀p∈tbl,uO K p.1 p.2)
  (y:(z.all λx=>(tbl.map qz).contains x)=kf):ValsOk P w K mg (zg v tbl) z:=by
 refine#[λx d e F=>((u (x,d) (qP e)).inMg X G).1 F,λx k=>?_];have:=Q9.mp y x k;let#[p,a,e]:=QR.mp (Q2.mp this);rw[<- e];exact((u p a).inMg X G).2
theorem rQ{α:Type}[BEq α][LawfulBEq α]{l m:List α}(h:(l.all λx=>m.contains x)=kf):∀x∈l,x∈m:=λx y=>Q2.mp (Q9.mp h x y)
section
variable{a b c:PX}{i:Nat}{n:Int}{x:Str}{m:Mt}{f:Str}{g:Bi}{u:hZ}{w:dy}{is:List Bool}{h:LS}{z:Tg}{v:ItK}{y:String}
theorem sY:GF (.var i)=[i]:=rfl
theorem vP:GF (.acons a b)=GF a++GF b:=rfl
theorem AS:GF .anil=[]:=rfl
end
def AE{α:Type}(o:Option α)(K:α->Prop):Prop:=∃a,o=jr a/\K a
theorem AE.mk{α:Type}{o:Option α}{a:α}{K:α->Prop}(e:o=jr a)(k:K a):AE o K:=#[a,e,k]
theorem zB{α:Type}{a:α}{K:α->Prop}:AE (jr a) K=K a:=ir #[λ#[_,e,k]=>by cases e;exact k,λk=>#[a,rfl,k]]
theorem GC{α h:Type}{o:Option α}{f:α->h}{K:h->Prop}:AE (o.map f) K=AE o λa=>K (f a):=by
 cases o with|none=>exact ir #[λ#[_,e,_]=>(by cases e),λ#[_,e,_]=>(by cases e)]|some a=>rw[Q1,zB,zB]
def oB(Ψ:PEv)(e:PX)(E:XE)(ρ:xA)(K:TK):Prop:=(pe Ψ e E).e ρ K
def IQ(Ψ:PEv)(e:PX)(E:XE)(ρ:xA)(K:Bool->xA->Prop):Prop:=(pe Ψ e E).t ρ K
def uN(Ψ:PEv)(e:PX)(E:XE)(md:List Md)(ρ:xA)(K:List (T×Bool)->xA->Prop):Prop:=(pe Ψ e E).a md ρ K
def DM(p:PSp)(ts:LT)(K:T->LT->Prop)(E:XE):Prop:=p.run ts K E
def ub(x:T)(n:Bool)(Ψ:PEv)(b:PX)(E:XE)(ρ:xA)(K:TK):Prop:=sq (nA x n) ρ (cu (pe Ψ b E).e) λy h=>K y.1 y.2 h
def cb(x:T)(n:Bool)(Ψ:PEv)(b:PX)(E:XE)(md:List Md)(ρ:xA)(K:List (T×Bool)->xA->Prop):Prop:=sq (if n=kf then .d .none else x) ρ ((pe Ψ b E).a md) K
def TH(i:Nat)(σ ρ:xA)(K:TK):Prop:=pv σ[i]? λt=>K t kd ρ
def O6(i:Nat)(σ:xA)(ρ:xA)(j:Nat)(R:T->xA->Prop):Prop:=Hw ρ j R σ[i]?
def UI(Ψ:PEv)(E:XE)(r:PT)(Z:PEnds)(i:Nat)(x:T)(n:Bool)(ρ:xA):Prop:=KH x n=kf/\iB Ψ E r Z (ρ.set i (bD x.er))
def Iq(Ψ:PEv)(E:XE)(r:PT)(Z:PEnds)(i:Nat)(x:T)(n:Bool)(ρ:xA):Prop:=KH x n=kf/\iB Ψ E r Z (ρ.set i (jr (.own x)))
def oC(x:T)(n:Bool)(P:Prop):Prop:=KH x n=kf/\P
def eK(h:hZ)(x:T)(n:Bool)(y:T)(m:Bool)(Q:T->Bool->Prop):Prop:=binT h (nA x n).vw (nA y m).vw Q
def KB(h:dy)(x y:T)(Q:Bool->Prop):Prop:=uf h x.er y Q
def Sb(x:T)(Q:Bool->Prop):Prop:=sI x.er Q
def mz(x:T)(Q:Bool->Prop):Prop:=An x.er Q
def uM(f:Bi)(xs:List (T×Bool))(Q:T->Bool->Prop):Prop:=uY f (CB xs) Q
def XA(x:T)(n:Bool)(y:T)(m:Bool)(Q:T->Prop):Prop:=BN (nA x n).vw (nA y m).vw Q∨yS (nA x n).vw y.er Q
def Cp(Ψ:PEv)(E:XE)(c:PX)(q:PT)(Z:PEnds)(ρ:xA):Prop:=iB Ψ E (.whl c q) Z ρ
def dg(t y x:T)(Q:T->Prop):Prop:=mq t y.er x.er Q
def fq(z t:T)(Q:T->(T->T)->Prop):Prop:=gq z.er t Q
def Yq(y t:T)(Q:T->Prop):Prop:=Kj y.er t Q
def CL(x:T)(n:Bool)(l u:Option Int)(Q:T->Bool->Prop):Prop:=kK (nA x n).vw l u Q
def JN(xs:List (T×Bool))(C:LT->Prop):Prop:=UE xs=kf/\C (DF xs)
def mL(h:ItK)(xs:List (T×Bool))(R:LT->Prop):Prop:=NB h (CB xs) R
def DA(md:List Md)(xs:List (T×Bool))(C:LT->Prop):Prop:=AE (sA md xs []) C
def gG(Ψ:PEv)(E:XE)(x:List Bool)(y:LS)(u:Tg)(h z:PX)(ρ:xA):T->(Option T->Prop)->Prop:=hG u (DO y.9 x (lockA ρ)) (if isNop h=kf then λρ R=>R kf ρ else(pe Ψ h E).t) (pe Ψ z E).e
def TZ(h:Tg)(x:T)(ρ:xA)(K:xA->Prop):Prop:=MP h x ρ K
section
variable{Ψ:PEv}{E:XE}{ρ:xA}{K:TK}{L:Bool->xA->Prop}{M:List (T×Bool)->xA->Prop}{a b c Y its U V:PX}{Z:T->xA->Prop}
section
variable{i j:Nat}{x:T}{w:dy}{f t u:Str}{p:PSp}{md:List Md}{v m:List Bool}{g:LS}{o:Tg}{X:ItK}{R:Option T->Prop}{s:Option Sl}{σ:xA}{n:Bool}{ts:LT}
theorem Eu{i:Int}:oB Ψ (.ng i) E ρ K=K (.d (.int (-i))) kd ρ:=rfl
theorem Ny{b:PX}{x y:Str}{l:LN}(h:qB x y 0 x.9 1=i::l)(A:∀K,oB Ψ a E ρ K=K (.d (.str x)) kd ρ)(hb:∀K,oB Ψ b E ρ K=K (.d (.str y)) kd ρ)(q:K (.d (.int (i:Int))) kd ρ):oB Ψ (.mt .index a %[b|1]) E ρ K:=by show oB Ψ a E ρ λx n e=>B8 .index (nA x n).vw=kf/\sq (nA x n) e ((pe Ψ %[b|1] E).a []) λW r=>Jv .index (nA x n).vw (CB W) λz k=>K z k r;rw[A];refine#[rfl,?_];show oB Ψ b E ρ λz n e=>sq (α:=List (T×Bool)) (if n=kf then .d .none else z) e ((pe Ψ .anil E).a []) λW r=>_;rw[hb];exact#[x,y,i,l,rfl,rfl,h,q]
theorem Ui:oB Ψ (.var i) E ρ K=TH i ρ ρ K:=rfl
theorem Oh:IQ Ψ (.var i) E ρ L=TH i ρ ρ λt _ ρ=>Sb t λb=>L b ρ:=rfl
theorem Mi{i:Int}:oB Ψ (.int i) E ρ K=K (.d (.int i)) kd ρ:=rfl
theorem Di{x:Str}:oB Ψ (.str x) E ρ K=K (.d (.str x)) kd ρ:=rfl
theorem Iu{x:Bool}:oB Ψ (.bl x) E ρ K=K (.d (.bool x)) kd ρ:=rfl
theorem Hi:oB Ψ .non E ρ K=K (.d .none) kd ρ:=rfl
theorem DH{x:Str}{d:D}(h:Ψ.va x=jr d):oB Ψ (.glo x) E ρ K=K (.d d) kd ρ:=by show(match Ψ.va x with|some d=>K (.d d) kd ρ|none=>False)=_;rw[h]
theorem jb{w:hZ}:oB Ψ (.bin w a b) E ρ K=oB Ψ a E ρ λx n e=>ub x n Ψ b E e λy m h=>eK w x n y m λz k=>K z k h:=rfl
theorem Ph:IQ Ψ (.cmp w a b) E ρ L=oB Ψ a E ρ λx n z=>ub x n Ψ b E z λy m h=>KB w x (nA y m) λk=>L k h:=rfl
theorem Pi:oB Ψ (.cmp w a b) E ρ K=IQ Ψ (.cmp w a b) E ρ λk h=>K (.d (.bool k)) kd h:=rfl
theorem Ri:oB Ψ (.and a b) E ρ K=oB Ψ a E ρ λx _ h=>mz x λc=>if c=kf then oB Ψ b E h K else K (.d (.bool kd)) kd h:=rfl
theorem Rh:IQ Ψ (.and a b) E ρ L=IQ Ψ a E ρ λc h=>if c=kf then IQ Ψ b E h L else L kd h:=rfl
theorem Yu:IQ Ψ (.or a b) E ρ L=IQ Ψ a E ρ λc h=>if c=kf then L kf h else IQ Ψ b E h L:=rfl
theorem Gi:oB Ψ (.not a) E ρ K=oB Ψ a E ρ λx _ h=>Sb x λc=>K (.d (.bool (!c))) kd h:=rfl
theorem yA(h:Ψ.sp f=p)(F:p.md=md)(C:(md.all λm=>!m.isMut)=kf):oB Ψ (.call f Y) E ρ K=uN Ψ Y E md ρ λxs y=>DA md xs λts=>DM p ts (λr l=>l=[]/\K r kf y) E:=by
 have A:∀(md:List Md) (Y:PX),(md.all λm=>!m.isMut)=kf->bA md Y=[]:=by
  intro md;induction md with
  |nil=>intro Y _;cases Y<;>rfl|cons m md B =>
   intro Y h;rw[qp,Qb]at h;cases m with
   |chg=>cases h.1|_=>cases Y with|acons a Y=>exact B Y h.2|_=>rfl
 show(∃l,HA (bA (Ψ.sp f).md Y) ρ=jr l/\(bA (Ψ.sp f).md Y).Nodup/\(pe Ψ Y E).a (Ψ.sp f).md (clear (bA (Ψ.sp f).md Y) ρ) λxs y=>∃ts,sA (Ψ.sp f).md xs l=jr ts/\(Ψ.sp f).run ts (λr q=>∃z,yC (bA (Ψ.sp f).md Y) q y=jr z/\K r kf z) E)=_;rw[h,F,A md Y C];have W:∀(r:T) (l:LT) (y:xA),(∃z,yC [] l y=jr z/\K r kf z)=(l=[]/\K r kf y):=by
  intro r l y;cases l with|nil=>exact ir #[λ#[_,e,k]=>by cases e;exact#[rfl,k],λk=>#[_,rfl,k.2]]|cons _ _=>exact ir #[λ#[_,e,k]=>(by cases e),λk=>(by cases k.1)]
 have:=λ(y:xA)=>funext λr=>funext λl=>W r l y;simp only[this];exact ir #[λ#[_,e,_,k]=>by cases e;exact k,λk=>#[_,rfl,Qq,k]]
theorem Ha:IQ Ψ (.call f Y) E ρ L=oB Ψ (.call f Y) E ρ λt _ h=>Sb t λb=>L b h:=rfl
theorem vv{f:Bi}:oB Ψ (.bi f Y) E ρ K=uN Ψ Y E [] ρ λxs h=>uM f xs λz k=>K z k h:=rfl
theorem Fi:oB Ψ (.mt .pop (.var j) Y) E ρ K=AC ρ[j]? λt=>xJ .pop t=kf/\uN Ψ Y E [] (ρ.set j (jr (.bor t))) λxs h=>UE xs=kf/\h[j]?=jr (jr (.bor t))/\LL .pop t (DF xs) λr s'=>K r kf (h.set j (jr (.own s'))):=rfl
theorem Ea{x:Bool}:oB Ψ (.dnew x) E ρ K=K (.dct x [] []) kf ρ:=rfl
theorem Oi:oB Ψ (.dsp a b) E ρ K=oB Ψ a E ρ λy m z=>oC y m (oB Ψ b E z λx n h=>oC x n (aD kf y.er/\K (.dct kf [y.er] [x]) kf h)):=rfl
theorem cH(h:Ψ.sp f=p)(O:p.md=.chg::md)(N:(md.all λm=>!m.isMut)=kf):oB Ψ (.call f (.acons (.var j) Y)) E ρ K=AC ρ[j]? λt=>uN Ψ Y E md (ρ.set j kv) λxs y=>DA md xs λts=>DM p (t::ts) (λr l=>∃t',l=[t']/\K r kf (y.set j (jr (.own t')))) E:=by
 have I:∀(md:List Md) (Y:PX),(md.all λm=>!m.isMut)=kf->bA md Y=[]:=by
  intro md;induction md with
  |nil=>intro Y _;cases Y<;>rfl|cons m md J =>
   intro Y h;rw[qp,Qb]at h;cases m with
   |chg=>cases h.1|_=>cases Y with|acons a Y=>exact J Y h.2|_=>rfl
 show(∃l,HA (bA (Ψ.sp f).md (.acons (.var j) Y)) ρ=jr l/\(bA (Ψ.sp f).md (.acons (.var j) Y)).Nodup/\(pe Ψ (.acons (.var j) Y) E).a (Ψ.sp f).md (clear (bA (Ψ.sp f).md (.acons (.var j) Y)) ρ) λxs y=>∃ts,sA (Ψ.sp f).md xs l=jr ts/\(Ψ.sp f).run ts (λr q=>∃W,yC (bA (Ψ.sp f).md (.acons (.var j) Y)) q y=jr W/\K r kf W) E)=_;rw[h,O];have P:bA (.chg::md) (.acons (.var j) Y)=[j]:=by show j::bA md Y=[j];rw[I md Y N]
 rw[P];have A:∀(r:T) (l:LT) (y:xA),(∃W,yC [j] l y=jr W/\K r kf W)=(∃t',l=[t']/\K r kf (y.set j (jr (.own t')))):=by
  intro r l y
  match l with
  |[]=>exact ir #[λ#[_,e,k]=>(by cases e),λ#[_,e,k]=>(by cases e)]|[t]=>exact ir #[λ#[_,e,k]=>by cases e;exact#[t,rfl,k],λ#[_,e,k]=>by cases e;exact#[_,rfl,k]]|_::_::_=>exact ir #[λ#[_,e,k]=>(by cases e),λ#[_,e,k]=>(by cases e)]
 have B:=λ(y:xA)=>funext λr=>funext λl=>A r l y;simp only[B];have C:∀(t:T) (xs:List (T×Bool)) (G:LT->Prop),(∃ts,sA (.chg::md) ((.d .none,kf)::xs) [t]=jr ts/\G ts)=DA md xs λts=>G (t::ts):=by
  intro t xs G;show(∃ts,(sA md xs []).map (t::·)=jr ts/\G ts)=AE (sA md xs []) λts=>G (t::ts);cases sA md xs []with|none=>exact ir #[λ#[_,e,_]=>(by cases e),λ#[_,e,_]=>(by cases e)]|some ts=>exact ir #[λ#[_,e,k]=>by cases e;exact#[_,rfl,k],λ#[_,e,k]=>by cases e;exact#[_,rfl,k]]
 have F:∀t,ρ[j]?=jr (jr (.own t))->HA [j] ρ=jr [t]:=λt e=>by unfold HA;rw[e];rfl
 have Q:∀(l:LT),((pe Ψ (.acons (.var j) Y) E).a (.chg::md) (clear [j] ρ) λxs y=>∃ts,sA (.chg::md) xs l=jr ts/\p.run ts (λr q=>∃t',q=[t']/\K r kf (y.set j (jr (.own t')))) E)=(uN Ψ Y E md (ρ.set j kv) λxs y=>∃ts,sA (.chg::md) ((.d .none,kf)::xs) l=jr ts/\p.run ts (λr q=>∃t',q=[t']/\K r kf (y.set j (jr (.own t')))) E):=λl=>ir #[λh=>h.2,λh=>#[rfl,h]];simp only[Q]
 match e:ρ[j]? with
 |some (jr (.own t))=>show _=(uN Ψ Y E md (ρ.set j kv) λxs y=>DA md xs λts=>DM p (t::ts) (λr l=>∃t',l=[t']/\K r kf (y.set j (jr (.own t')))) E);rw[F t e];have:=λxs (y:xA)=>C t xs λts=>p.run ts (λr q=>∃t',q=[t']/\K r kf (y.set j (jr (.own t')))) E;refine ir #[λ#[_,e,_,k]=>?_,λk=>#[_,rfl,by simp,?_]];cases e;simp only[this]at k;exact k;simp only[this];exact k|some (jr (.bor t))=>exact ir #[λ#[_,z,_]=>(by unfold HA at z;rw[e]at z;cases z),λk=>k.elim]|some kv=>exact ir #[λ#[_,z,_]=>(by unfold HA at z;rw[e]at z;cases z),λk=>k.elim]|none=>exact ir #[λ#[_,z,_]=>(by unfold HA at z;rw[e]at z;cases z),λk=>k.elim]
theorem BV:oB Ψ (.mt .extend (.var j) Y) E ρ K=AC ρ[j]? λt=>xJ .extend t=kf/\uN Ψ Y E [] (ρ.set j (jr (.bor t))) λxs h=>UE xs=kf/\h[j]?=jr (jr (.bor t))/\LL .extend t (DF xs) λr s'=>K r kf (h.set j (jr (.own s'))):=rfl
theorem CV:oB Ψ (.mt .append (.var j) Y) E ρ K=AC ρ[j]? λt=>xJ .append t=kf/\uN Ψ Y E [] (ρ.set j (jr (.bor t))) λxs h=>UE xs=kf/\h[j]?=jr (jr (.bor t))/\LL .append t (DF xs) λr s'=>K r kf (h.set j (jr (.own s'))):=rfl
theorem Ni:oB Ψ (.idx a b) E ρ K=oB Ψ a E ρ λx n k=>ub x n Ψ b E k λy m h=>XA x n y m λz=>K z kd h:=rfl
theorem UV{i:Int}:oB Ψ (.slc a (.int i) .nop) E ρ K=oB Ψ a E ρ λx n h=>CL x n (jr i) kv λz k=>K z k h:=by
 show(pe Ψ a E).e ρ (λx n h=>sq (nA x n) h (λρ (R:Option Int->xA->Prop)=>R (jr i) ρ) λl q=>sq (nA x n) q (λρ (R:Option Int->xA->Prop)=>R kv ρ) λu y=>kK (nA x n).vw l u λz k=>K z k y)=_;have:∀x n h,(sq (nA x n) h (λρ (R:Option Int->xA->Prop)=>R (jr i) ρ) λl q=>sq (nA x n) q (λρ (R:Option Int->xA->Prop)=>R kv ρ) λu y=>kK (nA x n).vw l u λz k=>K z k y)=kK (nA x n).vw (jr i) kv λz k=>K z k h:=by intro x n h;unfold sq;split<;>rfl
 simp only[this];rfl
theorem Li:oB Ψ (.lst Y) E ρ K=uN Ψ Y E [] ρ λxs y=>xs.9<=kn/\JN xs λts=>K (.lst ts) kf y:=by have:∀(xs:List (T×Bool)) y,(xs.9<=kn/\JN xs λts=>K (.lst ts) kf y)=(UE xs=kf/\xs.9<=kn/\K (.lst (DF xs)) kf y):=λxs y=>ir #[λh=>#[h.2.1,h.1,h.2.2],λh=>#[h.2.1,h.1,h.2.2]];simp only[this];rfl
theorem Ci:oB Ψ (.tup Y) E ρ K=uN Ψ Y E [] ρ λxs y=>xs.9<=kn/\JN xs λts=>K (pD ts) kf y:=by have:∀(xs:List (T×Bool)) y,(xs.9<=kn/\JN xs λts=>K (pD ts) kf y)=(UE xs=kf/\xs.9<=kn/\K (pD (DF xs)) kf y):=λxs y=>ir #[λh=>#[h.2.1,h.1,h.2.2],λh=>#[h.2.1,h.1,h.2.2]];simp only[this];rfl
theorem Ia:oB Ψ (.comp v g o X its V U) E ρ K=uN Ψ its E [] ρ λxs y=>mL X xs λh =>
   RC (gG Ψ (λ_=>False) v g o V U y) h [] λz=>K (.lst z) kf y:=rfl
theorem Xh:gG Ψ E [] [t] (.nm 0) .nop U ρ x R=oB Ψ U E (jr (.bor x)::lockA ρ) λy n _=>oC y n (R (jr y)):=rfl
theorem Ga{x y:D}:gG Ψ E [] [t,u] (.tp [0,1]) .nop U ρ (.d (.tuple [x,y])) R=oB Ψ U E (bD x::bD y::lockA ρ) λy n _=>oC y n (R (jr y)):=zB
theorem au{b:Bool}:gG Ψ E (b::m) [t] (.nm 0) .nop U ρ x R=oB Ψ U E (jr (.bor x)::bC (b::m) (lockA ρ)) λy n _=>oC y n (R (jr y)):=rfl
theorem tu{b:Bool}{x y:D}:gG Ψ E (b::m) [t,u] (.tp [0,1]) .nop U ρ (.d (.tuple [x,y])) R=oB Ψ U E (bD x::bD y::bC (b::m) (lockA ρ)) λy n _=>oC y n (R (jr y)):=zB
theorem Uh:gG Ψ E [] [t] (.nm 0) (.cmp w a b) U ρ x R=IQ Ψ (.cmp w a b) E (jr (.bor x)::lockA ρ) λk h=>if k=kf then oB Ψ U E h λy n _=>oC y n (R (jr y)) else R none:=rfl
theorem Si:uN Ψ .anil E md ρ M=M [] ρ:=rfl
theorem vb:uN Ψ (.acons a Y) E [] ρ M=oB Ψ a E ρ λx n y=>cb x n Ψ Y E [] y λxs h=>M ((x,n)::xs) h:=rfl
theorem GV:uN Ψ (.acons a Y) E (.shal::md) ρ M=oB Ψ a E ρ λx n y=>cb x n Ψ Y E md y λxs h=>M ((x,n)::xs) h:=rfl
theorem HV:uN Ψ (.acons a Y) E (.bor::md) ρ M=oB Ψ a E ρ λx n y=>cb x n Ψ Y E md y λxs h=>M ((x,n)::xs) h:=rfl
theorem vi:FD Ψ E Z (.var i) ρ=O6 i ρ ρ i Z:=rfl
theorem Zu:FD Ψ E Z (.ife c a b) ρ=IQ Ψ c E ρ λk h=>if k=kf then FD Ψ E Z a h else FD Ψ E Z b h:=rfl
theorem Ku{x:Bool}:FD Ψ E Z (.bl x) ρ=Z (.d (.bool x)) ρ:=ir #[λh=>h.2,λh=>#[rfl,h]]
theorem fi{x:Int}:FD Ψ E Z (.int x) ρ=Z (.d (.int x)) ρ:=ir #[λh=>h.2,λh=>#[rfl,h]]
theorem Oa:FD Ψ E Z (.call f Y) ρ=oB Ψ (.call f Y) E ρ λx n h=>oC x n (Z x h):=rfl
theorem Pa{w:hZ}:FD Ψ E Z (.bin w a b) ρ=oB Ψ (.bin w a b) E ρ λx n h=>oC x n (Z x h):=rfl
theorem Ji:FD Ψ E Z (.and a b) ρ=oB Ψ (.and a b) E ρ λx n h=>oC x n (Z x h):=rfl
theorem Vu{f:Bi}:FD Ψ E Z (.bi f Y) ρ=oB Ψ (.bi f Y) E ρ λx n h=>oC x n (Z x h):=rfl
theorem si:FD Ψ E Z (.idx a b) ρ=oB Ψ (.idx a b) E ρ λx n h=>oC x n (Z x h):=rfl
theorem xi:FD Ψ E Z (.tup Y) ρ=oB Ψ (.tup Y) E ρ λx n h=>oC x n (Z x h):=rfl
theorem ui:FD Ψ E Z (.lst Y) ρ=oB Ψ (.lst Y) E ρ λx n h=>oC x n (Z x h):=rfl
theorem Na:FD Ψ E Z (.comp v g o X its V U) ρ=oB Ψ (.comp v g o X its V U) E ρ λx n h=>oC x n (Z x h):=rfl
theorem jAI:TH (i+1) (s::σ) ρ K=TH i σ ρ K:=rfl
theorem jAM{t:T}:TH 0 (jr (.bor t)::σ) ρ K=K t kd ρ:=rfl
theorem jAJ{t:T}:TH 0 (jr (.own t)::σ) ρ K=K t kd ρ:=rfl
theorem jAL:TH i (lockA σ) ρ K=TH i σ ρ K:=by
 unfold TH lockA;rw[Qa];cases σ[i]? with
 |none=>rfl|some s=>cases s with|none=>rfl|some s=>cases s<;>rfl
theorem jAK{b:Bool}:TH (i+1) (bC (b::m) (lockA (s::σ))) ρ K=TH i (bC m (lockA σ)) ρ K:=rfl
theorem Su:TH 0 (bC (false::m) (lockA (s::σ))) ρ K=TH 0 (lockA (s::σ)) ρ K:=rfl
theorem Ru:TH i (bC [] (lockA σ)) ρ K=TH i (lockA σ) ρ K:=rfl
theorem jAF:O6 (i+1) (s::σ) ρ j Z=O6 i σ ρ j Z:=rfl
theorem jAH{x:D}:O6 0 (bD x::σ) ρ j Z=Z (.d x) ρ:=ir #[λh=>h.2,λh=>#[rfl,h]]
theorem jAG{t:T}:O6 0 (jr (.own t)::σ) ρ j Z=Z t (ρ.set j kv):=rfl
theorem tz{x:D}:ub (.d x) n Ψ b E ρ K=oB Ψ b E ρ K:=by cases n<;>rfl
theorem oz:ub x kf Ψ b E ρ K=oB Ψ b E ρ K:=rfl
theorem pz:ub (.lst ts) kd Ψ b E ρ K=oB Ψ b E (lockA ρ) λy m _=>K y m ρ:=rfl
theorem Az{x:D}:cb (.d x) n Ψ b E md ρ M=uN Ψ b E md ρ M:=by cases n<;>rfl
theorem Rz:cb x kf Ψ b E md ρ M=uN Ψ b E md ρ M:=rfl
theorem Tz:cb (.lst ts) kd Ψ b E md ρ M=uN Ψ b E md (lockA ρ) λxs _=>M xs ρ:=rfl
end
end
section
variable{Ψ:PEv}{E:XE}{ρ σ:xA}{Z:PEnds}{s r q:PT}{i:Nat}{e c its:PX}{o:Option Sl}{n:Bool}{v:D}{P:Prop}{ds:List D}{x:T}
section
variable{j:Nat}{A B:Prop}
theorem jA:iB Ψ E .nil Z ρ=Z.nx ρ:=rfl
theorem Ah:iB Ψ E (.seq (.set i e) r) Z (o::σ)=oB Ψ e E (o::σ) λx n h=>UI Ψ E r Z i x n h:=rfl
theorem ji:iB Ψ E (.seq (.own i e) r) Z (o::σ)=oB Ψ e E (o::σ) λx n h=>Iq Ψ E r Z i x n h:=rfl
theorem Ma:iB Ψ E (.seq (.expr e) r) Z (o::σ)=oB Ψ e E (o::σ) λ_ _ h=>iB Ψ E r Z h:=rfl
theorem Ih:iB Ψ E (.seq (.ret e) r) Z (o::σ)=FD Ψ E Z.rt e (o::σ):=rfl
theorem yi:iB Ψ E (.seq (.ife c s .nil) r) Z (o::σ)=IQ Ψ c E (o::σ) λk h=>if k=kf then iB Ψ E s { Z with nx:=λy=>iB Ψ E r Z y } h else iB Ψ E r Z h:=rfl
theorem ki{u:Tg}{k:ItK}:iB Ψ E (.seq (.for_ u k its q) r) Z (o::σ)=uN Ψ its E [] (o::σ) λxs h=>mL k xs λy =>
   if YS xs=kf then EH (iB Ψ E q) u { Z with nx:=λz=>iB Ψ E r Z (kill u.ix z) } y h
   else EH (iB Ψ E q) u { Z with nx:=λz=>jW u.ix (xC h (GF its)) h (λw=>iB Ψ E r Z w) (kill u.ix z) } y (lock (xC h (GF its)) h):=rfl
theorem Th{a:PX}:iB Ψ E (.seq (.six (.var j) a e) r) Z (o::σ)=AC (o::σ)[j]? λt=>oB Ψ e E ((o::σ).set j (jr (.bor t))) λx n z=>oC x n (oB Ψ a E z λy m h=>oC y m (h[j]?=jr (jr (.bor t))/\dg t y x λt'=>iB Ψ E r Z (h.set j (jr (.own t'))))):=rfl
theorem La{a k:PX}:iB Ψ E (.seq (.six (.idx (.var j) k) a e) r) Z (o::σ)=AC (o::σ)[j]? λt=>oB Ψ e E ((o::σ).set j (jr (.bor t))) λx n w=>oC x n (oB Ψ k E w λz l u=>oC z l (fq z t λs put=>oB Ψ a E u λy m h=>oC y m (h[j]?=jr (jr (.bor t))/\dg s y x λs'=>iB Ψ E r Z (h.set j (jr (.own (put s'))))))):=rfl
theorem Eh{k:PX}:iB Ψ E (.seq (.sdf j k) r) Z (o::σ)=AC (o::σ)[j]? λt=>yf t=kf/\oB Ψ k E ((o::σ).set j (jr (.bor t))) λy m h=>oC y m (h[j]?=jr (jr (.bor t))/\Yq y t λt'=>iB Ψ E r Z (h.set j (jr (.own t')))):=rfl
theorem zi{h:LN}:iB Ψ E (.seq (.frz h s) r) Z (o::σ)=iB Ψ E (.seq s r) Z (frzAt h (o::σ)):=rfl
theorem Sh:iB Ψ E (.seq (.whl c q) r) Z (o::σ)=Cp Ψ E c q { Z with nx:=λh=>iB Ψ E r Z h } (o::σ):=rfl
theorem Pz:UI Ψ E r Z i (.d v) n ρ=iB Ψ E r Z (ρ.set i (bD v)):=ir #[λh=>h.2,λh=>#[by cases n<;>rfl,h]]
theorem Nu:UI Ψ E r Z i (.lst (ds.map T.d)) kf ρ=iB Ψ E r Z (ρ.set i (bD (.list ds))):=by unfold UI T.er;rw[vB];exact ir #[λh=>h.2,λh=>#[rfl,h]]
theorem Xz:Iq Ψ E r Z i x kf ρ=iB Ψ E r Z (ρ.set i (jr (.own x))):=ir #[λh=>h.2,λh=>#[rfl,h]]
theorem jAO:oC (.d v) n P=P:=ir #[λh=>h.2,λh=>#[by cases n<;>rfl,h]]
theorem jAN:oC x kf P=P:=ir #[λh=>h.2,λh=>#[rfl,h]]
theorem gZ:(([]:LT)=[]/\P)=P:=ir #[λh=>h.2,λh=>#[rfl,h]]
theorem Rs:(if(true:Bool)=kf then A else B)=A:=rfl
theorem Ss:(if(false:Bool)=kf then A else B)=B:=rfl
theorem Nz{v h:Option Sl}:iB Ψ E r Z (Wf (h::σ) 0 v)=iB Ψ E r Z (v::σ):=rfl
theorem Mz{v h y:Option Sl}:iB Ψ E r Z (Wf (h::y::σ) 1 v)=iB Ψ E r Z (h::v::σ):=rfl
theorem Lz{v y h z:Option Sl}:iB Ψ E r Z (Wf (y::h::z::σ) 2 v)=iB Ψ E r Z (y::h::v::σ):=rfl
theorem Hz{v z y h u:Option Sl}:iB Ψ E r Z (Wf (z::y::h::u::σ) 3 v)=iB Ψ E r Z (z::y::h::v::σ):=rfl
theorem Gz{v u z y h w:Option Sl}:iB Ψ E r Z (Wf (u::z::y::h::w::σ) 4 v)=iB Ψ E r Z (u::z::y::h::v::σ):=rfl
theorem Fz{v w u z y h k:Option Sl}:iB Ψ E r Z (Wf (w::u::z::y::h::k::σ) 5 v)=iB Ψ E r Z (w::u::z::y::h::v::σ):=rfl
theorem Dz{v k w u z y h a:Option Sl}:iB Ψ E r Z (Wf (k::w::u::z::y::h::a::σ) 6 v)=iB Ψ E r Z (k::w::u::z::y::h::v::σ):=rfl
theorem Cz{v a k w u z y h b:Option Sl}:iB Ψ E r Z (Wf (a::k::w::u::z::y::h::b::σ) 7 v)=iB Ψ E r Z (a::k::w::u::z::y::h::v::σ):=rfl
theorem Bz{v b a k w u z y h f:Option Sl}:iB Ψ E r Z (Wf (b::a::k::w::u::z::y::h::f::σ) 8 v)=iB Ψ E r Z (b::a::k::w::u::z::y::h::v::σ):=rfl
theorem Uz{v f b a k w u z y h g:Option Sl}:iB Ψ E r Z (Wf (f::b::a::k::w::u::z::y::h::g::σ) 9 v)=iB Ψ E r Z (f::b::a::k::w::u::z::y::h::v::σ):=rfl
theorem Hu{v l g f b a k w u z y h:Option Sl}:iB Ψ E r Z (Wf (l::g::f::b::a::k::w::u::z::y::h::σ) 10 v)=iB Ψ E r Z (l::g::f::b::a::k::w::u::z::y::v::σ):=rfl
theorem Gu{v m l g f b a k w u z h y:Option Sl}:iB Ψ E r Z (Wf (m::l::g::f::b::a::k::w::u::z::h::y::σ) 11 v)=iB Ψ E r Z (m::l::g::f::b::a::k::w::u::z::h::v::σ):=rfl
end
end
section
variable{d:D}{n m:Bool}{i j:Int}{z y:Str}{b:Bool}{xs:List (T×Bool)}{ts:LT}{ds es:List D}{md:List Md}{t:T}{C:LT->Prop}{Q:T->Bool->Prop}{L:Bool->Prop}{R:T->Prop}{W:LT->Prop}
section
variable{ρ:xA}{P:xA->Prop}{e k:D}{v:dy}{ks:List D}{kvs:List (D×D)}{l u:Option Int}
theorem iw{i:Int}{x:D}{Q:T->Prop}(a:0<=i)(w:i<ds.9)(q:Q (.lst ((ds.set i.toNat x).map T.d))):dg (.lst (ds.map T.d)) (.d (.int i)) (.d x) Q:=by
 have h:i.toNat<ds.length:=()
 refine#[i.toNat,?_,by rw[<- List.map_set];exact q];unfold HS;rw[QC];rw[a9 a,a9 w]
theorem Nh{J:LN}{x:xA}{N:xA->Prop}:jW J [] x N ρ=N ρ:=ir #[λh=>h.2,λh=>#[λ_ z=>(nomatch z),h]]
theorem gA{α:Type}(f:α->D)(l:List α):l.map (λc=>T.d (f c))=(l.map f).map T.d:=by rw[QW];rfl
theorem rD:(nA (.lst (ds.map T.d)) n).vw=.ls (ds.map T.d):=by cases n;rfl;show Vw.ls ((ersT (ds.map T.d)).map T.d)=_;rw[vB]
theorem Yi:DA md [] C=C []:=zB
theorem Jz:DA [] ((.d d,n)::xs) C=DA [] xs λts=>C (.d d::ts):=by
 have e:sA [] ((.d d,n)::xs) []=(sA [] xs []).map (.d d::·):=by cases n<;>rfl
 unfold DA;rw[e,GC]
theorem iz:DA [] ((.lst (ds.map T.d),kf)::xs) C=DA [] xs λts=>C (.d (.list ds)::ts):=by have e:sA [] ((.lst (ds.map T.d),kf)::xs) []=(sA [] xs []).map (.d (.list (ersT (ds.map T.d)))::·):=rfl;unfold DA;rw[e,GC,vB]
theorem Yz:DA (.bor::md) ((t,kd)::xs) C=DA md xs λts=>C (t::ts):=by have e:sA (.bor::md) ((t,kd)::xs) []=(sA md xs []).map (t::·):=rfl;unfold DA;rw[e,GC]
theorem V6:rE (.lst (ds.map T.d))=jr (.lst (ds.map T.d)):=by simp only[rE,T.vw,KA,Q1]
theorem az{u:T}(h:rE (nA t n)=jr u):DA (.shal::md) ((t,n)::xs) C=DA md xs λts=>C (u::ts):=by
 have e:sA (.shal::md) ((t,n)::xs) []=(sA md xs []).map (u::·):=by show(match rE (nA t n) with|some t=>(sA md xs []).map (t::·)|none=>kv)=_;rw[h]
 unfold DA;rw[e,GC]
theorem Xu:DA (.shal::md) ((.lst (ds.map T.d),n)::xs) C=DA md xs λts=>C (.lst (ds.map T.d)::ts):=az (by cases n;exact V6;show rE (.d (.list (ersT (ds.map T.d))))=_;rw[vB];simp only[rE,T.vw,KA,Q1])
theorem Ki:JN [] C=C []:=ir #[λh=>h.2,λh=>#[rfl,h]]
theorem Dy:JN ((.lst (ds.map T.d),kf)::xs) C=JN xs λts=>C (.lst (ds.map T.d)::ts):=by show((KH (.lst (ds.map T.d)) kf&&UE xs)=kf/\C (.lst (ds.map T.d)::DF xs))=(UE xs=kf/\C (.lst (ds.map T.d)::DF xs));rw[show KH (.lst (ds.map T.d)) kf=kf from rfl,WU]
theorem Oz:JN ((.d d,n)::xs) C=JN xs λts=>C (.d d::ts):=by show((KH (.d d) n&&UE xs)=kf/\C (.d d::DF xs))=(UE xs=kf/\C (.d d::DF xs));rw[show KH (.d d) n=kf by cases n<;>rfl,WU]
theorem Z0{i j:Nat}{x y:D}:TZ (.tp [i,j]) (.d (.tuple [x,y])) ρ P=P ((ρ.set i (bD x)).set j (bD y)):=zB
theorem bv{i:Nat}:TZ (.nm i) t ρ P=P (ρ.set i (jr (.bor t))):=rfl
theorem aa{h:Tg}:MP h t ρ P=TZ h t ρ P:=rfl
theorem Mh:eK .Add (.d (.int i)) n (.d (.int j)) m Q=Q (.d (.int (i+j))) false:=by unfold eK;rw[rA,rA];exact Pn i j
theorem Lh:eK .Add (.d (.str z)) n (.d (.str y)) m Q=(z.9+y.9<=kn/\Q (.d (.str (z++y))) kd):=by unfold eK;rw[rA,rA];exact On z y
theorem Dh:eK .Sub (.d (.int i)) n (.d (.int j)) m Q=Q (.d (.int (i - j))) false:=by unfold eK;rw[rA,rA];exact Nn i j
theorem Fh:eK .Mult (.d (.int i)) n (.d (.int j)) m Q=(l0 i j/\Q (.d (.int (i * j))) kd):=by unfold eK;rw[rA,rA];exact Mn i j
theorem Hh:eK .FloorDiv (.d (.int i)) n (.d (.int j)) m Q=((0<j/\j<2 ^ 200)/\Q (.d (.int (i / j))) kd):=by unfold eK;rw[rA,rA];exact Ln i j
theorem Gh:eK .Mod (.d (.int i)) n (.d (.int j)) m Q=(0<j/\Q (.d (.int (i % j))) kd):=by unfold eK;rw[rA,rA];exact Hn i j
theorem js:pD [.d d,.d e]=.d (.tuple [d,e]):=rfl
theorem Ir{f g:D}:pD [.d d,.d e,.d f,.d g]=.d (.tuple [d,e,f,g]):=rfl
theorem Jh:KB .Eq (.d (.int i)) (.d (.int j)) L=L (decide (i=j)):=rfl
theorem eh:KB .Eq (.d (.str z)) (.d (.str y)) L=L (decide (z=y)):=rfl
theorem nh:KB .NotEq (.d (.str z)) (.d (.str y)) L=L (!decide (z=y)):=rfl
theorem Nt:KB .Lt (.d (.int i)) (.d (.int j)) L=L (decide (i<j)):=rfl
theorem Ot:KB .LtE (.d (.int i)) (.d (.int j)) L=L (decide (i<=j)):=rfl
theorem E9:KB v (.d d) (.lst (ds.map T.d)) L=GX v d (.list ds) L:=by show GX v d (.list (ersT (ds.map T.d))) L=_;rw[vB]
theorem ju:KB .Gt (.d (.int i)) (.d (.int j)) L=L (decide (j<i)):=rfl
theorem lz:KB v t (nA (.d d) m) L=KB v t (.d d) L:=by rw[rA]
theorem zu{u:T}:KB v t (nA u kd) L=KB v t u L:=rfl
theorem da:KB .In (.d (.str z)) (.d (.list ds)) L=(((aB (.str z)=kf/\ds.all aB=kf)∨(HE (.str z)/\HE (.list ds)))/\L (ds.any λy=>Qt y (.str z))):=rfl
theorem ca:KB .NotIn (.d (.str z)) (.d (.list ds)) L=(((aB (.str z)=kf/\ds.all aB=kf)∨(HE (.str z)/\HE (.list ds)))/\L (!(ds.any λy=>Qt y (.str z)))):=rfl
theorem ba:KB .NotIn (.d (.str z)) (.lst (ds.map T.d)) L=(((aB (.str z)=kf/\ds.all aB=kf)∨(HE (.str z)/\HE (.list ds)))/\L (!(ds.any λy=>Qt y (.str z)))):=by exact E9
theorem ga:KB .In (.d d) (.dct b ks ts) L=(aD b d/\L (cA ks d).isSome):=by show(aD b d/\((CmpOp.In=.In/\L (cA ks d).isSome)∨(CmpOp.In=.NotIn/\L (!(cA ks d).isSome))))=_;simp
theorem jO:KB .NotIn (.d d) (.dct b ks ts) L=(aD b d/\L (!(cA ks d).isSome)):=by show(aD b d/\((CmpOp.NotIn=.In/\L (cA ks d).isSome)∨(CmpOp.NotIn=.NotIn/\L (!(cA ks d).isSome))))=_;simp
theorem oh:KB .In (.d (.str z)) (.d (.tuple ds)) L=(((aB (.str z)=kf/\ds.all aB=kf)∨(HE (.str z)/\HE (.list ds)))/\L (ds.any λy=>Qt y (.str z))):=rfl
theorem ph:KB .In (.d (.str z)) (.lst (ds.map T.d)) L=(((aB (.str z)=kf/\ds.all aB=kf)∨(HE (.str z)/\HE (.list ds)))/\L (ds.any λy=>Qt y (.str z))):=by exact E9
theorem Iy:Sb (.d (.bool b)) L=L b:=rfl
theorem nz:mz (.d (.bool b)) L=L b:=rfl
theorem Rg:uM .min [(.d (.int i),n),(.d (.int j),m)] Q=Q (.d (.int (if j<i then j else i))) false:=by unfold uM CB CB CB;rw[rA,rA];exact Sn i j
theorem Ur:uM .len [(.d (.list ds),n)] Q=Q (.d (.int ds.9)) false:=by unfold uM CB;rw[rA];refine(Vh _).trans ?_;rw[QC]
theorem Xr:uM .len [(.lst (ds.map T.d),n)] Q=Q (.d (.int ds.9)) false:=by unfold uM CB;rw[rD];refine(Vh _).trans ?_;rw[QC]
theorem Cr:uM .any [(.lst (ds.map T.d),n)] Q=∃bs:List Bool,ds=bs.map PyData.bool/\Q (.d (.bool (bs.any id))) false:=by unfold uM CB;rw[rD];refine(fu _).trans ?_;simp only[KA,Qr]
theorem Sg:uM .list [(.d (.list ds),n)] Q=Q (.lst (ds.map T.d)) true:=by unfold uM CB;rw[rA];refine(du _).trans ?_;rw[KA];exact zB
theorem O9:yS (.ls ts) k R=False:=ir #[λ#[_,_,_,_,_,e,_]=>(by cases e),Qd]
theorem yn:yS (.tp ts) k R=False:=ir #[λ#[_,_,_,_,_,e,_]=>(by cases e),Qd]
theorem zn{x:D}:yS (.sc x) k R=False:=ir #[λ#[_,_,_,_,_,e,_]=>(by cases e),Qd]
theorem Ry:XA (.lst (ds.map T.d)) n (.d (.int i)) m R=AE (uD ds i) λd=>R (.d d):=by unfold XA;rw[rD,rA,O9,or_false];refine(p9 _ _).trans ?_;show AE (uD (ds.map T.d) i) R=_;rw[JF,GC]
theorem Cb:XA (.d (.list ds)) n (.d (.int i)) m R=AE (uD ds i) λd=>R (.d d):=by unfold XA;rw[rA,rA,show(T.d (.list ds)).vw=.ls (ds.map T.d) from rfl,O9,or_false];refine(p9 _ _).trans ?_;show AE (uD (ds.map T.d) i) R=_;rw[JF,GC]
theorem t5:XA (.d (.tuple ds)) n (.d (.int i)) m R=AE (uD ds i) λd=>R (.d d):=by unfold XA;rw[rA,rA,show(T.d (.tuple ds)).vw=.tp (ds.map T.d) from rfl,yn,or_false];refine(Km _ _).trans ?_;show AE (uD (ds.map T.d) i) R=_;rw[JF,GC]
theorem Lv:XA (.d (.str z)) n (.d (.int i)) m R=(z.9<=kn/\AE (uD z.cps.toList i) λc=>R (.d (.str #[(qG [c])]))):=by unfold XA;rw[rA,rA,show(T.d (.str z)).vw=.sc (.str z) from rfl,zn,or_false];exact Vm _ _
theorem Yp{f:D}:XA (.lst [.d d,.d e,.d f]) n t m R=XA (.lst ([d,e,f].map T.d)) n t m R:=rfl
theorem Vp{q:Bool}{l:Nat}(f:OC kvs=jr q)(a:aD q k)(w:cA (kvs.map (·.1)) k=jr l)(h:(kvs.map (·.2))[l]?=jr e)(x:R (.d e)):XA (.d (.dict kvs)) n (.d k) m R:=by
 unfold XA;rw[rA];refine .inr ?_;show yS (zC kvs) k R;unfold zC;rw[f];refine#[q,_,_,l,.d e,rfl,a,w,?_,x];rw[Qa]at h ⊢;cases z:kvs[l]? with|none=>rw[z]at h;cases h|some p=>rw[z]at h;cases h;rfl
theorem zz:CL (.d (.str z)) n l u Q=(z.9<=kn/\Q (.d (.str (w6 z l u))) kd):=by unfold CL;rw[rA];exact Yj z
theorem vz:CL (.d (.list ds)) n l u Q=Q (.lst ((eJ ds l u).map T.d)) true:=by unfold CL;rw[rA];refine(J6 _).trans ?_;rw[KA];exact zB
theorem Kq:CL (.lst (ds.map T.d)) n l u Q=Q (.lst ((eJ ds l u).map T.d)) true:=by unfold CL;rw[rD];refine(J6 _).trans ?_;rw[KA];exact zB
theorem Ay:mL .val [(.d (.list ds),n)] W=W (ds.map T.d):=by unfold mL CB;rw[rA];exact fJ _
theorem Sy:mL .val [(.d (.tuple ds),n)] W=W (ds.map T.d):=by unfold mL CB;rw[rA];exact c9 _
theorem Op:mL .val [(.lst (ds.map T.d),n)] W=W (ds.map T.d):=by unfold mL CB;rw[rD];exact fJ _
theorem Gp:mL .rev [(.lst (ds.map T.d),n)] W=W (ds.reverse.map T.d):=by unfold mL CB;rw[rD,W4];exact ir #[λ#[_,e,h]=>by cases e;exact h,λh=>#[_,rfl,h]]
theorem Lp:mL .rng1 [(.d (.int j),n)] W=((-(2 ^ 62)<=j/\j<2 ^ 62)/\W ((Qo j.toNat).map λ(i:Nat)=>.d (.int (i:Int)))):=by unfold mL CB;rw[rA];exact b9 j
theorem Tp:mL .enum [(.d (.list ds),n)] W=W (ds.zipIdx.map λp=>.d (.tuple [.int (p.2:Int),p.1])):=by unfold mL CB;rw[rA];refine(XU _).trans ?_;exact ir #[λ#[_,_,x,h,k]=>by cases x;rw[KA]at h;cases h;exact k,λk=>#[_,_,rfl,KA _,k]]
theorem Rf:mL .enum [(.lst (ds.map T.d),n)] W=W (ds.zipIdx.map λp=>.d (.tuple [.int (p.2:Int),p.1])):=by unfold mL CB;rw[rD];refine(XU _).trans ?_;exact ir #[λ#[_,_,x,h,k]=>by cases x;rw[KA]at h;cases h;exact k,λk=>#[_,_,rfl,KA _,k]]
theorem Pp(h:kvs=[]∨OC kvs=jr kf):mL .itm [(.d (.dict kvs),n)] W=W (kvs.map λp=>.d (.tuple [p.1,p.2])):=by
 unfold mL CB;rw[rA];show NB .itm [zC kvs] W=_;rcases h with rfl|h;exact u9;unfold zC;rw[h];refine(VU _ _).trans ?_;have e:(kvs.map λp=>T.d p.2)=(kvs.map (·.2)).map T.d:=by rw[QW];rfl
 have x:((kvs.map (·.1)).zip (kvs.map (·.2))).map (λp=>T.d (.tuple [p.1,p.2]))=kvs.map λp=>T.d (.tuple [p.1,p.2]):=by rw[List.zip_map',QW];rfl
 refine ir #[λ#[ds,w,k]=>?_,λk=>#[kvs.map (·.2),by rw[e,KA],?_]];rw[e,KA]at w;cases w;rw[x]at k;exact k;rw[x];exact k
noncomputable def eZ(Q:T->LT->Prop):PEnds:={ nx:=λ_=>Q (.d .none) [],rt:=λt _=>Q t [] }
theorem lh{Q:T->LT->Prop}{t:T}:(eZ Q).rt t ρ=Q t []:=rfl
theorem kA{Ψ:PEv}{b:PT}{p:PSp}{N x:LS}{ds:LT}{Q:T->LT->Prop}(ρ:xA)(h:pF Ψ b (eZ Q) ρ)(hl:ds.9=x.length:=by rfl)(hc:XB 0 p.md x.9=[]:=by rfl)(w:mB N p.md ds=ρ:=by rfl):ds.9=x.9/\pF Ψ b (PC p x.9 Q) (mB N p.md ds):=by
 have e:PC p x.9 Q=eZ Q:=by unfold PC;rw[hc];rfl
 rw[e,w];exact#[hl,h]
end
end
end L2.L3
namespace L2.L3.K48
open PySem PySem.Spec PyProof.Rows L2 L2.L3
section
variable{p q:Pt}{r:Rm}{Q:T->Prop}{l:Inn}{v:Int}{a b n g:Str}{w:Wy}{e:Str×Str}
def top(i:Nat):Stmt:=Q0.main.body.getD i (.Pass #[0,0,0,0])
noncomputable def BG:LS:=["edges","starts","goal","rooms","came_from","firsts","chains"]
def XF:LS:=["edges","starts","goal"]
noncomputable def aN:Need:=#[["rooms_of","points_reached","lay_chain","chain_from","full_names"],["BEGIN"],["sorted"]]
noncomputable def JC:PT :=
  %[.expr (.call "lay_chain" %[.var 3,.var 4,.tup %[.var 2,.str "to"|1]|1]),.set 4 (.call "points_reached" %[.var 3|1])|2]
def ZG:PT :=
  %[.own 3 (.call "rooms_of" %[.var 0,.var 1,.var 2|1]),.set 4 (.call "points_reached" %[.var 3|1]),.whl (.cmp .In (.tup %[.var 2,.str "to"|1]) (.var 4)) JC,.set 5 (.comp [] ["point"] (.nm 0) .val %[.idx (.var 3) (.glo "BEGIN")|1] (.cmp .Gt (.idx (.idx (.var 4) (.var 0)) (.glo "BEGIN")) (.int 0)) (.idx (.var 0) (.int 0))),.set 6 (.comp [] ["first"] (.nm 0) .val %[.var 5|1] .nop (.call "chain_from" %[.var 4,.var 0,.var 3|1])),.ret (.tup %[.bi .sorted %[.var 6|1],.call "full_names" %[.var 4|1]|1])|2]
theorem PL:GA aN ZG BG XF (top 3)=true:=by kernel_rfl
noncomputable def gO:LS:=["edges","starts","goal","rooms","name","first","second"]
def yL:LS:=["edges","starts","goal"]
def TW:Need:=#[["add_name","add_way"],["BEGIN","WIDE"],[]]
noncomputable def lF:PT :=
  %[.ife (.cmp .NotEq (.var 4) (.var 2)) %[.expr (.call "add_name" %[.var 3,.var 4|1]),.expr (.call "add_way" %[.var 3,.glo "BEGIN",.tup %[.var 4,.str "to"|1],.glo "WIDE"|1])|2] .nil|2]
noncomputable def gF:PT :=
  %[.ife (.and (.cmp .NotEq (.var 5) (.var 2)) (.cmp .NotEq (.var 5) (.var 6))) %[.expr (.call "add_name" %[.var 3,.var 5|1]),.expr (.call "add_name" %[.var 3,.var 6|1]),.expr (.call "add_way" %[.var 3,.tup %[.var 5,.str "from"|1],.tup %[.var 6,.str "to"|1],.glo "WIDE"|1])|2] .nil|2]
def kO:PT :=
  %[.own 3 (.dsp (.glo "BEGIN") (.dnew kf)),.for_ (.nm 4) .val %[.var 1|1] lF,.for_ (.tp [5,6]) .val %[.var 0|1] gF,.ret (.var 3)|2]
theorem uV:GA TW kO gO yL (top 4)=true:=by kernel_rfl
def sO:LS:=["rooms","name"]
def cL:LS:=["rooms","name"]
def kX:Need:=#[["add_way"],[],[]]
noncomputable def bI:PT :=
  %[.expr (.call "add_way" %[.var 0,.tup %[.var 1,.str "to"|1],.tup %[.var 1,.str "from"|1],.int 1|1])|2]
theorem nV:GA kX bI sO cL (top 5)=true:=by kernel_rfl
def nQ:LS:=["rooms","here","there","room"]
def vN:LS:=["rooms","here","there","room"]
def E2:Need:=#[[],[],[]]
noncomputable def jQ:PT :=
  %[.sdf 0 (.var 1),.sdf 0 (.var 2),.six (.idx (.var 0) (.var 1)) (.var 2) (.var 3),.six (.idx (.var 0) (.var 2)) (.var 1) (.int 0)|2]
theorem yY:GA E2 jQ nQ vN (top 6)=true:=by kernel_rfl
noncomputable def GE:LS:=["rooms","came_from","waiting","here","there","room"]
def HD:LS:=["rooms"]
def gK:Need:=#[[],["BEGIN"],["len"]]
noncomputable def xB:PT :=
  %[.ife (.and (.cmp .Gt (.var 5) (.int 0)) (.cmp .NotIn (.var 4) (.var 1))) %[.six (.var 1) (.var 4) (.var 3),.expr (.mt .append (.var 2) %[.var 4|1])|2] .nil|2]
def JD:PT :=
  %[.set 3 (.mt .pop (.var 2) %[.int 0|1]),.for_ (.tp [4,5]) .itm %[.idx (.var 0) (.var 3)|1] xB|2]
def FE:PT :=
  %[.own 1 (.dsp (.glo "BEGIN") .non),.own 2 (.lst %[.glo "BEGIN"|1]),.whl (.cmp .Gt (.bi .len %[.var 2|1]) (.int 0)) JD,.ret (.var 1)|2]
theorem iJ:GA gK FE GE HD (top 7)=true:=by kernel_rfl
def aL:LS:=["rooms","came_from","last","there","here"]
def NI:LS:=["rooms","came_from","last"]
def yU:Need:=#[[],["BEGIN"],[]]
noncomputable def fE:PT :=
  %[.set 4 (.idx (.var 1) (.var 3)),.six (.idx (.var 0) (.var 4)) (.var 3) (.bin .Sub (.idx (.idx (.var 0) (.var 4)) (.var 3)) (.int 1)),.six (.idx (.var 0) (.var 3)) (.var 4) (.bin .Add (.idx (.idx (.var 0) (.var 3)) (.var 4)) (.int 1)),.set 3 (.var 4)|2]
def nG:PT :=
  %[.set 3 (.var 2),.whl (.cmp .NotEq (.var 3) (.glo "BEGIN")) fE|2]
theorem uS:GA yU nG aL NI (top 8)=true:=by kernel_rfl
def HJ:LS:=["rooms","first","goal","chain","name"]
def ZH:LS:=["rooms","first","goal"]
def KR:Need:=#[["name_behind"],[],[]]
noncomputable def VD:PT :=
  %[.expr (.mt .append (.var 3) %[.var 4|1]),.set 4 (.call "name_behind" %[.var 0,.var 4|1])|2]
def eF:PT :=
  %[.own 3 (.lst .anil),.set 4 (.var 1),.whl (.cmp .NotEq (.var 4) (.var 2)) VD,.ret (.var 3)|2]
theorem AO:GA KR eF HJ ZH (top 9)=true:=by kernel_rfl
def UH:LS:=["rooms","name","here"]
def SF:LS:=["rooms","name"]
def KO:Need:=#[[],[],[]]
noncomputable def dE:PT :=
  %[.set 2 (.tup %[.var 1,.str "from"|1]),.ret (.idx (.comp [] ["there"] (.nm 0) .val %[.idx (.var 0) (.var 2)|1] (.and (.cmp .NotEq (.idx (.var 0) (.int 0)) (.var 2)) (.cmp .Gt (.idx (.idx (.var 1) (.var 0)) (.var 3)) (.int 0))) (.idx (.var 0) (.int 0))) (.int 0))|2]
theorem AN:GA KO dE UH SF (top 10)=true:=by kernel_rfl
def GJ:LS:=["came_from"]
def YH:LS:=["came_from"]
def ZR:Need:=#[[],[],["sorted"]]
noncomputable def aF:PT :=
  %[.ret (.bi .sorted %[.comp [] ["point"] (.nm 0) .val %[.var 0|1] (.and (.cmp .Eq (.idx (.var 0) (.int 1)) (.str "to")) (.cmp .NotIn (.tup %[.idx (.var 0) (.int 0),.str "from"|1]) (.var 1))) (.idx (.var 0) (.int 0))|1])|2]
theorem SO:GA ZR aF GJ YH (top 11)=true:=by kernel_rfl
noncomputable def VL:LS:=["edges","seers","needs","ground","holders","others"]
def jJ:LS:=["edges","seers","needs"]
def cU:Need:=#[["ground_alone","told_through"],[],[]]
noncomputable def JG:PT :=
  %[.set 3 (.call "ground_alone" %[.var 0,.var 1,.var 2|1]),.set 4 (.comp [] ["name","chains"] (.tp [0,1]) .val %[.var 3|1] .nop (.var 0)),.set 5 (.comp [] ["name","number"] (.tp [0,1]) .val %[.var 2|1] (.cmp .NotIn (.var 0) (.var 6)) (.var 0)),.ret (.tup %[.var 3,.comp [] ["name"] (.nm 0) .val %[.var 5|1] .nop (.tup %[.var 0,.idx (.call "told_through" %[.var 1,.var 2,.var 5,.var 0|1]) (.int 1)|1])|1])|2]
theorem oS:GA cU JG VL jJ (top 13)=true:=by kernel_rfl
noncomputable def UG:LS:=["edges","seers","needs","ground","found","grown","name","number","chains"]
def VF:LS:=["edges","seers","needs"]
def tN:Need:=#[["told_through"],[],["len"]]
noncomputable def iC:PT :=
  %[.ife (.cmp .NotIn (.var 6) (.var 4)) %[.set 8 (.idx (.call "told_through" %[.var 0,.var 1,.var 4,.var 6|1]) (.int 0)),.ife (.cmp .GtE (.bi .len %[.var 8|1]) (.var 7)) %[.expr (.mt .append (.var 3) %[.tup %[.var 6,.slc (.var 8) .nop (.var 7)|1]|1]),.expr (.mt .append (.var 4) %[.var 6|1]),.set 5 (.bl kf)|2] .nil|2] .nil|2]
def aC:PT :=
  %[.set 5 (.bl kd),.for_ (.tp [6,7]) .val %[.var 2|1] iC|2]
def YG:PT :=
  %[.own 3 (.comp [kd,kd,kd,kd,kd,kd,kf,kf] ["name","number"] (.tp [0,1]) .val %[.var 2|1] (.cmp .In (.var 0) (.var 3)) (.tup %[.var 0,.lst .anil|1])),.own 4 (.comp [kd,kd,kd,kd,kd,kd,kf,kd,kf] ["name","chains"] (.tp [0,1]) .val %[.var 3|1] .nop (.var 0)),.set 5 (.bl kf),.whl (.var 5) aC,.ret (.var 3)|2]
theorem OL:GA tN YG UG VF (top 14)=true:=by kernel_rfl
def XG:LS:=["edges","seers","people","goal"]
def KF:LS:=["edges","seers","people","goal"]
def sN:Need:=#[["apart_chains"],[],[]]
noncomputable def iD:PT :=
  %[.ret (.call "apart_chains" %[.comp [] ["edge"] (.nm 0) .val %[.var 0|1] (.cmp .In (.idx (.var 0) (.int 0)) (.var 3)) (.var 0),.var 1,.var 3|1])|2]
theorem NL:GA sN iD XG KF (top 15)=true:=by kernel_rfl
noncomputable def Ra:LS:=["world","events","past","taken","wrong","held","known","steps","number","believed","live"]
def SY:LS:=["world"]
noncomputable def Hl:Need:=#[["going_order","is_taken","wrong_among","live_among","held_among"],[],[]]
noncomputable def MK:PT :=
  %[.own 4 (.call "wrong_among" %[.var 0,.var 2|1]),.set 10 (.call "live_among" %[.var 1,.var 3,.var 4|1]),.set 5 (.call "held_among" %[.var 0,.var 2,.var 10,.var 6|1]),.expr (.mt .append (.var 7) %[.tup %[.var 8,.var 9,.var 10,.var 5|1]|1])|2]
def vO:PT :=
  (.seq (.set 9 (.call "is_taken" %[.var 0,.idx (.var 1) (.var 8),.var 4,.var 5|1]))
  (.seq (.expr (.mt .append (.var 2) %[.var 8|1]))
  (.seq (.ife (.and (.var 9) (.cmp .Eq (.idx (.idx (.var 1) (.var 8)) (.int 0)) (.str "tell"))) %[.expr (.mt .append (.var 3) %[.var 8|1])|2] .nil)
  MK)))
def bY:PT :=
  %[.set 1 (.idx (.var 0) (.int 3)),.own 2 (.lst .anil),.own 3 (.lst .anil),.own 4 (.dnew kf),.set 5 (.lst .anil),.own 6 (.dnew kf),.own 7 (.lst .anil),.for_ (.nm 8) .val %[.call "going_order" %[.var 1|1]|1] vO,.ret (.var 7)|2]
theorem mf:GA Hl bY Ra SY (top 18)=true:=by kernel_rfl
def UJ:LS:=["world","time","events"]
def sH:LS:=["world","time"]
def aR:Need:=#[[],[],["list"]]
noncomputable def bF:PT :=
  %[.set 2 (.comp [] ["event"] (.nm 0) .val %[.idx (.var 0) (.int 3)|1] (.cmp .LtE (.idx (.var 0) (.int 1)) (.var 2)) (.var 0)),.ret (.tup %[.bi .list %[.idx (.var 0) (.int 0)|1],.bi .list %[.idx (.var 0) (.int 1)|1],.bi .list %[.idx (.var 0) (.int 2)|1],.var 2|1])|2]
theorem LO:GA aR bF UJ sH (top 19)=true:=by kernel_rfl
noncomputable def oO:LS:=["world","event","wrong","held","teller","hearer","matter"]
def xL:LS:=["world","event","wrong","held"]
def jX:Need:=#[["has_against","rank_of","floor_of"],[],[]]
noncomputable def rF:PT :=
  %[.ife (.cmp .Eq (.idx (.var 1) (.int 0)) (.str "see")) %[.ret (.bl kf)|2] .nil,.set 4 (.idx (.var 1) (.int 2)),.set 5 (.idx (.var 1) (.int 3)),.set 6 (.idx (.var 1) (.int 4)),.ife (.or (.cmp .NotIn (.tup %[.var 4,.var 6|1]) (.var 3)) (.cmp .In (.tup %[.var 4,.var 5|1]) (.var 2))) %[.ret (.bl kd)|2] .nil,.ret (.and (.cmp .GtE (.call "rank_of" %[.var 0,.var 4|1]) (.call "floor_of" %[.var 0,.var 5|1])) (.not (.call "has_against" %[.var 0,.var 3,.var 5,.var 6|1])))|2]
theorem hV:GA jX rF oO xL (top 20)=true:=by kernel_rfl
def vQ:LS:=["world","name"]
def PM:LS:=["world","name"]
def V2:Need:=#[[],[],[]]
noncomputable def YK:PT :=
  %[.ret (.idx (.comp [] ["person"] (.nm 0) .val %[.idx (.var 0) (.int 0)|1] (.cmp .Eq (.idx (.var 0) (.int 0)) (.var 2)) (.idx (.var 0) (.int 1))) (.int 0))|2]
theorem MX:GA V2 YK vQ PM (top 21)=true:=by kernel_rfl
def pO:LS:=["world","name"]
def uL:LS:=["world","name"]
def yX:Need:=#[[],[],[]]
noncomputable def xI:PT :=
  %[.ret (.idx (.comp [] ["person"] (.nm 0) .val %[.idx (.var 0) (.int 0)|1] (.cmp .Eq (.idx (.var 0) (.int 0)) (.var 2)) (.idx (.var 0) (.int 2))) (.int 0))|2]
theorem lV:GA yX xI pO uL (top 22)=true:=by kernel_rfl
def CH:LS:=["world","pairs","name","matter","rivals"]
def AF:LS:=["world","pairs","name","matter"]
def XO:Need:=#[[],[],["any"]]
noncomputable def oE:PT :=
  %[.own 4 (.comp [] ["first","second"] (.tp [0,1]) .val %[.idx (.var 0) (.int 2)|1] (.cmp .Eq (.var 0) (.var 5)) (.var 1)),.expr (.mt .extend (.var 4) %[.comp [] ["first","second"] (.tp [0,1]) .val %[.idx (.var 0) (.int 2)|1] (.cmp .Eq (.var 1) (.var 5)) (.var 0)|1]),.ret (.bi .any %[.comp [] ["rival"] (.nm 0) .val %[.var 4|1] .nop (.cmp .In (.tup %[.var 3,.var 0|1]) (.var 2))|1])|2]
theorem IN:GA XO oE CH AF (top 23)=true:=by kernel_rfl
def XH:LS:=["world","past","seen","wrong","number","event"]
def RF:LS:=["world","past"]
def ZO:Need:=#[["seen_among","has_against"],[],[]]
noncomputable def BF:PT :=
  %[.set 5 (.idx (.idx (.var 0) (.int 3)) (.var 4)),.ife (.and (.cmp .Eq (.idx (.var 5) (.int 0)) (.str "tell")) (.cmp .NotIn (.tup %[.idx (.var 5) (.int 3),.idx (.var 5) (.int 4)|1]) (.var 2))) %[.ife (.call "has_against" %[.var 0,.var 2,.idx (.var 5) (.int 3),.idx (.var 5) (.int 4)|1]) %[.six (.var 3) (.tup %[.idx (.var 5) (.int 2),.idx (.var 5) (.int 3)|1]) (.bl kf)|2] .nil|2] .nil|2]
def cE:PT :=
  %[.own 2 (.call "seen_among" %[.idx (.var 0) (.int 3),.var 1|1]),.own 3 (.dnew kf),.for_ (.nm 4) .val %[.var 1|1] BF,.ret (.var 3)|2]
theorem TN:GA ZO cE XH RF (top 24)=true:=by kernel_rfl
def BJ:LS:=["events","past","seen","number"]
def tH:LS:=["events","past"]
def eR:Need:=#[[],[],[]]
noncomputable def mG:PT :=
  %[.ife (.cmp .Eq (.idx (.idx (.var 0) (.var 3)) (.int 0)) (.str "see")) %[.six (.var 2) (.tup %[.idx (.idx (.var 0) (.var 3)) (.int 2),.idx (.idx (.var 0) (.var 3)) (.int 3)|1]) (.bl kf)|2] .nil|2]
def fF:PT :=
  %[.own 2 (.dnew kf),.for_ (.nm 3) .val %[.var 1|1] mG,.ret (.var 2)|2]
theorem MO:GA eR fF BJ tH (top 25)=true:=by kernel_rfl
def CJ:LS:=["events","taken","wrong"]
def aH:LS:=["events","taken","wrong"]
def iR:Need:=#[[],[],["sorted"]]
noncomputable def mF:PT :=
  %[.ret (.bi .sorted %[.comp [] ["number"] (.nm 0) .val %[.var 1|1] (.cmp .NotIn (.tup %[.idx (.idx (.var 1) (.var 0)) (.int 2),.idx (.idx (.var 1) (.var 0)) (.int 3)|1]) (.var 3)) (.var 0)|1])|2]
theorem NO:GA iR mF CJ aH (top 26)=true:=by kernel_rfl
def FJ:LS:=["world","past","live","known","seen","holders","matter","web","held","person"]
def JH:LS:=["world","past","live","known"]
noncomputable def YR:Need:=#[["seen_among","edges_of","seers_of","holders_in"],[],[]]
noncomputable def HC:PT :=
  %[.six (.var 5) (.var 6) (.idx (.var 3) (.var 7))|2]
def ZD:PT :=
  (.seq (.set 7 (.tup %[.call "seers_of" %[.var 0,.var 4,.var 6|1],.call "edges_of" %[.idx (.var 0) (.int 3),.var 2,.var 6|1]|1]))
  (.seq (.ife (.cmp .NotIn (.var 7) (.var 3)) %[.six (.var 3) (.var 7) (.call "holders_in" %[.var 0,.var 7|1])|2] .nil)
  HC))
noncomputable def YD:PT :=
  %[.expr (.mt .extend (.var 8) %[.comp [kd,kd,kd,kd,kd,kd,kf] ["matter"] (.nm 0) .val %[.idx (.var 0) (.int 1)|1] (.cmp .In (.idx (.var 10) (.int 0)) (.idx (.var 6) (.var 0))) (.tup %[.idx (.var 10) (.int 0),.var 0|1])|1])|2]
def tF:PT :=
  %[.own 4 (.call "seen_among" %[.idx (.var 0) (.int 3),.var 1|1]),.own 5 (.dnew kd),.for_ (.nm 6) .val %[.idx (.var 0) (.int 1)|1] ZD,.own 8 (.lst .anil),.for_ (.nm 9) .val %[.idx (.var 0) (.int 0)|1] YD,.ret (.var 8)|2]
theorem RO:GA YR tF FJ JH (top 27)=true:=by kernel_rfl
def fO:LS:=["world","seen","matter"]
def jL:LS:=["world","seen","matter"]
def SW:Need:=#[[],[],["tuple"]]
noncomputable def yI:PT :=
  %[.ret (.bi .tuple %[.comp [] ["person"] (.nm 0) .val %[.idx (.var 0) (.int 0)|1] (.cmp .In (.tup %[.idx (.var 0) (.int 0),.var 3|1]) (.var 2)) (.idx (.var 0) (.int 0))|1])|2]
theorem xV:GA SW yI fO jL (top 28)=true:=by kernel_rfl
def rO:LS:=["events","live","matter","tells"]
def bL:LS:=["events","live","matter"]
def zX:Need:=#[[],[],["tuple"]]
noncomputable def uI:PT :=
  %[.set 3 (.comp [] ["number"] (.nm 0) .val %[.var 1|1] (.cmp .Eq (.idx (.idx (.var 1) (.var 0)) (.int 4)) (.var 3)) (.idx (.var 1) (.var 0))),.ret (.bi .tuple %[.comp [] ["event"] (.nm 0) .val %[.var 3|1] .nop (.tup %[.idx (.var 0) (.int 2),.idx (.var 0) (.int 3)|1])|1])|2]
theorem mV:GA zX uI rO bL (top 29)=true:=by kernel_rfl
def DJ:LS:=["world","web"]
def iH:LS:=["world","web"]
def JR:Need:=#[["ground_alone","needs_of"],[],[]]
noncomputable def sF:PT :=
  %[.ret (.comp [] ["name","chains"] (.tp [0,1]) .val %[.call "ground_alone" %[.idx (.var 1) (.int 1),.idx (.var 1) (.int 0),.call "needs_of" %[.var 0|1]|1]|1] .nop (.var 0))|2]
theorem OO:GA JR sF DJ iH (top 30)=true:=by kernel_rfl
def lO:LS:=["world"]
def zL:LS:=["world"]
def AW:Need:=#[[],[],[]]
noncomputable def zI:PT :=
  %[.ret (.comp [] ["person"] (.nm 0) .val %[.idx (.var 0) (.int 0)|1] .nop (.tup %[.idx (.var 0) (.int 0),.idx (.var 0) (.int 3)|1]))|2]
theorem bV:GA AW zI lO zL (top 31)=true:=by kernel_rfl
def BH:LS:=["world"]
def TF:LS:=["world"]
def VO:Need:=#[["gone"],[],[]]
noncomputable def gE:PT :=
  %[.ret (.tup %[.var 0,.call "gone" %[.var 0|1]|1])|2]
theorem EN:GA VO gE BH TF (top 33)=true:=by kernel_rfl
def xQ:LS:=["moment"]
def RM:LS:=["moment"]
def U2:Need:=#[[],[],[]]
noncomputable def ZK:PT :=
  %[.ret (.comp [] ["step"] (.nm 0) .val %[.idx (.var 0) (.int 1)|1] .nop (.idx (.var 0) (.int 0)))|2]
theorem NX:GA U2 ZK xQ RM (top 34)=true:=by kernel_rfl
def uQ:LS:=["moment"]
def TM:LS:=["moment"]
def B2:Need:=#[[],[],["len"]]
noncomputable def UK:PT :=
  %[.ret (.ife (.cmp .Gt (.bi .len %[.idx (.var 0) (.int 1)|1]) (.int 0)) (.idx (.idx (.idx (.var 0) (.int 1)) (.ng 1)) (.int 2)) (.lst .anil))|2]
theorem OX:GA B2 UK uQ TM (top 35)=true:=by kernel_rfl
def kQ:LS:=["moment"]
def OM:LS:=["moment"]
def K2:Need:=#[["seen_among","past_in"],[],[]]
noncomputable def JK:PT :=
  %[.ret (.call "seen_among" %[.idx (.idx (.var 0) (.int 0)) (.int 3),.call "past_in" %[.var 0|1]|1])|2]
theorem LX:GA K2 JK kQ OM (top 36)=true:=by kernel_rfl
def XV:LS:=["moment","matter"]
def rP:LS:=["moment","matter"]
noncomputable def Z8:Need:=#[["edges_of","live_in","seers_of","seen_in"],[],[]]
noncomputable def zO:PT :=
  %[.ret (.tup %[.call "seers_of" %[.idx (.var 0) (.int 0),.call "seen_in" %[.var 0|1],.var 1|1],.call "edges_of" %[.idx (.idx (.var 0) (.int 0)) (.int 3),.call "live_in" %[.var 0|1],.var 1|1]|1])|2]
theorem i4:GA Z8 zO XV rP (top 37)=true:=by kernel_rfl
def ZL:LS:=["world","matter"]
def EI:LS:=["world","matter"]
def uU:Need:=#[["ground_in","last_moment"],[],[]]
noncomputable def eG:PT :=
  %[.ret (.call "ground_in" %[.call "last_moment" %[.var 0|1],.var 1|1])|2]
theorem mS:GA uU eG ZL EI (top 39)=true:=by kernel_rfl
def cO:LS:=["world","person","matter"]
def AK:LS:=["world","person","matter"]
def OW:Need:=#[["since_in","last_moment"],[],[]]
noncomputable def IH:PT :=
  %[.ret (.call "since_in" %[.call "last_moment" %[.var 0|1],.var 1,.var 2|1])|2]
theorem zV:GA OW IH cO AK (top 40)=true:=by kernel_rfl
def KL:LS:=["moment","matter","web"]
def II:LS:=["moment","matter"]
def bU:Need:=#[["web_of","ground_by","needs_of"],[],[]]
noncomputable def iG:PT :=
  %[.set 2 (.call "web_of" %[.var 0,.var 1|1]),.ret (.call "ground_by" %[.idx (.var 2) (.int 1),.idx (.var 2) (.int 0),.call "needs_of" %[.idx (.var 0) (.int 0)|1]|1])|2]
theorem nS:GA bU iG KL II (top 41)=true:=by kernel_rfl
noncomputable def dO:LS:=["moment","person","matter","since","number","taken","live","held"]
def IK:LS:=["moment","person","matter"]
def RW:Need:=#[[],[],[]]
noncomputable def cF:PT :=
  %[.ife (.cmp .NotIn (.tup %[.var 1,.var 2|1]) (.var 7)) %[.set 3 .non|2] %[.ife (.cmp .Is (.var 3) .non) %[.set 3 (.idx (.idx (.idx (.idx (.var 0) (.int 0)) (.int 3)) (.var 4)) (.int 1))|2] .nil|2]|2]
def jI:PT :=
  %[.set 3 .non,.for_ (.tp [4,5,6,7]) .val %[.idx (.var 0) (.int 1)|1] cF,.ret (.var 3)|2]
theorem vV:GA RW jI dO IK (top 42)=true:=by kernel_rfl
def JL:LS:=["_law_script","_law_k"]
def SI:LS:=["_law_script","_law_k"]
def vU:Need:=#[[],[],["len"]]
noncomputable def tG:PT :=
  %[.ife (.cmp .Lt (.var 1) (.bi .len %[.var 0|1])) %[.ret (.idx (.var 0) (.var 1))|2] .nil,.ret (.int 0)|2]
theorem dS:GA vU tG JL SI (top 44)=true:=by kernel_rfl
def lQ:LS:=["_law_cell","_law_k","_law_number"]
def zN:LS:=["_law_cell","_law_k"]
def T2:Need:=#[[],[],[]]
noncomputable def HK:PT :=
  %[.set 2 (.bin .Mod (.bin .Mult (.bin .Mod (.var 0) (.int 2147483647)) (.bin .Add (.int 69621) (.bin .Mult (.bin .Mult (.int 1511) (.var 1)) (.var 1)))) (.int 2147483629)),.ret (.bin .Mod (.bin .Mult (.bin .Add (.var 2) (.var 1)) (.bin .Add (.bin .Add (.var 2) (.bin .Mult (.int 5) (.var 1))) (.int 1))) (.int 2147483587))|2]
theorem IX:GA T2 HK lQ zN (top 45)=true:=by kernel_rfl
noncomputable def eL:LS:=["_law_number","_law_size","_law_some","_law_word","_law_k"]
def OI:LS:=["_law_number","_law_size"]
def zU:Need:=#[[],[],["range"]]
noncomputable def VH:PT :=
  %[.set 3 (.bin .Add (.var 3) (.idx (.var 2) (.bin .Mod (.var 0) (.int 26)))),.set 0 (.bin .FloorDiv (.var 0) (.int 26))|2]
def rG:PT :=
  %[.set 2 (.str "abcdefghijklmnopqrstuvwxyz"),.set 3 (.str ""),.for_ (.nm 4) .rng1 %[.var 1|1] VH,.ret (.var 3)|2]
theorem bS:GA zU rG eL OI (top 46)=true:=by kernel_rfl
def fQ:LS:=["_law_word","_law_some","_law_kept"]
def jN:LS:=["_law_word"]
def N2:Need:=#[[],[],[]]
noncomputable def FK:PT :=
  %[.set 1 (.str "abcdefghijklmnopqrstuvwxyz"),.set 2 (.lst %[.str "person",.str "matter",.str "against",.str "see",.str "tell",.str "by",.str "at",.str "who",.str "what",.str "since",.str "tellers"|1]),.ife (.or (.cmp .In (.var 0) (.var 2)) (.cmp .In (.var 0) (.lst %[.str "wordings",.str "apart",.str "leans",.str "hidden",.str "strike",.str "quote",.str "ground",.str "cut"|1]))) %[.ret (.bin .Add (.slc (.var 0) .nop (.ng 1)) (.idx (.var 1) (.bin .Mod (.bin .Add (.mt .index (.var 1) %[.idx (.var 0) (.ng 1)|1]) (.int 13)) (.int 26))))|2] .nil,.ret (.var 0)|2]
theorem AX:GA N2 FK fQ jN (top 47)=true:=by kernel_rfl
noncomputable def cQ:LS:=["_law_cell","_law_many","_law_longest","_law_some","_law_number","_law_base","_law_size","_law_at","_law_words_here","_law_k","_law_sign","_law_word"]
def EM:LS:=["_law_cell","_law_many","_law_longest"]
noncomputable def D2:Need:=#[["_law_mixed","_law_letters","_law_spelt"],[],["range","list","reversed"]]
noncomputable def yD:PT :=
  %[.expr (.mt .append (.var 8) %[.call "_law_spelt" %[.var 11|1]|1])|2]
def pG:PT :=
  (.seq (.set 10 (.idx (.var 3) (.bin .Mod (.bin .Add (.bin .FloorDiv (.var 4) (.int 192)) (.var 9)) (.int 26))))
  (.seq (.ife (.cmp .Eq (.bin .Mod (.var 4) (.int 3)) (.int 0)) %[.set 11 (.bin .Add (.bin .Add (.slc (.var 5) .nop (.var 7)) (.var 10)) (.slc (.var 5) (.bin .Add (.var 7) (.int 1)) (.var 6)))|2] %[.ife (.cmp .Eq (.bin .Mod (.var 4) (.int 3)) (.int 1)) %[.set 11 (.slc (.var 5) .nop (.bin .Add (.int 1) (.bin .Mod (.bin .Add (.bin .FloorDiv (.var 4) (.int 24)) (.var 9)) (.var 2))))|2] %[.set 11 (.slc (.bin .Add (.var 10) (.call "_law_letters" %[.call "_law_mixed" %[.var 0,.bin .Add (.var 9) (.int 2)|1],.int 7|1])) .nop (.bin .Add (.int 1) (.bin .Mod (.call "_law_mixed" %[.var 0,.bin .Add (.var 9) (.int 40)|1]) (.var 2))))|2]|2])
  yD))
def CK:PT :=
  %[.set 3 (.str "abcdefghijklmnopqrstuvwxyz"),.set 4 (.call "_law_mixed" %[.var 0,.int 1|1]),.set 5 (.call "_law_letters" %[.bin .Add (.bin .Mult (.var 4) (.var 4)) (.var 4),.int 8|1]),.set 6 (.bin .Add (.int 1) (.bin .Mod (.bin .FloorDiv (.var 4) (.int 3)) (.var 2))),.set 7 (.bin .Mod (.bin .FloorDiv (.var 4) (.int 24)) (.var 6)),.own 8 (.lst .anil),.for_ (.nm 9) .rng1 %[.var 1|1] pG,.ife (.cmp .Eq (.bin .Mod (.bin .FloorDiv (.var 4) (.int 5000)) (.int 2)) (.int 1)) %[.ret (.lrv (.var 8))|2] .nil,.ret (.var 8)|2]
theorem SX:GA D2 CK cQ EM (top 48)=true:=by kernel_rfl
def mO:LS:=["_law_name","_law_m","_law_floor","_law_rank"]
def kL:LS:=["_law_name","_law_m"]
def EW:Need:=#[[],[],[]]
noncomputable def kI:PT :=
  %[.set 2 (.idx (.lst %[.int 0,.int 0,.int 0,.int 20,.int 50,.int 99|1]) (.bin .Mod (.var 1) (.int 6))),.set 3 (.idx (.lst %[.int 99,.int 50,.int 20,.int 99,.int 0,.int 50,.int 99,.int 21|1]) (.bin .Mod (.bin .FloorDiv (.var 1) (.int 6)) (.int 8))),.ret (.tup %[.var 0,.var 3,.var 2,.idx (.lst %[.int 1,.int 1,.int 1,.int 2,.int 2,.int 3|1]) (.bin .Mod (.bin .FloorDiv (.var 1) (.int 48)) (.int 6))|1])|2]
theorem cV:GA EW kI mO kL (top 49)=true:=by kernel_rfl
noncomputable def YL:LS:=["_law_matters","_law_m","_law_found","_law_j","_law_k"]
def AI:LS:=["_law_matters","_law_m"]
def xU:Need:=#[[],[],["range","len"]]
noncomputable def nE:PT :=
  %[.set 1 (.bin .FloorDiv (.var 1) (.int 3)),.ife (.cmp .Eq (.bin .Mod (.var 1) (.int 3)) (.int 0)) %[.expr (.mt .append (.var 2) %[.tup %[.idx (.var 0) (.var 3),.idx (.var 0) (.var 4)|1]|1])|2] %[.ife (.cmp .Eq (.bin .Mod (.var 1) (.int 3)) (.int 1)) %[.expr (.mt .append (.var 2) %[.tup %[.idx (.var 0) (.var 4),.idx (.var 0) (.var 3)|1]|1])|2] .nil|2]|2]
def mE:PT :=
  %[.for_ (.nm 4) .rng1 %[.var 3|1] nE|2]
def aG:PT :=
  %[.own 2 (.lst .anil),.for_ (.nm 3) .rng1 %[.bi .len %[.var 0|1]|1] mE,.ret (.var 2)|2]
theorem gS:GA xU aG YL AI (top 50)=true:=by kernel_rfl
noncomputable def gQ:LS:=["_law_events","_law_teller","_law_matter","_law_most","_law_told","_law_here","_law_event_here"]
noncomputable def yN:LS:=["_law_events","_law_teller","_law_matter","_law_most"]
def O2:Need:=#[[],[],["reversed","len","tuple"]]
noncomputable def TD:PT :=
  %[.ife (.and (.cmp .Eq (.idx (.var 6) (.int 0)) (.str "tell")) (.and (.cmp .Eq (.idx (.var 6) (.int 3)) (.var 5)) (.and (.cmp .Eq (.idx (.var 6) (.int 4)) (.var 2)) (.cmp .Lt (.bi .len %[.var 4|1]) (.var 3))))) %[.expr (.mt .append (.var 4) %[.idx (.var 6) (.int 2)|1]),.set 5 (.idx (.var 6) (.int 2))|2] .nil|2]
def GK:PT :=
  %[.own 4 (.lst .anil),.set 5 (.var 1),.for_ (.nm 6) .rev %[.var 0|1] TD,.ret (.bi .tuple %[.var 4|1])|2]
theorem EX:GA O2 GK gQ yN (top 51)=true:=by kernel_rfl
noncomputable def mQ:LS:=["_law_events","_law_names","_law_matters","_law_m","_law_time","_law_rest","_law_one","_law_matter","_law_word","_law_other","_law_quote_here"]
noncomputable def kN:LS:=["_law_events","_law_names","_law_matters","_law_m"]
noncomputable def A2:Need:=#[["_law_letters","_law_quote"],[],["len","tuple","range"]]
noncomputable def oF:PT :=
  %[.ret (.tup %[.str "tell",.var 4,.idx (.var 1) (.var 6),.idx (.var 1) (.var 9),.var 7,.var 8,.var 10|1])|2]
def LK:PT :=
  (.seq (.set 4 (.idx (.lst %[.bin .Mod (.bin .FloorDiv (.var 3) (.int 3)) (.int 5),.bin .Mod (.bin .FloorDiv (.var 3) (.int 3)) (.int 30),.bin .Sub (.int 999999999) (.bin .Mod (.bin .FloorDiv (.var 3) (.int 3)) (.int 4))|1]) (.bin .Mod (.var 3) (.int 3))))
  (.seq (.set 5 (.bin .FloorDiv (.var 3) (.int 40)))
  (.seq (.set 6 (.bin .Mod (.var 5) (.bi .len %[.var 1|1])))
  (.seq (.set 7 (.idx (.var 2) (.bin .Mod (.bin .FloorDiv (.var 5) (.int 7)) (.bi .len %[.var 2|1]))))
  (.seq (.set 8 (.call "_law_letters" %[.var 5,.bin .Add (.int 1) (.bin .Mod (.bin .FloorDiv (.var 5) (.int 11)) (.int 8))|1]))
  (.seq (.ife (.cmp .Eq (.bin .Mod (.bin .FloorDiv (.var 5) (.int 90)) (.int 4)) (.int 0)) %[.ret (.tup %[.str "see",.var 4,.idx (.var 1) (.var 6),.var 7,.var 8|1])|2] .nil)
  (.seq (.set 9 (.bin .Mod (.bin .Add (.bin .Add (.var 6) (.int 1)) (.bin .Mod (.bin .FloorDiv (.var 5) (.int 360)) (.bin .Sub (.bi .len %[.var 1|1]) (.int 1)))) (.bi .len %[.var 1|1])))
  (.seq (.set 10 (.call "_law_quote" %[.var 0,.idx (.var 1) (.var 6),.var 7,.bin .Mod (.bin .FloorDiv (.var 5) (.int 2500)) (.int 4)|1]))
  (.seq (.ife (.cmp .Eq (.bin .Mod (.bin .FloorDiv (.var 5) (.int 10000)) (.int 5)) (.int 0)) %[.set 10 (.bi .tuple %[.comp [] ["_law_k"] (.nm 0) .rng1 %[.bin .Add (.int 1) (.bin .Mod (.bin .FloorDiv (.var 5) (.int 2500)) (.int 3))|1] .nop (.idx (.var 2) (.bin .Mod (.bin .Add (.bin .FloorDiv (.var 6) (.int 50000)) (.bin .Mult (.int 2) (.var 0))) (.bi .len %[.var 2|1])))|1])|2] .nil)
  oF)))))))))
theorem jY:GA A2 LK mQ kN (top 52)=true:=by kernel_rfl
noncomputable def nO:LS:=["_law_cells","_law_many","_law_sums","_law_k","_law_cell"]
def vL:LS:=["_law_cells","_law_many"]
def IW:Need:=#[[],[],["range","min","len","enumerate"]]
noncomputable def nF:PT :=
  %[.six (.var 2) (.bin .Mod (.var 3) (.var 1)) (.bin .Add (.idx (.var 2) (.bin .Mod (.var 3) (.var 1))) (.var 4))|2]
def vI:PT :=
  %[.own 2 (.comp [kd,kd,kd,kf] ["_law_k"] (.nm 0) .rng1 %[.bi .min %[.var 1,.bi .len %[.var 0|1]|1]|1] .nop (.int 0)),.for_ (.tp [3,4]) .enum %[.var 0|1] nF,.ret (.var 2)|2]
theorem fV:GA IW vI nO vL (top 53)=true:=by kernel_rfl
noncomputable def bQ:LS:=["_law_script","_law_first","_law_second","_law_names","_law_matters","_law_people","_law_events","_law_k","_law_cell"]
def AM:LS:=["_law_script"]
noncomputable def C2:Need:=#[["_law_mixed","_law_cell_at","_law_words","_law_person","_law_folded","_law_event","_law_against"],[],["enumerate"]]
noncomputable def oG:PT :=
  %[.expr (.mt .append (.var 6) %[.call "_law_event" %[.var 6,.var 3,.var 4,.call "_law_mixed" %[.var 8,.bin .Add (.var 7) (.int 3)|1]|1]|1])|2]
def BK:PT :=
  %[.set 1 (.call "_law_mixed" %[.call "_law_cell_at" %[.var 0,.int 0|1],.int 1|1]),.set 2 (.call "_law_mixed" %[.call "_law_cell_at" %[.var 0,.int 1|1],.int 2|1]),.set 3 (.call "_law_words" %[.call "_law_cell_at" %[.var 0,.int 0|1],.bin .Add (.int 2) (.bin .Mod (.var 1) (.int 5)),.int 8|1]),.set 4 (.call "_law_words" %[.call "_law_cell_at" %[.var 0,.int 1|1],.bin .Add (.int 1) (.bin .Mod (.var 2) (.int 3)),.int 8|1]),.set 5 (.comp [kd,kd,kd,kd,kd,kd,kd,kf] ["_law_k","_law_name"] (.tp [0,1]) .enum %[.var 3|1] .nop (.call "_law_person" %[.var 1,.call "_law_mixed" %[.call "_law_cell_at" %[.var 2,.int 0|1],.bin .Add (.int 10) (.var 0)|1]|1])),.own 6 (.lst .anil),.for_ (.tp [7,8]) .enum %[.call "_law_folded" %[.slc (.var 0) (.int 2) .nop,.int 18|1]|1] oG,.frz [6] (.ret (.tup %[.var 5,.var 4,.call "_law_against" %[.var 4,.bin .FloorDiv (.var 2) (.int 3)|1],.var 6|1]))|2]
theorem RX:GA C2 BK bQ AM (top 54)=true:=by kernel_rfl
noncomputable def dQ:LS:=["_law_world_here","_law_m","_law_times_here","_law_some"]
def IM:LS:=["_law_world_here","_law_m"]
def G2:Need:=#[[],[],["sorted","len"]]
noncomputable def DK:PT :=
  %[.set 2 (.bi .sorted %[.comp [] ["_law_event_here"] (.nm 0) .val %[.idx (.var 0) (.int 3)|1] .nop (.idx (.var 0) (.int 1))|1]),.ife (.cmp .Eq (.var 2) (.lst .anil)) %[.ret (.lst %[.bin .Mod (.var 1) (.int 5)|1])|2] .nil,.set 3 (.lst %[.idx (.var 2) (.bin .Mod (.var 1) (.bi .len %[.var 2|1])),.idx (.var 2) (.bin .Mod (.bin .FloorDiv (.var 1) (.int 30)) (.bi .len %[.var 2|1])),.bin .Sub (.idx (.var 2) (.bin .Mod (.bin .FloorDiv (.var 1) (.int 900)) (.bi .len %[.var 2|1]))) (.int 1)|1]),.ret (.comp [] ["_law_time"] (.nm 0) .val %[.var 3|1] (.cmp .GtE (.var 0) (.int 0)) (.var 0))|2]
theorem TX:GA G2 DK dQ IM (top 55)=true:=by kernel_rfl
noncomputable def iL:LS:=["_law_world_here","_law_steps","_law_time","_law_matter","_law_found","_law_step"]
noncomputable def RI:LS:=["_law_world_here","_law_steps","_law_time","_law_matter"]
def kU:Need:=#[[],[],[]]
noncomputable def lE:PT :=
  %[.ife (.cmp .LtE (.idx (.idx (.idx (.var 0) (.int 3)) (.idx (.var 5) (.int 0))) (.int 1)) (.var 2)) %[.own 4 (.comp [] ["_law_name","_law_other"] (.tp [0,1]) .val %[.idx (.var 5) (.int 3)|1] (.cmp .Eq (.var 1) (.var 5)) (.var 0))|2] .nil|2]
def sG:PT :=
  %[.own 4 (.lst .anil),.for_ (.nm 5) .val %[.var 1|1] lE,.ret (.var 4)|2]
theorem cS:GA kU sG iL RI (top 56)=true:=by kernel_rfl
noncomputable def Zi:LS:=["_law_script","_law_world_here","_law_steps","_law_some","_law_matter","_law_name","_law_since","_law_time","_law_due","_law_found"]
def u7:LS:=["_law_script"]
noncomputable def Br:Need:=#[["_law_world","gone","_law_mixed","_law_cell_at","since_of","_law_times","_law_holders","ground_of","until_time"],[],["len","sorted"]]
noncomputable def tS:PT :=
  %[.set 8 (.call "_law_holders" %[.var 1,.var 2,.var 7,.var 4|1]),.set 9 (.comp [] ["_law_row"] (.nm 0) .val %[.idx (.call "ground_of" %[.call "until_time" %[.var 1,.var 7|1],.var 4|1]) (.int 0)|1] .nop (.idx (.var 0) (.int 0))),.ife (.cmp .NotEq (.bi .sorted %[.var 9|1]) (.bi .sorted %[.var 8|1])) %[.ret (.bl kd)|2] .nil,.ife (.and (.cmp .IsNot (.var 6) .non) (.and (.cmp .LtE (.var 6) (.var 7)) (.cmp .NotIn (.var 5) (.var 8)))) %[.ret (.bl kd)|2] .nil|2]
def Ka:PT :=
  %[.set 1 (.call "_law_world" %[.var 0|1]),.set 2 (.call "gone" %[.var 1|1]),.set 3 (.call "_law_mixed" %[.call "_law_cell_at" %[.var 0,.int 1|1],.int 98|1]),.set 4 (.idx (.idx (.var 1) (.int 1)) (.bin .Mod (.var 3) (.bi .len %[.idx (.var 1) (.int 1)|1]))),.set 5 (.idx (.idx (.idx (.var 1) (.int 0)) (.bin .Mod (.bin .FloorDiv (.var 3) (.int 3)) (.bi .len %[.idx (.var 1) (.int 0)|1]))) (.int 0)),.set 6 (.call "since_of" %[.var 1,.var 5,.var 4|1]),.for_ (.nm 7) .val %[.call "_law_times" %[.var 1,.bin .FloorDiv (.var 3) (.int 20)|1]|1] tS,.ret (.bl kf)|2]
theorem cn:GA Br Ka Zi u7 (top 57)=true:=by kernel_rfl
theorem tK(a b:Str):Qt (.str a) (.str b)=decide (a=b):=by rw[qA,i0];simp[Qt]
theorem bH(l:LS)(z:Str):((l.map j0).any λy=>Qt y (.str z))=decide (z∈l):=by rw[QCL,qA,WK,i0];constructor;rintro⟨x,u,e⟩;have e:Qt (.str x) (.str z)=true:=e;rw[tK,i0]at e;exact e▸u;intro h;exact#[z,h,by show Qt (.str z) (.str z)=kf;rw[tK];exact dT rfl]
theorem VE(l:LS):(l.map j0).all aB=true:=by rw[List.all_map,Q9];exact λ_ _=>rfl
noncomputable def Me(g:Str)(cut:LS)(s:Str):Bool:=!decide (s=g)&&!decide (s∈cut)
inductive Led(es:rC)(st:LS)(g:Str)(cut:LS):Str->Prop
 |st {s:Str}:s∈st->Me g cut s=kf->Led es st g cut s
 |ed {a b:Str}:Led es st g cut a->(a,b)∈es->Me g cut b=kf->Led es st g cut b
theorem tR:∀{ks ns:LS},ks.Nodup->(∀s∈ks,s∈ns)->ks.9<=ns.9
 |[],_,_,_=>Qv _|s::r,ns,h,hs=>by let#[k,u]:=Qj.mp h;have z:=hs s QD;have:=tR (ks:=r) (ns:=ns.erase s) u λx y=>(QBW (λ(e:x=s)=>k (e▸y))).mpr (hs x (QE _ y));rw[QAn z]at this;have f:=QBA z;rw[QM];omega
def one(y:Str):Prop:=∃c,c<128/\y=#[(qG [c])]
def pr(p:Str×Str):D:=.tuple [.str p.1,.str p.2]
theorem PZ{α h:Type}(f:α->h)(l:List α)(a b:Option Int):eJ (l.map f) a b=(eJ l a b).map f:=by unfold eJ;rw[QC,List.map_take,List.map_drop]
noncomputable abbrev Pt:=Str×Str
theorem EQ(h:pr p=pr q):p=q:=by let#[a,b]:=p;let#[c,d]:=q;injection h with h;injection h with h1 h;injection h with h2 _;injection h1 with h1;injection h2 with h2;exact QCi h1 h2
theorem B9{x k:D}{r:List D}(h:x≠k):cA (x::r) k=(cA r k).map (·+1):=by unfold cA;rw[a8 h];cases r<;>rfl
theorem bh{x k:D}{r:List D}(h:x=k):cA (x::r) k=jr 0:=by unfold cA;rw[a9 h]
noncomputable def look{α:Type}:List (Pt×α)->Pt->Option α
 |[],_=>kv|e::l,p=>if e.1=p then jr e.2 else look l p
noncomputable def put{α:Type}:List (Pt×α)->Pt->α->List (Pt×α)
 |[],p,v=>[(p,v)]|e::l,p,v=>if e.1=p then(e.1,v)::l else e::put l p v
def XC{α:Type}(l:List (Pt×α)):List D:=l.map λe=>pr e.1
theorem rK{α:Type}{p:Pt}:∀{l:List (Pt×α)},look l p=kv->cA (XC l) (pr p)=kv/\∀w,put l p w=l++[(p,w)]
 |[],_=>#[rfl,λ_=>rfl]|e::l,h=>by unfold look at h;by_cases c:e.1=p;rw[a9 c]at h;cases h;rw[a8 c]at h;let#[y,x]:=rK h;refine#[?_,λw=>?_];show cA (pr e.1::XC l) (pr p)=kv;rw[B9 (λz=>c (EQ z)),y];rfl;show(if e.1=p then(e.1,w)::l else e::put l p w)=_;rw[a8 c,x];rfl
theorem sC{α:Type}{p:Pt}{v:α}(f:α->T):∀{l:List (Pt×α)},look l p=jr v->∃n,cA (XC l) (pr p)=jr n/\(l.map λe=>f e.2)[n]?=jr (f v)/\∀w,XC (put l p w)=XC l/\(l.map λe=>f e.2).set n (f w)=(put l p w).map λe=>f e.2
 |[],h=>by cases h|e::l,h=>by unfold look at h;by_cases c:e.1=p;rw[a9 c]at h;injection h with h;refine#[0,?_,?_,λw=>?_];exact bh (i3 pr c);show jr (f e.2)=_;rw[h];have:put (e::l) p w=(e.1,w)::l:=a9 c;rw[this];exact#[rfl,rfl];rw[a8 c]at h;let#[n,i,k,u]:=sC f h;refine#[n+1,?_,k,λw=>?_];show cA (pr e.1::XC l) (pr p)=jr (n+1);rw[B9 (λz=>c (EQ z)),i];rfl;have:put (e::l) p w=e::put l p w:=a8 c;rw[this];let#[y,x]:=u w;refine#[?_,?_];show pr e.1::XC (put l p w)=pr e.1::XC l;rw[y];show f e.2::(l.map λe=>f e.2).set n (f w)=f e.2::(put l p w).map λe=>f e.2;rw[x]
theorem sD{α:Type}{p q:Pt}{w:α}:∀{l:List (Pt×α)},look (put l p w) q=if p=q then jr w else look l q
 |[]=>rfl|e::l=>by
  by_cases c:e.1=p;have h:put (e::l) p w=(e.1,w)::l:=a9 c;rw[h];show(if e.1=q then jr w else look l q)=if p=q then jr w else(if e.1=q then jr e.2 else look l q)
  rw[c];split<;>rfl;have h:put (e::l) p w=e::put l p w:=a8 c;rw[h];show(if e.1=q then jr e.2 else look (put l p w) q)=if p=q then jr w else(if e.1=q then jr e.2 else look l q)
  rw[sD];by_cases d:e.1=q;rw[a9 d,a9 d,a8 (λz=>c (d.trans z.symm))];rw[a8 d,a8 d]
theorem PY{α:Type}{p:Pt}{w:α}:∀{l:List (Pt×α)},(put l p w).9<=l.9+1
 |[]=>QT _|e::l=>by by_cases c:e.1=p;rw[show put (e::l) p w=(e.1,w)::l from a9 c,QM,QM];omega;have:=PY (p:=p) (w:=w) (l:=l);rw[show put (e::l) p w=e::put l p w from a8 c,QM,QM];omega
theorem MB(p:Pt):aD kf (pr p):=#[[.s p.1,.s p.2],rfl,by simp[t8,nkds]]
noncomputable abbrev Inn:=List (Pt×Int)
noncomputable abbrev Rm:=List (Pt×Inn)
noncomputable def eD(l:Inn):T:=.dct kf (XC l) (l.map λe=>T.d (.int e.2))
def fB(r:Rm):T:=.dct kf (XC r) (r.map λe=>eD e.2)
def sdf(r:Rm)(p:Pt):Rm:=match look r p with
 |some _=>r|none=>r++[(p,[])]
theorem GY(hl:r.9<kn)(q:Q (fB (sdf r p))):Yq (.d (pr p)) (fB r) Q:=by
 refine#[XC r,_,rfl,MB p,by unfold XC;rw[QC];exact hl,?_];unfold sdf at q;cases h:look r p with
 |some v=>rw[h]at q;let#[n,x,_]:=sC eD h;exact .inl #[n,x,q]|none =>
  rw[h]at q;refine .inr #[(rK h).1,?_];have e:fB (r++[(p,[])])=.dct kf (XC r++[pr p]) ((r.map λe=>eD e.2)++[.dct kf [] []]):=by unfold fB XC;rw[QO,QO];rfl
  show Q (T.dct kf (XC r++[pr p]) ((r.map λe=>eD e.2)++[.dct kf [] []]));rw[<- e];exact q
theorem aQ(hl:l.9<kn)(q:Q (eD (put l p v))):dg (eD l) (.d (pr p)) (.d (.int v)) Q:=by
 refine#[MB p,by unfold XC;rw[QC];exact hl,?_];have e:xK kf (XC l) (l.map λe=>T.d (.int e.2)) (pr p) (.d (.int v))=eD (put l p v):=by
  unfold xK;cases h:look l p with|none=>let#[x,y]:=rK h;rw[x,y];unfold eD XC;rw[QO,QO];rfl|some u=>let#[n,x,y,f]:=sC (λi:Int=>T.d (.int i)) h;rw[x];let#[k,z]:=f v;show T.dct kf (XC l) ((l.map λe=>T.d (.int e.2)).set n (T.d (.int v)))=_;unfold eD;rw[k,z]
 show Q (xK kf (XC l) (l.map λe=>T.d (.int e.2)) (pr p) (.d (.int v)));rw[e];exact q
theorem aI{Q:T->(T->T)->Prop}(h:look r p=jr l)(q:∀f:T->T,(∀x,f (eD x)=fB (put r p x))->Q (eD l) f):fq (.d (pr p)) (fB r) Q:=by let#[n,i,k,u]:=sC eD h;refine#[kf,XC r,_,n,eD l,rfl,MB p,i,k,q _ λx=>?_];let#[z,y]:=u x;show T.dct kf (XC r) ((r.map λe=>eD e.2).set n (eD x))=_;unfold fB;rw[z,y]
def UA:Pt:=("","begin")
def tO(n:Str):Pt:=(n,"to")
def fR(n:Str):Pt:=(n,"from")
theorem Uw:("begin":Str)≠"to":=by decide +kernel
theorem Bw:("begin":Str)≠"from":=by decide +kernel
theorem Xw:("to":Str)≠"from":=by decide +kernel
theorem AB:UA≠tO a:=λh=>Uw (i3 QCV h)
theorem DE:UA≠fR a:=λh=>Bw (i3 QCV h)
theorem OA:tO a≠fR b:=λh=>Xw (i3 QCV h)
theorem FB(h:tO a=tO b):a=b:=i3 qz h
theorem AH(h:fR a=fR b):a=b:=i3 qz h
def j5(p q:Pt):Prop:=(p=UA/\∃n,q=tO n)∨(∃n,p=tO n/\q=fR n)∨(∃a b,a≠b/\p=fR a/\q=tO b)
theorem vF(h:j5 p q):¬ j5 q p:=by
 rintro k;rcases h with⟨rfl,n,rfl⟩| ⟨n,rfl,rfl⟩| ⟨a,b,u,rfl,rfl⟩<;>rcases k with⟨x,m,y⟩| ⟨m,x,y⟩| ⟨c,d,z,x,y⟩
 exact AB x.symm;exact DE y;exact OA x;exact DE x.symm;exact OA x.symm;exact z ((AH x).symm.trans (FB y));exact AB x.symm;exact u ((AH y).trans (FB x).symm);exact OA x
theorem kG(h:j5 p q):p≠q:=λe=>vF h (by rw[e]at h ⊢;exact h)
noncomputable abbrev Wy:=Pt×Pt×Int
def lk(r:Rm)(p:Pt):Inn:=(look r p).getD []
def ZB(r:Rm)(w:Wy):Rm:=put (put (sdf (sdf r w.1) w.2.1) w.1 (put (lk (sdf (sdf r w.1) w.2.1) w.1) w.2.1 w.2.2)) w.2.1 (put (lk (put (sdf (sdf r w.1) w.2.1) w.1 (put (lk (sdf (sdf r w.1) w.2.1) w.1) w.2.1 w.2.2)) w.2.1) w.1 0)
theorem mU{α:Type}{p q:Pt}{v:α}:∀{l:List (Pt×α)},look (l++[(p,v)]) q=(look l q).or (if p=q then jr v else kv)
 |[]=>rfl|e::l=>by show(if e.1=q then jr e.2 else look (l++[(p,v)]) q)=(if e.1=q then jr e.2 else look l q).or (if p=q then jr v else kv);by_cases c:e.1=q;rw[a9 c,a9 c];rfl;rw[a8 c,a8 c];exact mU
theorem lU:look (sdf r p) q=(look r q).or (if p=q then jr [] else kv):=by
 unfold sdf;cases h:look r p with
 |some v =>
  show look r q=_;cases y:look r q with
  |some x=>rfl|none =>
   show kv=if p=q then jr [] else kv
   rw[a8];intro e;rw[e,y]at h;cases h
 |none=>show look (r++[(p,[])]) q=_;exact mU
theorem LQ:(sdf r p).9<=r.9+1:=by unfold sdf;split;omega;rw[QI,qF];omega
theorem LI{α:Type}{p:Pt}{w:α}{e:Pt×α}:∀{l:List (Pt×α)},e∈put l p w->e=(p,w)∨e∈l
 |[],h=>.inl (QJ.mp h)|x::l,h=>by by_cases c:x.1=p;rw[show put (x::l) p w=(x.1,w)::l from a9 c]at h;rcases QK.mp h with h|h;exact .inl (by rw[h,c]);exact .inr (QE _ h);rw[show put (x::l) p w=x::put l p w from a8 c]at h;rcases QK.mp h with h|h;exact .inr (by rw[h];exact QD);exact(LI h).imp_right (QE _)
theorem SQ{α:Type}{p:Pt}{w:α}{q:Pt}:∀{l:List (Pt×α)},(∃v,(q,v)∈put l p w)↔q=p∨∃v,(q,v)∈l
 |[]=>by
  constructor;rintro⟨v,h⟩;exact .inl (i3 qz (QJ.mp h));rintro(rfl|⟨v,h⟩)
  ·exact#[w,QJ.mpr rfl]
  exact(nomatch h)
 |x::l=>by
  by_cases c:x.1=p;rw[show put (x::l) p w=(x.1,w)::l from a9 c];constructor;rintro⟨v,h⟩;rcases QK.mp h with h|h;exact .inl ((i3 qz h).trans c);exact .inr #[v,QE _ h];rintro(rfl|⟨v,h⟩)
  ·exact#[w,by rw[c];exact QD]
  rcases QK.mp h with h|h
  ·exact#[w,by rw[<- h];exact QD]
  exact#[v,QE _ h];rw[show put (x::l) p w=x::put l p w from a8 c];have y:=SQ (p:=p) (w:=w) (q:=q) (l:=l);constructor;rintro⟨v,h⟩;rcases QK.mp h with h|h;exact .inr #[v,by rw[h];exact QD];exact(y.mp #[v,h]).imp_right λ#[v,h]=>#[v,QE _ h]
  rintro(h|⟨v,h⟩)
  ·let#[v,h]:=y.mpr (.inl h)
   exact#[v,QE _ h]
  rcases QK.mp h with h|h
  ·exact#[v,by rw[h];exact QD]
  let#[v,h]:=y.mpr (.inr #[v,h]);exact#[v,QE _ h]
def z5(r:Rm)(p q:Pt):Prop:=∃v,(q,v)∈lk r p
def Key(r:Rm)(p:Pt):Prop:=∃l,look r p=jr l
def Pos(r:Rm):Prop:=∀p,∀e∈lk r p,(0<e.2↔j5 p e.1)
def Kb(r:Rm):Prop:=∀p q,z5 r p q->Key r q
def Sz(r:Rm)(n:Nat):Prop:=r.9<=n/\∀p,(lk r p).9<=n
theorem uE:lk (put r p l) q=if p=q then l else lk r q:=by unfold lk;rw[sD];split<;>rfl
theorem xE:lk (sdf r p) q=lk r q:=by
 unfold lk;rw[lU];cases look r q with|some x=>rfl|none=>show(if p=q then jr [] else kv).getD []=[];split<;>rfl
theorem dJ:Key (put r p l) q↔p=q∨Key r q:=by unfold Key;rw[sD];by_cases h:p=q;rw[a9 h];exact#[λ_=>.inl h,λ_=>#[_,rfl]];rw[a8 h];exact#[.inr,λz=>z.resolve_left h]
theorem OD:Key (sdf r p) q↔p=q∨Key r q:=by
 unfold Key;rw[lU];cases look r q with|some x=>exact#[λ_=>.inr #[_,rfl],λ_=>#[_,rfl]]|none=>show(∃l,(if p=q then jr [] else kv)=jr l)↔_;by_cases h:p=q;rw[a9 h];exact#[λ_=>.inl h,λ_=>#[_,rfl]];rw[a8 h];exact#[λ#[_,e]=>(nomatch e),λz=>(z.resolve_left h)]
theorem bJ(h:w.1≠w.2.1)(p:Pt):lk (ZB r w) p=if w.2.1=p then put (lk r p) w.1 0 else if w.1=p then put (lk r p) w.2.1 w.2.2 else lk r p:=by unfold ZB;rw[uE,uE,uE,xE,xE,xE,xE,a8 h,xE,xE];by_cases y:w.2.1=p;rw[a9 y,a9 y,y];rw[a8 y,a8 y];by_cases x:w.1=p;rw[a9 x,a9 x,x];rw[a8 x,a8 x]
theorem xG:Key (ZB r w) p↔p=w.1∨p=w.2.1∨Key r p:=by
 unfold ZB;rw[dJ,dJ,OD,OD];constructor;rintro(h|h|h|h|h)
 ·exact .inr (.inl h.symm)
 exact .inl h.symm;exact .inr (.inl h.symm);exact .inl h.symm;exact .inr (.inr h);rintro(h|h|h)
 ·exact .inr (.inl h.symm)
 exact .inl h.symm;exact .inr (.inr (.inr (.inr h)))
theorem sJ(h:w.1≠w.2.1):z5 (ZB r w) p q↔z5 r p q∨(p=w.1/\q=w.2.1)∨(p=w.2.1/\q=w.1):=by
 unfold z5;rw[bJ h];by_cases x:w.2.1=p;rw[a9 x,SQ];constructor;rintro(e|e)
 ·exact .inr (.inr #[x.symm,e])
 exact .inl e;rintro(e|⟨u,y⟩| ⟨u,y⟩)
 ·exact .inr e
 exact im (u.symm.trans x.symm) h;exact .inl y;rw[a8 x];by_cases k:w.1=p;rw[a9 k,SQ];constructor;rintro(e|e)
 ·exact .inr (.inl #[k.symm,e])
 exact .inl e;rintro(e|⟨u,y⟩| ⟨u,y⟩)
 ·exact .inr e
 exact .inl y;exact im u.symm x;rw[a8 k];exact#[.inl,λz=>z.elim id λz=>z.elim (λe=>im e.1.symm k) λe=>im e.1.symm x]
def FG(w:Wy):Prop:=j5 w.1 w.2.1/\0<w.2.2
theorem c7(g:FG w)(y:Pos r):Pos (ZB r w):=by intro p e h;rw[bJ (kG g.1)]at h;by_cases k:w.2.1=p;rw[a9 k]at h;rcases LI h with z|z;rw[z,<- k];exact#[λx=>im x (wj 0),λx=>im x (vF g.1)];exact y p e z;rw[a8 k]at h;by_cases u:w.1=p;rw[a9 u]at h;rcases LI h with z|z;rw[z,<- u];exact#[λ_=>g.1,λ_=>g.2];exact y p e z;rw[a8 u]at h;exact y p e h
theorem N9(g:FG w)(x:Kb r):Kb (ZB r w):=by
 intro p q h;rw[xG];rcases(sJ (kG g.1)).mp h with h|⟨_,h⟩| ⟨_,h⟩
 exact .inr (.inr (x p q h));exact .inr (.inl h);exact .inl h
theorem HM{α:Type}{w:α}{l:List (Pt×α)}{n:Nat}(h:l.9<=n):(put l p w).9<=n+1:=QV PY ()
theorem TQ{α:Type}{p:Pt}{w:α}:∀{l:List (Pt×α)},(look l p).isSome=kf->(put l p w).9=l.9
 |[],h=>by cases h|e::l,h=>by by_cases c:e.1=p;rw[show put (e::l) p w=(e.1,w)::l from a9 c];rfl;rw[show put (e::l) p w=e::put l p w from a8 c,QM,QM];rw[show look (e::l) p=look l p from a8 c]at h;rw[TQ h]
theorem JU(h:Key r p):(look r p).isSome=true:=by let#[l,e]:=h;rw[e];rfl
theorem M8:(ZB r w).9<=r.9+2:=by have x:Key (sdf (sdf r w.1) w.2.1) w.1:=OD.mpr (.inr (OD.mpr (.inl rfl)));have h:Key (sdf (sdf r w.1) w.2.1) w.2.1:=OD.mpr (.inl rfl);unfold ZB;rw[TQ (JU (dJ.mpr (.inr h))),TQ (JU x)];have:=LQ (r:=r) (p:=w.1);have:=LQ (r:=sdf r w.1) (p:=w.2.1);omega
theorem tI{n:Nat}(g:w.1≠w.2.1)(h:Sz r n):Sz (ZB r w) (n+2):=by
 refine#[QV M8 (by have:=h.1;omega),λp=>?_];rw[bJ g];have x:=h.2 p;split;exact QV (HM x) ();split
 ·exact QV (HM x) ()
 omega
theorem LZ:∀{ws:List Wy}{r:Rm},(∀w∈ws,FG w)->∀{p q:Pt},z5 (ws.foldl ZB r) p q↔z5 r p q∨(∃v,(p,q,v)∈ws)∨∃v,(q,p,v)∈ws
 |[],r,_,p,q=>#[.inl,λz=>z.elim id λz=>z.elim (λ#[_,z]=>(nomatch z)) λ#[_,z]=>(nomatch z)]
 |w::ws,r,h,p,q=>by
  rw[QAJ,LZ (λw x=>h w (QE _ x)),sJ (kG (h w QD).1)];constructor;rintro((z|⟨rfl,rfl⟩| ⟨rfl,rfl⟩)|⟨v,z⟩| ⟨v,z⟩)
  ·exact .inl z
  exact .inr (.inl #[_,QD]);exact .inr (.inr #[_,QD]);exact .inr (.inl #[v,QE _ z]);exact .inr (.inr #[v,QE _ z]);rintro(z|⟨v,z⟩| ⟨v,z⟩)
  ·exact .inl (.inl z)
  rcases QK.mp z with z|z
  ·rw[<- z]
   exact .inl (.inr (.inl #[rfl,rfl]))
  exact .inr (.inl #[v,z]);rcases QK.mp z with z|z
  ·rw[<- z]
   exact .inl (.inr (.inr #[rfl,rfl]))
  exact .inr (.inr #[v,z])
theorem ZV:∀{ws:List Wy}{r:Rm}{n:Nat},(∀w∈ws,FG w)->Pos r->Kb r->Key r UA->Sz r n->Pos (ws.foldl ZB r)/\Kb (ws.foldl ZB r)/\Key (ws.foldl ZB r) UA/\Sz (ws.foldl ZB r) (n+2 * ws.length)
 |[],r,n,_,h1,h2,h3,h4=>#[h1,h2,h3,h4]|w::ws,r,n,h,h1,h2,h3,h4=>by have g:=h w QD;have:=ZV (ws:=ws) (r:=ZB r w) (n:=n+2) (λw x=>h w (QE _ x)) (c7 g h1) (N9 g h2) (xG.mpr (.inr (.inr h3))) (tI (kG g.1) h4);rw[QAJ,QM,show n+2 * (ws.length+1)=n+2+2 * ws.length by omega];exact this
noncomputable def DS(g:Str)(n:Str):List Wy:=if n=g then[] else[(tO n,fR n,1),(UA,tO n,2)]
noncomputable def MV(g:Str)(e:Str×Str):List Wy:=if e.1=g∨e.1=e.2 then[] else[(tO e.1,fR e.1,1),(tO e.2,fR e.2,1),(fR e.1,tO e.2,2)]
def rH:Rm:=[(UA,[])]
def zA(es:rC)(st:LS)(g:Str):Rm:=(es.flatMap (MV g)).foldl ZB ((st.flatMap (DS g)).foldl ZB rH)
theorem Fv:(0:Int)<1:=by decide
theorem Py:(0:Int)<2:=by decide
theorem pY:(DS g n).9<=2:=by unfold DS;split;exact Qv _;exact QT _
theorem rY:(MV g e).9<=3:=by unfold MV;split;exact Qv _;exact QT _
theorem cM:∀w∈DS g n,FG w:=by
 intro w h;unfold DS at h;split at h;exact(nomatch h);rcases QK.mp h with rfl|h
 ·exact#[.inr (.inl #[n,rfl,rfl]),Fv]
 rw[QJ.mp h];exact#[.inl #[rfl,n,rfl],Py]
theorem dM:∀w∈MV g e,FG w:=by
 intro w x;unfold MV at x;split at x;exact(nomatch x);rename_i h;rcases QK.mp x with rfl|x;exact#[.inr (.inl #[e.1,rfl,rfl]),Fv];rcases QK.mp x with rfl|x
 ·exact#[.inr (.inl #[e.2,rfl,rfl]),Fv]
 rw[QJ.mp x];exact#[.inr (.inr #[e.1,e.2,λz=>h (.inr z),rfl,rfl]),Py]
theorem HN{α:Type}{f:α->List Wy}{k:Nat}(h:∀x,(f x).9<=k):∀(l:List α),(l.flatMap f).9<=k * l.9
 |[]=>QT _|x::l=>by have:=HN h l;have:=h x;rw[WD,QI,QM,Nat.mul_succ];omega
theorem xH{α:Type}{f:α->List Wy}(h:∀x,∀w∈f x,FG w)(l:List α):∀w∈l.flatMap f,FG w:=λw z=>by let#[x,_,y]:=wm.mp z;exact h x w y
structure RmOk(r:Rm)(n:Nat):Prop where
 pos:Pos r
 dom:Kb r
 bg:Key r UA
 sz:Sz r n
theorem eE:RmOk rH 1:=by
 have e:∀p,lk rH p=[]:=λp=>by show(if UA=p then jr [] else kv).getD []=[];split<;>rfl
 refine#[λp y x=>?_,λp q #[v,h]=>?_,#[[],a9 rfl],QT _,λp=>?_];rw[e]at x;exact(nomatch x);rw[e]at h;exact(nomatch h);rw[e];exact Qv _
theorem RmOk.add{r:Rm}{n:Nat}(h:RmOk r n){ws:List Wy}(g:∀w∈ws,FG w):RmOk (ws.foldl ZB r) (n+2 * ws.length):=by let#[u,z,y,x]:=ZV g h.pos h.dom h.bg h.sz;exact#[u,z,y,x]
theorem NT{es:rC}{st:LS}(z:es.9<=126)(y:st.9<=11):RmOk (zA es st g) 1000:=by have a:=(eE.add (xH (f:=DS g) (λ_=>cM) st)).add (xH (f:=MV g) (λ_=>dM) es);have x:=HN (f:=DS g) (k:=2) (λ_=>pY) st;have h:=HN (f:=MV g) (k:=3) (λ_=>rY) es;exact#[a.pos,a.dom,a.bg,QV a.sz.1 (),λp=>QV (a.sz.2 p) ()]
def Ch(r:Rm)(p q:Pt):Prop:=∃v,(q,v)∈lk r p/\0<v
inductive Rch(r:Rm):Pt->Prop
 |bg:Rch r UA
 |go {p q:Pt}:Rch r p->Ch r p q->Rch r q
theorem Ms:(p,q,v)∈DS g n↔n≠g/\((p,q,v)=(tO n,fR n,1)∨(p,q,v)=(UA,tO n,2)):=by unfold DS;split;rename_i h;exact#[λz=>(nomatch z),λz=>im h z.1];rename_i h;rw[QK,QJ];exact#[λz=>#[h,z],λz=>z.2]
theorem Os:(p,q,v)∈MV g e↔(e.1≠g/\e.1≠e.2)/\((p,q,v)=(tO e.1,fR e.1,1)∨(p,q,v)=(tO e.2,fR e.2,1)∨(p,q,v)=(fR e.1,tO e.2,2)):=by unfold MV;split;rename_i h;exact#[λz=>(nomatch z),λz=>h.elim (λh=>im h z.1.1) λh=>im h z.1.2];rename_i h;rw[QK,QK,QJ];exact#[λz=>#[#[λe=>h (.inl e),λe=>h (.inr e)],z],λz=>z.2]
theorem YE{cut:LS}{s:Str}:Me g cut s=kf↔s≠g/\s∉cut:=by unfold Me;rw[Qb,Q4,Q4,decide_eq_false_iff_not,decide_eq_false_iff_not]
end
section
variable{es:rC}{st:LS}{g:Str}{x:LS}
theorem ZN{s:Str}(h:Led es st g x s):s≠g/\s∉x:=by
 cases h with|st _ h=>exact YE.mp h|ed _ _ h=>exact YE.mp h
end
section
variable{r:Rm}{ks:List Pt}{vs:List D}
theorem E5:∀{ws:List Wy}{r:Rm}{n:Nat},(∀w∈ws,FG w)->Sz r n->Sz (ws.foldl ZB r) (n+2 * ws.length)
 |[],r,n,_,h4=>h4|w::ws,r,n,h,h4=>by have:=E5 (ws:=ws) (r:=ZB r w) (n:=n+2) (λw x=>h w (QE _ x)) (tI (kG (h w QD).1) h4);rw[QAJ,QM,show n+2 * (ws.length+1)=n+2+2 * ws.length by omega];exact this
inductive CF(r:Rm):List Pt->List D->Prop
 |bg:CF r [UA] [.none]
 |add {ks:List Pt}{vs:List D}{p q:Pt}:CF r ks vs->p∈ks->Ch r p q->q∉ks->CF r (ks++[q]) (vs++[pr p])
theorem CF.len(h:CF r ks vs):vs.9=ks.length:=by
 induction h with|bg=>rfl|add _ _ _ _ x=>rw[QI,QI,x];rfl
theorem CF.hb(h:CF r ks vs):UA∈ks:=by
 induction h with|bg=>exact QD|add _ _ _ _ x=>exact Qn _ x
theorem CF.rch(h:CF r ks vs):∀k∈ks,Rch r k:=by
 induction h with|bg=>intro k hk;rw[QJ.mp hk];exact .bg|add _ y w _ x=>intro k hk;rcases Qg.mp hk with z|z;exact x k z;rw[QJ.mp z];exact .go (x _ y) w
theorem CF.nd(h:CF r ks vs):ks.Nodup:=by
 induction h with
 |bg=>exact Qj.mpr #[λz=>(nomatch z),Qq]
 |add _ _ _ n x=>refine qZ.mpr #[x,Qj.mpr #[λz=>(nomatch z),Qq],λa y b hb z=>?_];rw[QJ.mp hb]at z;exact n (z▸y)
theorem FI(x:Kb r)(hb:Key r UA){p:Pt}(h:Rch r p):Key r p:=by
 cases h with|bg=>exact hb|go _ w=>let#[v,m,_]:=w;exact x _ _ #[v,m]
theorem GR{p:Pt}{l:Inn}:∀{r:Rm},look r p=jr l->p∈r.map (·.1)
 |[],h=>by cases h|e::r,h=>by by_cases c:e.1=p;rw[<- c];exact QD;rw[show look (e::r) p=look r p from a8 c]at h;exact QE _ (GR (r:=r) h)
theorem jH:∀{ks ns:List Pt},ks.Nodup->(∀s∈ks,s∈ns)->ks.9<=ns.9
 |[],_,_,_=>Qv _|s::r,ns,h,hs=>by let#[v,u]:=Qj.mp h;have z:=hs s QD;have:=jH (ks:=r) (ns:=ns.erase s) u λx y=>(QBW (λ(e:x=s)=>v (e▸y))).mpr (hs x (QE _ y));rw[QAn z]at this;have w:=QBA z;rw[QM];omega
theorem CF.le(y:Kb r)(hb:Key r UA)(h:CF r ks vs):ks.9<=r.length:=by
 have:=jH (ns:=r.map (·.1)) h.nd λs x=>by let#[l,e]:=FI y hb (h.rch s x);exact GR e
 rw[QC]at this;exact this
structure Srch(r:Rm)(ks:List Pt)(vs:List D)(ws:List Pt):Prop where
 cf:CF r ks vs
 sub:∀w∈ws,w∈ks
 clo:∀k∈ks,k∉ws->∀q,Ch r k q->q∈ks
structure Srch1(r:Rm)(here:Pt)(ks:List Pt)(vs:List D)(ws:List Pt)(l:Inn):Prop where
 cf:CF r ks vs
 sub:∀w∈ws,w∈ks
 clo:∀k∈ks,k∉ws->k≠here->∀q,Ch r k q->q∈ks
 her:here∈ks
 don:∀e∈lk r here,0<e.2->e.1∈ks∨e∈l
 all:∀e∈l,e∈lk r here
end
section
variable{r:Rm}{ks ws:List Pt}{vs:List D}
theorem nq:Srch r [UA] [.none] [UA]:=#[.bg,λ_ h=>h,λk h n=>im h n]
theorem Srch.pop{w:Pt}(h:Srch r ks vs (w::ws)):Srch1 r w ks vs ws (lk r w):=by refine#[h.cf,λx v=>h.sub x (QE _ v),λk hk n u=>h.clo k hk λz=>?_,h.sub w QD,λe y _=>.inr y,λe y=>y];rcases QK.mp z with z|z;exact u z;exact n z
theorem Srch1.skip{y:Pt}{e:Pt×Int}{l:Inn}(h:Srch1 r y ks vs ws (e::l))(c:0<e.2->e.1∈ks):Srch1 r y ks vs ws l:=by
 refine#[h.cf,h.sub,h.clo,h.her,λx u p=>?_,λx u=>h.all x (QE _ u)];rcases h.don x u p with z|z;exact .inl z;rcases QK.mp z with z|z
 ·rw[z]at p ⊢;exact .inl (c p)
 exact .inr z
theorem Srch1.add{u:Pt}{e:Pt×Int}{l:Inn}(h:Srch1 r u ks vs ws (e::l))(c:0<e.2)(n:e.1∉ks):Srch1 r u (ks++[e.1]) (vs++[pr u]) (ws++[e.1]) l:=by
 have f:=h.all e QD;refine#[h.cf.add h.her #[e.2,f,c] n,λx v=>?_,λk hk a b q w=>?_,Qn _ h.her,λx v p=>?_,λx v=>h.all x (QE _ v)];rcases Qg.mp v with z|z
 ·exact Qn _ (h.sub x z)
 exact QU _ z;rcases Qg.mp hk with z|z
 ·exact Qn _ (h.clo k z (λy=>a (Qn _ y)) b q w)
 exact im (QU _ z) a;rcases h.don x v p with z|z
 ·exact .inl (Qn _ z)
 rcases QK.mp z with z|z
 ·rw[z];exact .inl (QU _ QD)
 exact .inr z
theorem Srch1.fin{x:Pt}(h:Srch1 r x ks vs ws []):Srch r ks vs ws:=by refine#[h.cf,h.sub,λk hk n q w=>?_];by_cases e:k=x;subst e;let#[v,m,p]:=w;rcases h.don (q,v) m p with z|z;exact z;exact(nomatch z);exact h.clo k hk n e q w
theorem Srch.done(h:Srch r ks vs [])(p:Pt):p∈ks↔Rch r p:=by
 refine#[h.cf.rch p,λz=>?_];induction z with|bg=>exact h.cf.hb|go _ w x=>exact h.clo _ x (λz=>(nomatch z)) _ w
end
def eC(Q:T->LT->Prop):PEnds:={ nx:=λh=>ZW (HA [0] h) (Q (.d .none)),rt:=λt h=>ZW (HA [0] h) (Q t) }
theorem iK{Ψ:PEv}{b:PT}{p:PSp}{N x:LS}{ds:LT}{Q:T->LT->Prop}(ρ:xA)(h:pF Ψ b (eC Q) ρ)(hl:ds.9=x.length:=by rfl)(hc:XB 0 p.md x.9=[0]:=by rfl)(y:mB N p.md ds=ρ:=by rfl):ds.9=x.9/\pF Ψ b (PC p x.9 Q) (mB N p.md ds):=by
 have e:PC p x.9 Q=eC Q:=by unfold PC;rw[hc];rfl
 rw[e,y];exact#[hl,h]
def X4(r:Rm)(h t:Pt)(v:Int):xA:=[oW (fB r),bD (pr h),bD (pr t),bD (.int v)]
section
variable{Ψ:PEv}{Z:PEnds}{q:PT}{r:Rm}{h t:Pt}{v:Int}
theorem xy(hl:r.9<kn)(k:pF Ψ q Z (X4 (sdf r h) h t v)):pF Ψ (.seq (.sdf 0 (.var 1)) q) Z (X4 r h t v):=by delta X4 at k ⊢;simp![↓jA];refine#[rfl,GY hl ?_];exact k
theorem ky(hl:r.9<kn)(k:pF Ψ q Z (X4 (sdf r t) h t v)):pF Ψ (.seq (.sdf 0 (.var 2)) q) Z (X4 r h t v):=by delta X4 at k ⊢;simp![↓jA];refine#[rfl,GY hl ?_];exact k
theorem zy{l:Inn}(e:look r h=jr l)(hl:l.9<kn)(k:pF Ψ q Z (X4 (put r h (put l t v)) h t v)):pF Ψ (.seq (.six (.idx (.var 0) (.var 1)) (.var 2) (.var 3)) q) Z (X4 r h t v):=by delta X4 at k ⊢;simp![↓jA];refine aI e λf x=>aQ hl ?_;rw[x];exact k
theorem yy{l:Inn}(e:look r t=jr l)(hl:l.9<kn)(k:pF Ψ q Z (X4 (put r t (put l h 0)) h t v)):pF Ψ (.seq (.six (.idx (.var 0) (.var 2)) (.var 1) (.int 0)) q) Z (X4 r h t v):=by delta X4 at k ⊢;simp![↓jA];refine aI e λf x=>aQ hl ?_;rw[x];exact k
end
theorem JE{r:Rm}{p:Pt}(h:Key r p):look r p=jr (lk r p):=by let#[l,e]:=h;unfold lk;rw[e];rfl
def NG:PSp where
 md:=[.chg]
 run:=λh Q _=>∃(r:Rm) (w:Wy),h=[fB r,.d (pr w.1),.d (pr w.2.1),.d (.int w.2.2)]/\(w.1≠w.2.1/\Sz r 5000)/\Q (.d .none) [fB (ZB r w)]
theorem Sd{Ψ:PEv}:UD Ψ jQ NG nQ vN:=by rintro _ Q _ ⟨r,w,rfl,⟨z,h⟩,q⟩;refine iK (X4 r w.1 w.2.1 w.2.2) ?_;have a:=h.1;have k:=LQ (r:=r) (p:=w.1);have y:Key (sdf (sdf r w.1) w.2.1) w.1:=OD.mpr (.inr (OD.mpr (.inl rfl)));have x:Key (sdf (sdf r w.1) w.2.1) w.2.1:=OD.mpr (.inl rfl);have v:=h.2 w.1;have u:=h.2 w.2.1;refine xy () (ky () (zy (JE y) (by rw[xE,xE];omega) (yy (JE (dJ.mpr (.inr x))) (by rw[uE,a8 z,xE,xE];omega) ?_)));exact q
def XI:PSp where
 md:=[.chg]
 run:=λh Q _=>∃(r:Rm) (n:Str),h=[fB r,.d (.str n)]/\Sz r 5000/\Q (.d .none) [fB (ZB r (tO n,fR n,1))]
theorem Td{Ψ:PEv}(x:Ψ.sp "add_way"=NG):UD Ψ bI XI sO cL:=by rintro _ Q _ ⟨r,n,rfl,h,q⟩;refine iK [oW (fB r),bD (.str n)] ?_;delta bI;simp![↓cH (md:=[]) x rfl rfl];refine#[(),(),?_];exact#[_,(tO n,fR n,1),rfl,#[OA,h],#[_,rfl,q]]
def O4(es:rC)(st:LS)(g:Str)(r:Rm)(o4 o5 o6:Option Sl):xA:=[bD (.list (es.map pr)),bD (.tuple (st.map j0)),bD (.str g),oW (fB r),o4,o5,o6]
section
variable{Ψ:PEv}{Z:PEnds}{es:rC}{st:LS}{g:Str}{r:Rm}
theorem Gw(h:Ψ.va "BEGIN"=jr (pr UA)){q:PT}{o3 o4 o5 o6:Option Sl}(k:pF Ψ q Z (O4 es st g rH o4 o5 o6)) :
  pF Ψ (.seq (.own 3 (.dsp (.glo "BEGIN") (.dnew kf))) q) Z [bD (.list (es.map pr)),bD (.tuple (st.map j0)),bD (.str g),o3,o4,o5,o6]:=by
 simp![↓DH h];exact#[MB UA,k]
theorem Fw(b:Ψ.sp "add_name"=XI)(a:Ψ.sp "add_way"=NG)(v:Ψ.va "BEGIN"=jr (pr UA))(u:Ψ.va "WIDE"=jr (.int 2)){n:Str}{o5 o6:Option Sl}(h:Sz r 4900)(k:Z.nx (O4 es st g ((DS g n).foldl ZB r) (bD (.str n)) o5 o6)) :
  pF Ψ lF Z (O4 es st g r (bD (.str n)) o5 o6):=by
 delta O4 at k ⊢;delta lF;simp![↓DH v,↓DH u,↓cH (md:=[]) b rfl rfl,↓cH (md:=[]) a rfl rfl];by_cases e:n=g;rw[dT e];unfold DS at k;rw[a9 e]at k;exact k;rw[dF e];unfold DS at k;rw[a8 e]at k;have z:Sz r 5000:=#[QV h.1 (),λp=>QV (h.2 p) ()]
 have x:=tI (w:=(tO n,fR n,1)) OA h;have y:Sz (ZB r (tO n,fR n,1)) 5000:=#[QV x.1 (),λp=>QV (x.2 p) ()]
 refine#[_,_,rfl,z,#[_,rfl,?_]];refine#[(),?_];exact#[_,(UA,tO n,2),rfl,#[AB,y],#[_,rfl,k]]
theorem Dw(j:Ψ.sp "add_name"=XI)(i:Ψ.sp "add_way"=NG)(f:Ψ.va "WIDE"=jr (.int 2)){a b:Str}{o4:Option Sl}(y:Sz r 4900)(k:Z.nx (O4 es st g ((MV g (a,b)).foldl ZB r) o4 (bD (.str a)) (bD (.str b)))) :
  pF Ψ gF Z (O4 es st g r o4 (bD (.str a)) (bD (.str b))):=by
 delta O4 at k ⊢;delta gF;simp![↓DH f,↓cH (md:=[]) j rfl rfl,↓cH (md:=[]) i rfl rfl];unfold MV at k;by_cases e:a=g;rw[dT e];rw[a9 (.inl e)]at k;exact k;rw[dF e];by_cases h:a=b;rw[dT h];rw[a9 (.inr h)]at k;exact k;rw[dF h];rw[a8 (λz=>z.elim e h)]at k;have v:Sz r 5000:=#[QV y.1 (),λp=>QV (y.2 p) ()]
 have x:=tI (w:=(tO a,fR a,1)) OA y;have u:=tI (w:=(tO b,fR b,1)) OA x;refine#[_,_,rfl,v,#[_,rfl,?_]];refine#[_,_,rfl,#[QV x.1 (),λp=>QV (x.2 p) ()],#[_,rfl,?_]];refine#[(),(),?_];exact#[_,(fR a,tO b,2),rfl,#[OA.symm,#[QV u.1 (),λp=>QV (u.2 p) ()]],#[_,rfl,k]]
end
section
variable{Ψ:PEv}{r:Rm}{p q:Pt}{l:Inn}{n m:Bool}{R:T->Prop}{W:LT->Prop}{E:XE}{ρ:xA}{b:PX}{M:List (T×Bool)->xA->Prop}{md:List Md}{ks:List Pt}{vs:List D}
def YI:PSp where
 run:=λx Q _=>∃(h:rC) (st:LS) (g:Str),x=[.d (.list (h.map pr)),.d (.tuple (st.map j0)),.d (.str g)]/\(h.9<=126/\st.9<=11)/\Q (fB (zA h st g)) []
theorem T1(o:Ψ.sp "add_name"=XI)(j:Ψ.sp "add_way"=NG)(i:Ψ.va "BEGIN"=jr (pr UA))(f:Ψ.va "WIDE"=jr (.int 2)):UD Ψ kO YI gO yL:=by rintro _ Q _ ⟨h,st,g,rfl,⟨Y,X⟩,q⟩;refine kA [bD (.list (h.map pr)),bD (.tuple (st.map j0)),bD (.str g),kv,kv,kv,kv] ?_;refine Gw i ?_;delta O4;simp![↓jA];rw[<- gA];refine LA (λ(s:Str)=>T.d (.str s)) (λl ρ=>∃r x,RmOk r (1+4 * (11 - l.9))/\l.9<=11/\(l.flatMap (DS g)).foldl ZB r=(st.flatMap (DS g)).foldl ZB rH/\ρ=O4 h st g r x kv kv) ?_ ?_ _ _ #[rH,_,?_,X,rfl,rfl];rintro ρ ⟨r,x,ok,_,e,rfl⟩;have e:r=(st.flatMap (DS g)).foldl ZB rH:=e;delta O4;simp![↓jA];rw[<- gA];refine LA (λ(p:Str×Str)=>T.d (pr p)) (λl ρ=>∃r v u,Sz r (45+6 * (126 - l.9))/\l.9<=126/\(l.flatMap (MV g)).foldl ZB r=zA h st g/\ρ=O4 h st g r (VN x) v u) ?_ ?_ _ _ #[r,_,_,?_,Y,by rw[e];rfl,rfl];rintro ρ ⟨r,v,u,_,_,e,rfl⟩;have e:r=zA h st g:=e;subst e;delta O4;simp![↓jA];exact q;rintro⟨a,b⟩ l ρ N k ⟨r,v,u,s,w,e,rfl⟩;rw[QM]at s w;rw[WD,wG]at e;refine AE.mk rfl ?_;refine Dw (a:=a) (b:=b) o j f #[QV s.1 (),λp=>QV (s.2 p) ()] (k _ #[_,_,_,?_,(),e,rfl]);have z:Sz ((MV g (a,b)).foldl ZB r) (45+6 * (126 - (l.9+1))+2 * (MV g (a,b)).9):=E5 dM s;have y:=rY (g:=g) (e:=(a,b));exact#[QV z.1 (),λp=>QV (z.2 p) ()];exact#[QV ok.sz.1 (by rw[wV];omega),λp=>QV (ok.sz.2 p) (by rw[wV];omega)];rintro s l ρ N k ⟨r,x,ok,w,e,rfl⟩;rw[QM]at ok w;rw[WD,wG]at e;refine Fw (n:=s) o j i f #[QV ok.sz.1 (),λp=>QV (ok.sz.2 p) ()] (k _ #[_,_,?_,(),e,rfl]);have z:=ok.add (ws:=DS g s) cM;have y:=pY (g:=g) (n:=s);exact#[z.pos,z.dom,z.bg,QV z.sz.1 (),λp=>QV (z.sz.2 p) ()];exact#[eE.pos,eE.dom,eE.bg,QV eE.sz.1 (),λp=>QV (eE.sz.2 p) ()]
def mX(l:Inn):D:=.dict (l.map λe=>(pr e.1,.int e.2))
def zm(r:Rm):List (D×D):=r.map λe=>(pr e.1,mX e.2)
theorem B3(h:look r p=jr l):OC (zm r)=jr true:=by
 cases r with|nil=>cases h|cons e r=>rfl
theorem k9(l:Inn):(l.map λe=>(pr e.1,j1 e.2))=[]∨OC (l.map λe=>(pr e.1,j1 e.2))=jr true:=by
 cases l with|nil=>exact .inl rfl|cons e r=>exact .inr rfl
theorem Ii(h:Key r p)(k:R (.d (mX (lk r p)))):XA (.d (.dict (zm r))) n (.d (pr p)) m R:=by
 have e:=JE h;let#[i,u,y,_]:=sC (λl=>T.d (mX l)) e;have w:(zm r).map (·.1)=XC r:=by unfold zm XC;rw[QW];rfl
 refine Vp (B3 e) (MB p) (by rw[w];exact u) ?_ k;have v:(zm r).map (·.2)=r.map λe=>mX e.2:=by unfold zm;rw[QW];rfl
 rw[v];rw[Qa]at y ⊢;cases z:r[i]? with|none=>rw[z]at y;cases y|some x=>rw[z]at y;injection y with y;injection y with y;show jr (mX x.2)=_;rw[y]
theorem Rp:mL .itm [(.d (mX l),n)] W=W (l.map λe=>.d (.tuple [pr e.1,.int e.2])):=by unfold mX;rw[Pp (k9 l),QW];rfl
theorem cI{K:TK}:ub (fB r) kd Ψ b E ρ K=oB Ψ b E (lockA ρ) λy m _=>K y m ρ:=rfl
theorem y0{K:TK}:ub (eD l) kd Ψ b E ρ K=oB Ψ b E (lockA ρ) λy m _=>K y m ρ:=rfl
theorem VS:cb (fB r) kd Ψ b E md ρ M=uN Ψ b E md (lockA ρ) λxs _=>M xs ρ:=rfl
theorem Ta:cb (eD l) kd Ψ b E md ρ M=uN Ψ b E md (lockA ρ) λxs _=>M xs ρ:=rfl
def Yo(t:T)(r:Rm):Prop:=t=fB r∨t=.d (.dict (zm r))
theorem Xp{b:Bool}{ks:List D}{ts:LT}{n m:Bool}{k:D}{l:Nat}{t:T}(z:aD b k)(y:cA ks k=jr l)(x:ts[l]?=jr t)(h:R t):XA (.dct b ks ts) kd (.d k) m R:=.inr #[b,ks,ts,l,t,rfl,z,y,x,h]
theorem NE(h:Key r p)(k:R (eD (lk r p))):XA (fB r) kd (.d (pr p)) m R:=by let#[i,y,x,_]:=sC eD (JE h);exact Xp (n:=kd) (MB p) y x k
theorem oQ{v:Int}(h:look l p=jr v)(k:R (.d (.int v))):XA (eD l) kd (.d (pr p)) m R:=by let#[i,y,x,_]:=sC (λv:Int=>T.d (.int v)) h;exact Xp (n:=kd) (MB p) y x k
theorem aY(l:Inn):HG (l.map λe=>T.d (.int e.2))=jr (l.map λe=>.int e.2):=by rw[show(l.map λe=>T.d (.int e.2))=(l.map λe=>j1 e.2).map T.d by rw[QW];rfl,KA]
theorem kj:mL .itm [(eD l,kd)] W=W (l.map λe=>.d (.tuple [pr e.1,.int e.2])):=by
 refine(VU _ _).trans ?_;have e:((XC l).zip (l.map λe=>j1 e.2)).map (λp=>T.d (.tuple [p.1,p.2]))=l.map λe=>T.d (.tuple [pr e.1,.int e.2]):=by unfold XC;rw[List.zip_map',QW];rfl
 refine ir #[λ#[x,h,k]=>?_,λk=>#[_,aY l,by rw[e];exact k]];rw[aY]at h;cases h;rw[e]at k;exact k
theorem Lb{a:PX}:GF (.idx a b)=GF a:=rfl
theorem yo:YS [(eD l,kd)]=false:=rfl
noncomputable def sf(ks:List Pt)(vs:List D):T:=.dct kf (ks.map pr) (vs.map T.d)
theorem AQ:pr q∈ks.map pr↔q∈ks:=by constructor;intro h;let#[x,y,e]:=QR.mp h;rw[<- EQ e];exact y;exact QAK
theorem uH(ks:List Pt)(q:Pt):(cA (ks.map pr) (pr q)).isSome=decide (q∈ks):=by rw[qA,iX,AQ,i0]
theorem rj{x:D}{Q:T->Prop}(n:q∉ks)(hl:ks.9<kn)(k:Q (sf (ks++[q]) (vs++[x]))):dg (sf ks vs) (.d (pr q)) (.d x) Q:=by refine#[MB q,by rw[QC];exact hl,?_];show Q (xK kf (ks.map pr) (vs.map T.d) (pr q) (.d x));unfold xK;rw[kB.mpr (λz=>n (AQ.mp z))];unfold sf at k;rw[QO,QO]at k;exact k
theorem Vn{L:Bool->Prop}:KB .NotIn (.d (pr q)) (sf ks vs) L=L (!decide (q∈ks)):=by unfold sf;rw[jO,uH];exact ir #[λh=>h.2,λh=>#[MB q,h]]
def sP(h:T)(ks:List Pt)(vs:List D)(ws:List Pt)(o3 o4 o5:Option Sl):xA:=[jr (.bor h),jr (.own (sf ks vs)),jr (.own (.lst ((ws.map pr).map T.d))),o3,o4,o5]
end
section
variable{Ψ:PEv}{Z:PEnds}{x:T}{r:Rm}{ks ws:List Pt}{vs:List D}
section
variable{w:Pt}{o3 o4 o5:Option Sl}
theorem Tw{p q:Pt}{v:Int}(hl:ks.9<kn)(a:ws.length<kn)(u:(0<v->q∈ks)->Z.nx (sP x ks vs ws (bD (pr p)) (bD (pr q)) (bD (.int v))))
  (k:0<v->q∉ks->Z.nx (sP x (ks++[q]) (vs++[pr p]) (ws++[q]) (bD (pr p)) (bD (pr q)) (bD (.int v)))) :
  pF Ψ xB Z (sP x ks vs ws (bD (pr p)) (bD (pr q)) (bD (.int v))):=by
 delta sP at u k ⊢;delta xB;simp![↓Vn];by_cases h:0<v;rw[dT h];by_cases y:q∈ks;rw[dT y];exact u λ_=>y;rw[dF y];simp only[wn,↓reduceIte];refine rj y hl ?_;refine#[by rw[QC,QC];exact a,?_];have:=k h y;rw[QO,QO]at this;exact this;rw[dF h];exact u λz=>im z h
theorem Oj{q:PT}(k:pF Ψ q Z (sP x ks vs ws (bD (pr w)) o4 o5)) :
  pF Ψ (.seq (.set 3 (.mt .pop (.var 2) %[.int 0|1])) q) Z (sP x ks vs (w::ws) o3 o4 o5):=by
 delta sP at k ⊢;simp![↓jA];refine#[0,.d (pr w),?_,rfl,rfl,k];unfold HS;rw[a9 (by decide),a9 (by rw[QC,QC,QM];omega)];rfl
theorem Pj(y:Yo x r)(hk:Key r w)
  (k:EH (pF Ψ xB) (.tp [4,5]) { Z with nx:=λh=>Z.nx (kill [4,5] h) } ((lk r w).map λe=>T.d (.tuple [pr e.1,.int e.2])) (sP x ks vs ws (bD (pr w)) o4 o5)) :
  pF Ψ %[.for_ (.tp [4,5]) .itm %[.idx (.var 0) (.var 3)|1] xB|2] Z (sP x ks vs ws (bD (pr w)) o4 o5):=by
 rcases y with rfl|rfl;delta sP at k ⊢;simp![↓cI];refine NE hk ?_;simp![↓Ta,↓kj,yo,Lb];exact k;delta sP at k ⊢;simp![↓jA];refine Ii hk ?_;simp![↓Rp];exact k
theorem Sw(m:Yo x r)(a:Kb r)(hb:Key r UA)(W:r.9<=1000)(h:Srch r ks vs (w::ws))(K:2 * (r.9 - ks.9)+ws.length+1<=3000)
  (o:∀z u y o3 o4 o5,Srch r z u y->2 * (r.9 - z.9)+y.9<=2 * (r.9 - ks.9)+ws.length->Z.nx (sP x z u y o3 o4 o5)) :
  pF Ψ JD Z (sP x ks vs (w::ws) o3 o4 o5):=by
 have A:kn=16777216:=Q6;refine Oj ?_;have X:=h.pop;have hk:Key r w:=FI a hb (h.cf.rch w (h.sub w QD));refine Pj m hk ?_;refine LA (λ(e:Pt×Int)=>T.d (.tuple [pr e.1,.int e.2])) (λl k=>∃z u y o4 o5,Srch1 r w z u y l/\2 * (r.9 - z.9)+y.9<=2 * (r.9 - ks.9)+ws.length/\k=sP x z u y (bD (pr w)) o4 o5) ?_ ?_ _ _ #[ks,vs,ws,_,_,X,QT _,rfl];rintro k ⟨z,u,y,g,f,s,l,rfl⟩;exact o z u y _ (VN g) (VN f) s.fin l;rintro⟨q,v⟩ l k N i ⟨z,u,y,g,f,s,e,rfl⟩;refine AE.mk rfl ?_;have Y:=s.cf.le a hb;refine Tw (p:=w) (q:=q) (v:=v) () () (λc=>i _ #[z,u,y,_,_,s.skip c,e,rfl]) λc n=>?_;have b:=s.add c n;have j:=b.cf.le a hb;rw[QI,qF]at j;exact i _ #[_,_,_,_,_,b,by rw[QI,QI,qF];omega,rfl]
theorem Aw(h:Ψ.va "BEGIN"=jr (pr UA)){q:PT}(k:pF Ψ q Z (sP x [UA] [.none] [UA] kv kv kv)) :
  pF Ψ (.seq (.own 1 (.dsp (.glo "BEGIN") .non)) (.seq (.own 2 (.lst %[.glo "BEGIN"|1])) q)) Z [jr (.bor x),kv,kv,kv,kv,kv]:=by
 have y:kn=16777216:=Q6;simp![↓DH h];exact#[MB UA,(),k]
end
end
theorem mI{Ψ:PEv}{E:XE}{c:PX}{q:PT}{Z:PEnds}{ρ:xA}(W:Nat->xA->Prop)(m:Nat)(u:W m ρ)(z:∀m ρ,W m ρ->IQ Ψ c E ρ λb x=>if b=kf then iB Ψ E q { Z with nx:=λh=>∃y,y < m/\W y h,ct:=λh=>∃y,y < m/\W y h,bk:=Z.nx } x else Z.nx x):Cp Ψ E c q Z ρ:=#[W,#[m,u],z]
def NF:PSp where
 md:=[.bor]
 run:=λz Q _=>∃(y:T) (r:Rm),z=[y]/\(Yo y r/\Kb r/\Key r UA/\r.9<=1000)/\∀h x,CF r h x->(∀p,p∈h↔Rch r p)->Q (sf h x) []
theorem A7{Ψ:PEv}(j:Ψ.va "BEGIN"=jr (pr UA)):UD Ψ FE NF GE HD:=by
 rintro _ Q _ ⟨k,r,rfl,⟨l,i,hb,g⟩,q⟩;refine kA [jr (.bor k),kv,kv,kv,kv,kv] ?_;refine Aw j ?_;delta sP;simp![↓jA];refine mI (λm v=>m<=3000/\∃h x ws o3 o4 o5,Srch r h x ws/\m=2 * (r.9 - h.9)+ws.length/\v=sP k h x ws o3 o4 o5) (2 * (r.9 - 1)+1) #[(),[UA],[.none],[UA],kv,kv,kv,nq,rfl,rfl] ?_;rintro m v ⟨o,h,x,ws,o3,o4,o5,s,e,rfl⟩;cases ws with|nil=>delta sP;simp![QC];rw[dF ()];simp![↓jA];exact q h x s.cf s.done|cons w ws=>rw[QM]at e;have a:=λ(Z:PEnds) f=>Sw (Ψ:=Ψ) (Z:=Z) (o3:=o3) (o4:=o4) (o5:=o5) l i hb g s () f;unfold sP at a;delta sP;simp![QC];rw[dT ()];refine a _ λu z y o3 o4 o5 b n=>#[_,(),(),u,z,y,o3,o4,o5,b,rfl,rfl]
theorem Uf{α:Type}{x:α}{r:List α}:uD (x::r) 0=jr x:=iF (j:=0) rfl
theorem lu{α:Type}{x y:α}{r:List α}:uD (x::y::r) 1=jr y:=iF (j:=1) rfl
def sm:List Pt->(Pt->Int)->Int
 |[],_=>0|x::l,f=>f x+sm l f
section
variable{f g:Pt->Int}
theorem jB:∀{l:List Pt},(∀x∈l,f x=g x)->sm l f=sm l g
 |[],_=>rfl|x::l,h=>by show f x+sm l f=g x+sm l g;rw[h x QD,jB λy z=>h y (QE _ z)]
theorem LH:∀(l:List Pt),sm l (λx=>f x+g x)=sm l f+sm l g
 |[]=>rfl|x::l=>by show f x+g x+sm l _=f x+sm l f+(g x+sm l g);rw[LH l];omega
theorem yK:∀(l:List Pt),sm l (λx=>- f x)=- sm l f
 |[]=>rfl|x::l=>by show - f x+sm l _=- (f x+sm l f);rw[yK l];omega
theorem OG:∀(l:List Pt),sm l (λ_=>0)=0
 |[]=>rfl|x::l=>by show 0+sm l _=0;rw[OG l];rfl
theorem dP:∀{l:List Pt},(∀x∈l,0<=f x)->0<=sm l f
 |[],_=>QCe _|x::l,h=>by have v:=h x QD;have u:=dP (l:=l) λy z=>h y (QE _ z);show 0<=f x+sm l f;omega
theorem HH:∀{l:List Pt},(∀x∈l,0<=f x)->∀{y:Pt},y∈l->f y<=sm l f
 |x::l,h,y,z=>by have w:=h x QD;have u:∀y∈l,0<=f y:=λy z=>h y (QE _ z);show f y<=f x+sm l f;rcases QK.mp z with e|e;have v:=dP u;rw[e];omega;have v:=HH u e;omega
theorem t6:∀{l:List Pt},(∀x∈l,0<=f x)->∀{y z:Pt},y∈l->z∈l->y≠z->f y+f z<=sm l f
 |x::l,h,y,z,v,hz,ne=>by
  have a:=h x QD;have w:∀y∈l,0<=f y:=λy v=>h y (QE _ v);show f y+f z<=f x+sm l f;rcases QK.mp v with e|e;rcases QK.mp hz with u|u
  ·exact im (e.trans u.symm) ne
  have k:=HH w u;rw[e];omega;rcases QK.mp hz with u|u
  ·have k:=HH w e
   rw[u];omega
  have k:=t6 w e u ne;omega
theorem e6:∀{l:List Pt},0<sm l f->∃x∈l,0<f x
 |[],h=>im h (wj 0)|x::l,h=>by by_cases c:0<f x;exact#[x,QD,c];have h:0<f x+sm l f:=h;let#[y,z,p]:=e6 (l:=l) ();exact#[y,QE _ z,p]
theorem BY{k:Pt->Pt->Int}{m:List Pt}:∀(l:List Pt),sm l (λx=>sm m λy=>k x y)=sm m λy=>sm l λx=>k x y
 |[]=>(OG m).symm|x::l=>by show sm m (λy=>k x y)+sm l _=sm m λy=>k x y+sm l λx=>k x y;rw[BY l,LH]
theorem FQ{u:Pt}{k:Int}:∀{l:List Pt},u∉l->sm l (λx=>if x=u then k else 0)=0
 |[],_=>rfl|x::l,h=>by show(if x=u then k else 0)+sm l _=0;rw[a8 (λ(e:x=u)=>h (e▸QD)),FQ λz=>h (QE _ z)];rfl
theorem zK{u:Pt}{k:Int}:∀{l:List Pt},l.Nodup->u∈l->sm l (λx=>if x=u then k else 0)=k
 |x::l,nd,h=>by let#[v,y]:=Qj.mp nd;show(if x=u then k else 0)+sm l _=k;by_cases e:x=u;rw[a9 e,FQ (by rw[<- e];exact v)];omega;rw[a8 e,zK y ((QK.mp h).resolve_left λz=>e z.symm)];omega
theorem mT(p:Pt->Bool):∀(l:List Pt),sm l f=sm (l.filter p) f+sm (l.filter λx=>!p x) f
 |[]=>rfl|x::l=>by
  show f x+sm l f=_;rw[WN,WN,mT p l];cases p x with|true=>show _=(f x+sm (l.filter p) f)+sm (l.filter λx=>!p x) f;omega|false=>show _=sm (l.filter p) f+(f x+sm (l.filter λx=>!p x) f);omega
theorem vc{a:Pt->Pt->Int}(l:List Pt)(h:∀x∈l,∀y∈l,a x y=- a y x):sm l (λx=>sm l λy=>a x y)=0:=by
 have w:sm l (λx=>sm l λy=>a x y)=sm l λy=>sm l λx=>a x y:=BY l;have v:(sm l λy=>sm l λx=>a x y)=- sm l (λy=>sm l λx=>a y x):=by rw[<- yK];refine jB λy z=>?_;rw[<- yK];exact jB λx u=>h x u y z
 omega
end
section
variable{p q u v:Pt}{r:Rm}{w:Wy}{es:rC}{st:LS}{g:Str}
def rm(r:Rm)(p q:Pt):Int:=(look (lk r p) q).getD 0
def fI(r:Rm)(p q:Pt):Prop:=∃v,look (lk r p) q=jr v
def Lf(r:Rm):Prop:=∀p,((lk r p).map (·.1)).Nodup
theorem yH{α:Type}{q:Pt}{v:α}:∀{l:List (Pt×α)},look l q=jr v->(q,v)∈l
 |[],h=>by cases h|e::l,h=>by by_cases c:e.1=q;rw[show look (e::l) q=jr e.2 from a9 c]at h;injection h with h;rw[<- c,<- h];exact QD;rw[show look (e::l) q=look l q from a8 c]at h;exact QE _ (yH h)
theorem OR{α:Type}{q:Pt}{v:α}:∀{l:List (Pt×α)},(l.map (·.1)).Nodup->(q,v)∈l->look l q=jr v
 |e::l,nd,h=>by let#[k,y]:=Qj.mp nd;rcases QK.mp h with c|c;rw[<- c];exact a9 rfl;have x:e.1≠q:=λz=>k (QR.mpr #[(q,v),c,z.symm]);rw[show look (e::l) q=look l q from a8 x];exact OR y c
theorem put_keys{α:Type}{p:Pt}{w:α}:∀{l:List (Pt×α)},(put l p w).map (·.1)=if p∈l.map (·.1) then l.map (·.1) else l.map (·.1)++[p]
 |[]=>rfl|e::l=>by by_cases c:e.1=p;rw[show put (e::l) p w=(e.1,w)::l from a9 c,a9 (by rw[<- c];exact QD)];rfl;rw[show put (e::l) p w=e::put l p w from a8 c];rw[QX,QX,put_keys];by_cases h:p∈l.map (·.1);rw[a9 h,a9 (QE _ h)];rw[a8 h,a8 (λz=>(QK.mp z).elim (λz=>c z.symm) h)];rfl
theorem SG{α:Type}{w:α}{l:List (Pt×α)}(h:(l.map (·.1)).Nodup):((put l p w).map (·.1)).Nodup:=by rw[put_keys];split;exact h;rename_i n;refine qZ.mpr #[h,Qj.mpr #[λz=>(nomatch z),Qq],λa x b hb z=>?_];rw[QJ.mp hb]at z;exact n (z▸x)
theorem EV(nd:Lf r):Ch r p q↔0<rm r p q:=by
 unfold Ch rm;constructor;rintro⟨v,m,h⟩;rw[OR (nd p) m];exact h;intro h;cases e:look (lk r p) q with|none=>rw[e]at h;exact im h (wj 0)|some v=>rw[e]at h;exact#[v,yH e,h]
def B1(r:Rm)(u v:Pt):Rm:=put (put r u (put (lk r u) v (rm r u v - 1))) v (put (lk (put r u (put (lk r u) v (rm r u v - 1))) v) u (rm (put r u (put (lk r u) v (rm r u v - 1))) v u+1))
theorem xX(h:u≠v)(p:Pt):lk (B1 r u v) p=if v=p then put (lk r v) u (rm r v u+1) else if u=p then put (lk r u) v (rm r u v - 1) else lk r p:=by
 have e:rm (put r u (put (lk r u) v (rm r u v - 1))) v u=rm r v u:=by unfold rm;rw[uE,a8 h]
 unfold B1;rw[e,uE,uE,uE,a8 h]
theorem sW(h:u≠v)(p q:Pt):rm (B1 r u v) p q=rm r p q+(if p=v/\q=u then 1 else 0) - (if p=u/\q=v then 1 else 0):=by show(look (lk (B1 r u v) p) q).getD 0=_;rw[xX h];by_cases y:v=p;rw[a9 y,sD,a8 (c:=p=u/\q=v) (λz=>h (z.1.symm.trans y.symm))];by_cases x:u=q;rw[a9 x,a9 #[y.symm,x.symm],<- y,<- x];show rm r v u+1=rm r v u+1 - 0;omega;rw[a8 x,a8 (λz=>x z.2.symm),y];show rm r p q=rm r p q+0 - 0;omega;rw[a8 y,a8 (c:=p=v/\q=u) (λz=>y z.1.symm)];by_cases x:u=p;rw[a9 x,sD];by_cases k:v=q;rw[a9 k,a9 #[x.symm,k.symm],<- x,<- k];show rm r u v - 1=rm r u v+0 - 1;omega;rw[a8 k,a8 (λz=>k z.2.symm),x];show rm r p q=rm r p q+0 - 0;omega;rw[a8 x,a8 (λz=>x z.1.symm)];show rm r p q=rm r p q+0 - 0;omega
theorem rB:fI r p q↔z5 r p q:=by
 unfold fI z5;constructor;rintro⟨v,h⟩;exact#[v,yH h];rintro⟨v,h⟩;generalize lk r p=l at h;induction l with
 |nil=>exact(nomatch h)
 |cons e l x =>
  by_cases c:e.1=q;exact#[e.2,a9 c];rcases QK.mp h with z|z
  ·exact im (by rw[<- z]) c
  let#[w,y]:=x z;exact#[w,(show look (e::l) q=look l q from a8 c).trans y]
theorem Ff(h:u≠v)(a:fI r u v)(k:fI r v u):fI (B1 r u v) p q↔fI r p q:=by unfold fI;rw[xX h];by_cases y:v=p;rw[a9 y,sD];by_cases x:u=q;rw[a9 x,<- y,<- x];exact#[λ_=>k,λ_=>#[_,rfl]];rw[a8 x,y];rw[a8 y];by_cases x:u=p;rw[a9 x,sD];by_cases z:v=q;rw[a9 z,<- x,<- z];exact#[λ_=>a,λ_=>#[_,rfl]];rw[a8 z,x];rw[a8 x]
theorem ve(h:u≠v)(nd:Lf r):Lf (B1 r u v):=by
 intro p;rw[xX h];split;exact SG (nd v);split
 ·exact SG (nd u)
 exact nd p
theorem NQ(h:¬ fI r p q):rm r p q=0:=by
 unfold rm;cases e:look (lk r p) q with|none=>rfl|some v=>exact im #[v,e] h
def uv(p q:Pt)(v:Int):Prop:=(∃n,p=tO n/\q=fR n/\v=1)∨(∃n,p=UA/\q=tO n/\v=2)∨(∃a b,a≠b/\p=fR a/\q=tO b/\v=2)∨(¬ j5 p q/\v=0)
def Uo(P:Pt->Pt->Int->Prop)(r:Rm):Prop:=∀p,∀e∈lk r p,P p e.1 e.2
theorem x4{P:Pt->Pt->Int->Prop}(a:w.1≠w.2.1)(f:P w.1 w.2.1 w.2.2)(b:P w.2.1 w.1 0)(h:Uo P r):Uo P (ZB r w):=by intro p e x;rw[bJ a]at x;by_cases k:w.2.1=p;rw[a9 k]at x;rcases LI x with z|z;rw[z,<- k];exact b;exact h p e z;rw[a8 k]at x;by_cases y:w.1=p;rw[a9 y]at x;rcases LI x with z|z;rw[z,<- y];exact f;exact h p e z;rw[a8 y]at x;exact h p e x
theorem JT(h:(r.map (·.1)).Nodup):((sdf r p).map (·.1)).Nodup:=by
 unfold sdf;cases e:look r p with|some v=>exact h|none=>show(List.map (λe:Pt×Inn=>e.1) (r++[(p,[])])).Nodup;rw[QO];refine qZ.mpr #[h,Qj.mpr #[λz=>(nomatch z),Qq],λa y b hb z=>?_];have hb:b=p:=QJ.mp hb;rw[z,hb]at y;let#[x,k,f]:=QR.mp y;have:=OR h (show(p,x.2)∈r by rw[<- f];exact k);rw[e]at this;cases this
theorem i8(x:w.1≠w.2.1)(h:Lf r):Lf (ZB r w):=by
 intro p;rw[bJ x];split;exact SG (h p);split
 ·exact SG (h p)
 exact h p
theorem bB:Key r p↔p∈r.map (·.1):=by
 constructor;rintro⟨l,e⟩;exact GR e;intro h;induction r with
 |nil=>exact(nomatch h)
 |cons e r x =>
  by_cases c:e.1=p;exact#[e.2,a9 c];rcases QK.mp h with z|z
  ·exact im z.symm c
  let#[l,hl]:=x z;exact#[l,(show look (e::r) p=look r p from a8 c).trans hl]
structure Tbl0(r:Rm):Prop where
 ndk:(r.map (·.1)).Nodup
 ndi:Lf r
 cap:Uo uv r
 kind:∀p,Key r p->p=UA∨∃n,p=tO n∨p=fR n
 sym:∀p q,z5 r p q->z5 r q p/\Key r p
theorem eU(h:j5 p q):(p=UA∨∃n,p=tO n∨p=fR n)/\(q=UA∨∃n,q=tO n∨q=fR n):=by
 rcases h with⟨h,n,e⟩| ⟨n,h,e⟩| ⟨a,b,_,h,e⟩
 exact#[.inl h,.inr #[n,.inl e]];exact#[.inr #[n,.inl h],.inr #[n,.inr e]];exact#[.inr #[a,.inr h],.inr #[b,.inl e]]
theorem Ab(k:j5 w.1 w.2.1)(f:uv w.1 w.2.1 w.2.2)(t:Tbl0 r):Tbl0 (ZB r w):=by
 have y:=kG k;refine#[?_,i8 y t.ndi,x4 y f (.inr (.inr (.inr #[vF k,rfl]))) t.cap,λp h=>?_,λp q h=>?_];unfold ZB;exact SG (SG (JT (JT t.ndk)));rcases xG.mp h with z|z|z
 ·rw[z];exact(eU k).1
 rw[z];exact(eU k).2;exact t.kind p z;rw[sJ y,xG];rcases(sJ y).mp h with z|⟨x,a⟩| ⟨x,a⟩
 let#[e,b]:=t.sym p q z;exact#[.inl e,.inr (.inr b)];exact#[.inr (.inr #[a,x]),.inl x];exact#[.inr (.inl #[a,x]),.inr (.inl x)]
theorem ZY:∀{ws:List Wy}{r:Rm},(∀w∈ws,j5 w.1 w.2.1/\uv w.1 w.2.1 w.2.2)->Tbl0 r->Tbl0 (ws.foldl ZB r)
 |[],_,_,t=>t|w::ws,r,h,t=>ZY (ws:=ws) (λw x=>h w (QE _ x)) (Ab (h w QD).1 (h w QD).2 t)
theorem yM{p:Pt}:∀{ws:List Wy}{r:Rm},Key (ws.foldl ZB r) p↔Key r p∨∃w∈ws,p=w.1∨p=w.2.1
 |[],r=>#[.inl,λz=>z.elim id λ#[_,m,_]=>(nomatch m)]
 |w::ws,r=>by
  rw[QAJ,yM (ws:=ws),xG];constructor;rintro((z|z|z)|⟨x,m,z⟩)
  ·exact .inr #[w,QD,.inl z]
  exact .inr #[w,QD,.inr z];exact .inl z;exact .inr #[x,QE _ m,z];rintro(z|⟨x,m,z⟩)
  ·exact .inl (.inr (.inr z))
  rcases QK.mp m with rfl|m
  ·rcases z with z|z
   ·exact .inl (.inl z)
   exact .inl (.inr (.inl z))
  exact .inr #[x,m,z]
def L4(es:rC)(st:LS)(g:Str):List Wy:=st.flatMap (DS g)++es.flatMap (MV g)
theorem tE:zA es st g=(L4 es st g).foldl ZB rH:=by unfold zA L4;rw[wG]
theorem bE{v:Int}:(p,q,v)∈L4 es st g↔(∃n∈st,n≠g/\((p,q,v)=(tO n,fR n,1)∨(p,q,v)=(UA,tO n,2)))∨(∃e∈es,(e.1≠g/\e.1≠e.2)/\((p,q,v)=(tO e.1,fR e.1,1)∨(p,q,v)=(tO e.2,fR e.2,1)∨(p,q,v)=(fR e.1,tO e.2,2))):=by
 unfold L4;rw[Qg,wm,wm];constructor;rintro(⟨n,m,h⟩| ⟨e,m,h⟩)
 ·exact .inl #[n,m,Ms.mp h]
 exact .inr #[e,m,Os.mp h];rintro(⟨n,m,h⟩| ⟨e,m,h⟩)
 ·exact .inl #[n,m,Ms.mpr h]
 exact .inr #[e,m,Os.mpr h]
theorem jC:∀w∈L4 es st g,j5 w.1 w.2.1/\uv w.1 w.2.1 w.2.2:=by
 rintro⟨p,q,v⟩ h;rcases bE.mp h with⟨n,_,_,e|e⟩| ⟨e,_,⟨_,x⟩,z|z|z⟩
 cases e;exact#[.inr (.inl #[n,rfl,rfl]),.inl #[n,rfl,rfl,rfl]];cases e;exact#[.inl #[rfl,n,rfl],.inr (.inl #[n,rfl,rfl,rfl])];cases z;exact#[.inr (.inl #[_,rfl,rfl]),.inl #[_,rfl,rfl,rfl]];cases z;exact#[.inr (.inl #[_,rfl,rfl]),.inl #[_,rfl,rfl,rfl]];cases z;exact#[.inr (.inr #[_,_,x,rfl,rfl]),.inr (.inr (.inl #[_,_,x,rfl,rfl,rfl]))]
theorem uJ(p:Pt):lk rH p=[]:=by show(if UA=p then jr [] else kv).getD []=[];split<;>rfl
theorem yq:Tbl0 rH:=by refine#[Qj.mpr #[λz=>(nomatch z),Qq],λp=>?_,λp e x=>?_,λp h=>?_,λp q h=>?_];rw[uJ];exact Qq;rw[uJ]at x;exact(nomatch x);exact .inl (QJ.mp (bB.mp h));let#[v,h]:=h;rw[uJ]at h;exact(nomatch h)
end
section
variable{es:rC}{st:LS}{g:Str}
section
variable{p q:Pt}{n:Str}
theorem vD:Tbl0 (zA es st g):=by rw[tE];exact ZY jC yq
theorem Y9:∀w∈L4 es st g,FG w:=λw h=>by unfold L4 at h;rcases Qg.mp h with z|z;exact xH (f:=DS g) (λ_=>cM) st w z;exact xH (f:=MV g) (λ_=>dM) es w z
theorem vC:z5 (zA es st g) p q↔(∃v,(p,q,v)∈L4 es st g)∨∃v,(q,p,v)∈L4 es st g:=by
 rw[tE,LZ Y9];constructor;rintro(⟨v,h⟩| h)
 ·rw[uJ]at h;exact(nomatch h)
 exact h;exact .inr
theorem JP(h:Key (zA es st g) (tO n)):z5 (zA es st g) (tO n) (fR n):=by
 rw[tE]at h;rcases yM.mp h with z|⟨⟨p,q,v⟩,m,z⟩
 exact im (QJ.mp (bB.mp z)).symm AB;refine vC.mpr (.inl #[1,bE.mpr ?_]);have z:tO n=p∨tO n=q:=z;rcases bE.mp m with⟨k,mk,x,e|e⟩| ⟨e,u,x,y|y|y⟩
 cases e;rcases z with z|z;rw[FB z];exact .inl #[k,mk,x,.inl rfl];exact im z OA;cases e;rcases z with z|z;exact im z.symm AB;rw[FB z];exact .inl #[k,mk,x,.inl rfl];cases y;rcases z with z|z;rw[FB z];exact .inr #[e,u,x,.inl rfl];exact im z OA;cases y;rcases z with z|z;rw[FB z];exact .inr #[e,u,x,.inr (.inl rfl)];exact im z OA;cases y;rcases z with z|z;exact im z OA;rw[FB z];exact .inr #[e,u,x,.inr (.inl rfl)]
theorem Z4:uv p q (rm (zA es st g) p q)∨(¬ fI (zA es st g) p q/\rm (zA es st g) p q=0):=by by_cases h:fI (zA es st g) p q;let#[v,e]:=h;have:=vD (es:=es) (st:=st) (g:=g) |>.cap p (q,v) (yH e);unfold rm;rw[e];exact .inl this;exact .inr #[h,NQ h]
theorem Rx:0<=rm (zA es st g) p q:=by rcases Z4 (es:=es) (st:=st) (g:=g) (p:=p) (q:=q) with(⟨_,_,_,e⟩| ⟨_,_,_,e⟩| ⟨_,_,_,_,_,e⟩| ⟨_,e⟩)|⟨_,e⟩<;>rw[e]<;>decide
theorem ZJ(h:¬ j5 p q):rm (zA es st g) p q=0:=by
 rcases Z4 (es:=es) (st:=st) (g:=g) (p:=p) (q:=q) with(⟨n,y,x,_⟩| ⟨n,y,x,_⟩| ⟨a,b,z,y,x,_⟩| ⟨_,e⟩)|⟨_,e⟩
 exact im (.inr (.inl #[n,y,x])) h;exact im (.inl #[y,n,x]) h;exact im (.inr (.inr #[a,b,z,y,x])) h;exact e;exact e
theorem on(h:q≠fR n):rm (zA es st g) (tO n) q=0:=ZJ λl=>by
 rcases l with⟨e,_⟩| ⟨m,y,x⟩| ⟨a,b,_,e,_⟩
 exact AB e.symm;exact h (by rw[x,FB y]);exact OA e
theorem Dt:rm (zA es st g) (tO n) (fR n)<=1:=by
 rcases Z4 (es:=es) (st:=st) (g:=g) (p:=tO n) (q:=fR n) with(⟨_,_,_,e⟩| ⟨m,h,_,_⟩| ⟨a,b,x,h,y,_⟩| ⟨_,e⟩)|⟨_,e⟩
 rw[e];decide;exact im h.symm AB;exact im h OA;rw[e];decide;rw[e];decide
theorem Jn(h:Key (zA es st g) (tO n)):rm (zA es st g) (tO n) (fR n)=1:=by
 have a:=rB.mpr (JP h);rcases Z4 (es:=es) (st:=st) (g:=g) (p:=tO n) (q:=fR n) with(⟨_,_,_,e⟩| ⟨m,x,_,_⟩| ⟨a,b,y,x,u,_⟩| ⟨l,e⟩)|⟨z,e⟩
 exact e;exact im x.symm AB;exact im x OA;exact im (.inr (.inl #[n,rfl,rfl])) l;exact im a z
theorem Sx(h:p≠tO n):rm (zA es st g) p (fR n)=0:=ZJ λl=>by
 rcases l with⟨_,m,e⟩| ⟨m,y,x⟩| ⟨a,b,_,_,e⟩
 exact OA e.symm;exact h (by rw[y,AH x]);exact OA e.symm
theorem Tx:rm (zA es st g) p UA=0:=ZJ λl=>by
 rcases l with⟨_,m,e⟩| ⟨m,x,h⟩| ⟨a,b,_,_,e⟩
 exact AB e;exact DE h;exact AB e
theorem Ct(h:p≠fR n):rm (zA es st g) p (tO n)=0∨rm (zA es st g) p (tO n)=2:=by
 rcases Z4 (es:=es) (st:=st) (g:=g) (p:=p) (q:=tO n) with(⟨_,_,e,_⟩| ⟨m,_,_,e⟩| ⟨a,b,_,_,_,e⟩| ⟨l,e⟩)|⟨_,e⟩
 exact im e OA;exact .inr e;exact .inr e;exact .inl e;exact .inl e
theorem gn{v:Int}(h:(p,tO n,v)∈L4 es st g):rm (zA es st g) p (tO n)=2:=by
 have a:fI (zA es st g) p (tO n):=rB.mpr (vC.mpr (.inl #[v,h]));have l:j5 p (tO n):=(jC _ h).1;rcases Z4 (es:=es) (st:=st) (g:=g) (p:=p) (q:=tO n) with(⟨_,_,e,_⟩| ⟨m,_,_,e⟩| ⟨a,b,_,_,_,e⟩| ⟨x,e⟩)|⟨z,e⟩
 exact im e OA;exact e;exact e;exact im l x;exact im a z
end
end
section
variable{es:rC}{st:LS}{g:Str}
def vs0(es:rC)(st:LS)(g:Str):List Pt:=(zA es st g).map (·.1)
def fl(es:rC)(st:LS)(g:Str)(r:Rm)(p q:Pt):Int:=rm (zA es st g) p q - rm r p q
def out(es:rC)(st:LS)(g:Str)(r:Rm)(p:Pt):Int:=sm (vs0 es st g) (fl es st g r p)
structure Base(es:rC)(st:LS)(g:Str)(r:Rm):Prop where
 ndi:Lf r
 adj:∀p q,fI r p q↔fI (zA es st g) p q
 keys:r.map (·.1)=vs0 es st g
 nn:∀p q,0<=rm r p q
 anti:∀p q,fl es st g r p q=- fl es st g r q p
structure Flow(es:rC)(st:LS)(g:Str)(r:Rm):Prop extends Base es st g r where
 cons:∀x,x≠UA->x≠tO g->out es st g r x=0
theorem FF:(vs0 es st g).Nodup:=vD.ndk
theorem uh:Flow es st g (zA es st g):=by
 have e:∀p q,fl es st g (zA es st g) p q=0:=λp q=>by unfold fl;omega
 refine#[#[vD.ndi,λp q=>WQ,rfl,λp q=>Rx,λp q=>by rw[e,e];rfl],λx _ _=>?_];unfold out;rw[jB (g:=λ_=>0) λq _=>e x q];exact OG _
theorem UB{p q:Pt}(h:fI (zA es st g) p q):fI (zA es st g) q p:=rB.mpr (vD.sym p q (rB.mp h)).1
theorem pB{p q:Pt}(h:fI (zA es st g) p q):p∈vs0 es st g:=bB.mp (vD.sym p q (rB.mp h)).2
theorem ZS{p q:Pt}(h:fI (zA es st g) p q):p≠q:=by
 rcases vC.mp (rB.mp h) with⟨v,m⟩| ⟨v,m⟩
 exact kG (jC _ m).1;exact(kG (jC _ m).1).symm
section
variable{r:Rm}
theorem Base.dom(b:Base es st g r):Kb r:=λp q h=>by have a:=(b.adj p q).mp (rB.mpr h);rw[bB,b.keys];exact pB (UB a)
theorem Base.bg(b:Base es st g r):Key r UA:=by rw[bB,b.keys];refine bB.mp ?_;show Key (zA es st g) UA;rw[tE];exact yM.mpr (.inl #[[],a9 rfl])
theorem Base.len(b:Base es st g r):r.9=(zA es st g).length:=by have:=i3 qO b.keys;unfold vs0 at this;rw[QC,QC]at this;exact this
theorem Base.adjw(b:Base es st g r){p q:Pt}(h:0<rm r p q):fI (zA es st g) p q:=(b.adj p q).mp (by
 unfold rm at h;cases e:look (lk r p) q with|none=>rw[e]at h;exact im h (wj 0)|some v=>exact#[v,e])
theorem XR{u:Pt}{l:Inn}(h:u∈r.map (·.1)):(put r u l).map (·.1)=r.map (·.1):=by rw[put_keys,a9 h]
theorem Base.pushed(b:Base es st g r){u v:Pt}(h:0<rm r u v):Base es st g (B1 r u v):=by
 have a:=b.adjw h;have y:=ZS a;have e:=sW (r:=r) y;refine#[ve y b.ndi,λp q=>?_,?_,λp q=>?_,λp q=>?_];rw[Ff y ((b.adj u v).mpr a) ((b.adj v u).mpr (UB a))];exact b.adj p q;have k:u∈r.map (·.1):=by rw[b.keys];exact pB a
 have f:v∈r.map (·.1):=by rw[b.keys];exact pB (UB a)
 unfold B1;rw[XR (by rw[XR k];exact f),XR k];exact b.keys;rw[e];have:=b.nn p q;by_cases c:p=u/\q=v;rw[a9 c,c.1,c.2];split<;>omega;rw[a8 c];split<;>omega;unfold fl;rw[e,e];have:=b.anti p q;unfold fl at this;by_cases x:p=v/\q=u;rw[a9 x,a9 (c:=q=u/\p=v) #[x.2,x.1],a8 (c:=p=u/\q=v) (λz=>y (z.1.symm.trans x.1)),a8 (c:=q=v/\p=u) (λz=>y (z.2.symm.trans x.1))];omega;rw[a8 x,a8 (c:=q=u/\p=v) (λz=>x #[z.2,z.1])];by_cases w:p=u/\q=v;rw[a9 w,a9 (c:=q=v/\p=u) #[w.2,w.1]];omega;rw[a8 w,a8 (c:=q=v/\p=u) (λz=>w #[z.2,z.1])];omega
theorem yZ(b:Base es st g r){u v:Pt}(h:0<rm r u v)(x:Pt):out es st g (B1 r u v) x=out es st g r x+(if x=u then 1 else 0) - (if x=v then 1 else 0):=by
 have a:=b.adjw h;have f:=ZS a;unfold out;have e:∀q,fl es st g (B1 r u v) x q=fl es st g r x q+((if q=v then(if x=u then 1 else 0) else 0)+-(if q=u then(if x=v then 1 else 0) else 0)):=λq=>by unfold fl;rw[sW f];by_cases k:x=u;have w:x≠v:=λz=>f (k.symm.trans z);rw[a8 (c:=x=v/\q=u) (λz=>w z.1),a9 k,a8 w];by_cases y:q=v;rw[a9 (c:=x=u/\q=v) #[k,y],a9 y];split<;>omega;rw[a8 (c:=x=u/\q=v) (λz=>y z.2),a8 y];split<;>omega;rw[a8 (c:=x=u/\q=v) (λz=>k z.1),a8 k];by_cases w:x=v;rw[a9 w];by_cases y:q=u;rw[a9 (c:=x=v/\q=u) #[w,y],a9 y];split<;>omega;rw[a8 (c:=x=v/\q=u) (λz=>y z.2),a8 y];split<;>omega;rw[a8 (c:=x=v/\q=u) (λz=>w z.1),a8 w];split<;>split<;>omega
 rw[jB λq _=>e q,LH,LH,yK,zK FF (pB (UB a)),zK FF (pB a)];omega
end
section
variable{r y:Rm}{ks:List Pt}
theorem CF.find{vs:List D}(h:CF r ks vs){q:Pt}(m:q∈ks)(b:q≠UA):∃z u p k v,CF r z u/\p∈z/\Ch r p q/\q∉z/\ks=z++q::k/\vs=u++pr p::v:=by
 induction h with|bg=>exact im (QJ.mp m) b|@add ks vs p x c i w n f=>by_cases e:q∈ks;let#[z,u,a,k,v,Z,Y,X,s,o,l]:=f e;exact#[z,u,a,k++[x],v++[pr p],Z,Y,X,s,by rw[o,Q8];rfl,by rw[l,Q8];rfl];have j:q=x:=QJ.mp ((Qg.mp m).resolve_left e);subst j;exact#[ks,vs,p,[],[],c,i,w,n,rfl,rfl]
structure LC(es:rC)(st:LS)(g:Str)(y r:Rm)(here:Pt)(ks:List Pt):Prop extends Base es st g r where
 cons:∀x,x≠UA->x≠tO g->out es st g r x=if x=here then 1 else 0
 val:out es st g r UA=out es st g y UA+if here=UA then 1 else 0
 fresh:∀p,∀q∈ks,rm y p q<=rm r p q
theorem O8(f:Flow es st g y)(ks:List Pt):LC es st g y y (tO g) ks:=by refine#[f.toBase,λx u h=>?_,?_,λp q _=>QCe _];rw[a8 h];exact f.cons x u h;rw[a8 (λz=>AB z.symm)];omega
theorem Ke{h p:Pt}{u:List Pt}(nd:Lf y)(l:LC es st g y r h ks)(i:h∈ks)(hb:h≠UA)(w:Ch y p h)(f:h∉u)(e:∀q∈u,q∈ks):0<rm r p h/\LC es st g y (B1 r p h) p u:=by have v:0<rm r p h:=Int.lt_of_lt_of_le ((EV nd).mp w) (l.fresh p h i);have b:=ZS (l.adjw v);refine#[v,l.toBase.pushed v,λx a j=>?_,?_,λx q k=>?_];rw[yZ l.toBase v,l.cons x a j];split<;>split<;>omega;rw[yZ l.toBase v,l.val,a8 hb,a8 (c:=UA=h) (λz=>hb z.symm)];by_cases c:p=UA;rw[a9 c,a9 c.symm];omega;rw[a8 c,a8 (λz=>c z.symm)];omega;have a:=l.fresh x q (e q k);rw[sW b,a8 (c:=x=p/\q=h) (λz=>f (z.2▸k))];split<;>omega
theorem Il(l:LC es st g y r UA ks):Flow es st g r/\out es st g r UA=out es st g y UA+1:=by refine#[#[l.toBase,λx h z=>?_],?_];rw[l.cons x h z,a8 h];rw[l.val,a9 rfl]
end
end
section
variable{es:rC}{st:LS}{g:Str}{r:Rm}
section
variable{p q y:Pt}{n a:Str}{ks:List Pt}
theorem kM(b:Base es st g r)(h:rm (zA es st g) q p=0):fl es st g r p q=rm r q p:=by have:=b.anti p q;unfold fl at this ⊢;omega
def uW(r:Rm)(n:Str):Int:=rm r (fR n) (tO n)
theorem xW(b:Base es st g r)(n:Str):fl es st g r (tO n) (fR n)=uW r n:=kM b (ZJ λl=>vF (.inr (.inl #[n,rfl,rfl])) l)
theorem aM(b:Base es st g r)(n:Str):uW r n<=1:=by rw[<- xW b];have x:=Dt (es:=es) (st:=st) (g:=g) (n:=n);have h:=b.nn (tO n) (fR n);unfold fl;omega
theorem M6(b:Base es st g r)(h:p∉vs0 es st g∨q∉vs0 es st g):rm r p q=0:=by refine NQ λa=>?_;have a:=(b.adj p q).mp a;rcases h with h|h;exact h (pB a);exact h (pB (UB a))
theorem fg(l:List Pt)(nd:l.Nodup)(u:Pt)(k:Int)(h:u∉l->k=0):sm l (λx=>if x=u then k else 0)=k:=by by_cases m:u∈l;exact zK nd m;rw[FQ m,h m]
def inn(r:Rm)(n:Str)(y:Pt):Int:=if y=fR n then 0 else rm r (tO n) y
theorem MR(f:Flow es st g r)(h:n≠g):sm (vs0 es st g) (inn r n)=uW r n:=by
 have c:=f.cons (tO n) (λz=>AB z.symm) (λz=>h (FB z));unfold out at c;have e:∀y,fl es st g r (tO n) y=(if y=fR n then uW r n else 0)+- inn r n y:=λy=>by unfold inn;by_cases e:y=fR n;rw[a9 e,a9 e,e,xW f.toBase];omega;rw[a8 e,a8 e];unfold fl;rw[on e];omega
 rw[jB λy _=>e y,LH,yK,fg _ FF (fR n) (uW r n) (λz=>M6 f.toBase (.inl z))]at c;omega
theorem LR(b:Base es st g r)(n:Str)(y:Pt):0<=inn r n y:=by unfold inn;split;decide;exact b.nn _ _
def Ic(r:Rm)(n:Str)(y:Pt):Int:=if y=tO n then 0 else rm r y (fR n)
theorem jZ(f:Flow es st g r)(n:Str):sm (vs0 es st g) (Ic r n)=uW r n:=by
 have c:=f.cons (fR n) (λz=>DE z.symm) (λz=>OA z.symm);unfold out at c;have e:∀y,fl es st g r (fR n) y=- (if y=tO n then uW r n else 0)+Ic r n y:=λy=>by unfold Ic;by_cases e:y=tO n;rw[a9 e,a9 e,e];have:=f.anti (fR n) (tO n);rw[xW f.toBase]at this;omega;rw[a8 e,a8 e,kM f.toBase (Sx e)];omega
 rw[jB λy _=>e y,LH,yK,fg _ FF (tO n) (uW r n) (λz=>M6 f.toBase (.inr z))]at c;omega
theorem nk(b:Base es st g r)(n:Str)(y:Pt):0<=Ic r n y:=by unfold Ic;split;decide;exact b.nn _ _
def OV(r:Rm)(n:Str):Prop:=0<rm r (tO n) UA
def Yb(r:Rm)(a b:Str):Prop:=a≠b/\0<rm r (tO b) (fR a)
theorem oK(b:Base es st g r)(h:OV r n):n∈st/\n≠g:=by
 rcases vC.mp (rB.mp (b.adjw h)) with⟨v,m⟩| ⟨v,m⟩
 exact im (jC _ m).1 λl=>by
  rcases l with⟨e,_⟩| ⟨_,_,e⟩| ⟨_,_,_,e,_⟩
  exact AB e.symm;exact DE e;exact OA e
 rcases bE.mp m with⟨k,mk,x,e|e⟩| ⟨e,_,_,y|y|y⟩
 ·exact im (i3 qz e) AB
 have:=i3 (λw:Wy=>w.2.1) e;rw[FB this];exact#[mk,x];exact im (i3 qz y) AB;exact im (i3 qz y) AB;exact im (i3 qz y) DE
theorem Vl(b:Base es st g r){c:Str}(h:Yb r a c):(a,c)∈es/\a≠g:=by
 rcases vC.mp (rB.mp (b.adjw h.2)) with⟨v,m⟩| ⟨v,m⟩
 exact im (jC _ m).1 λl=>by
  rcases l with⟨e,_⟩| ⟨k,z,x⟩| ⟨_,_,_,e,_⟩
  exact AB e.symm;exact h.1 ((AH x).trans (FB z).symm);exact OA e
 rcases bE.mp m with⟨k,mk,u,e|e⟩| ⟨e,f,u,y|y|y⟩
 ·exact im (i3 qz e).symm OA
 exact im (i3 qz e).symm DE;exact im (i3 qz y).symm OA;exact im (i3 qz y).symm OA;have z:a=e.1:=AH (i3 qz y);have x:c=e.2:=FB (i3 (λw:Wy=>w.2.1) y);rw[z,x];exact#[f,u.1]
theorem oX:inn r n UA=rm r (tO n) UA:=by unfold inn;exact a8 DE
theorem dR(h:a≠n):inn r n (fR a)=rm r (tO n) (fR a):=by unfold inn;exact a8 λz=>h (AH z)
theorem je(h:a≠n):Ic r a (tO n)=rm r (tO n) (fR a):=by unfold Ic;exact a8 λz=>h (FB z).symm
theorem zJ(b:Base es st g r)(h:0<rm r p q):p∈vs0 es st g/\q∈vs0 es st g:=#[pB (b.adjw h),pB (UB (b.adjw h))]
theorem XZ(f:Flow es st g r)(n:Str)(h:n≠g):rm r (tO n) UA<=1:=by by_cases c:0<rm r (tO n) UA;have z:=HH (λx _=>LR f.toBase n x) (zJ f.toBase c).2;rw[MR f h,oX]at z;exact QAV z (aM f.toBase n);omega
theorem Re(f:Flow es st g r)(h:OV r n):uW r n=1:=by have ng:=(oK f.toBase h).2;have z:=HH (λx _=>LR f.toBase n x) (zJ f.toBase h).2;rw[MR f ng,oX]at z;have:=aM f.toBase n;unfold OV at h;omega
theorem Ed(f:Flow es st g r)(h:Yb r a n)(ng:n≠g):uW r n=1:=by have z:=HH (λx _=>LR f.toBase n x) (zJ f.toBase h.2).2;rw[MR f ng,dR h.1]at z;have:=aM f.toBase n;have:=h.2;omega
theorem O5(f:Flow es st g r)(ng:n≠g){x:Pt}(u:0<inn r n x)(h:0<inn r n y):x=y:=by
 have w:x∈vs0 es st g:=by unfold inn at u;split at u;exact im u (wj 0);exact(zJ f.toBase u).2
 have v:y∈vs0 es st g:=by unfold inn at h;split at h;exact im h (wj 0);exact(zJ f.toBase h).2
 by_cases e:x=y;exact e;have k:=t6 (λz _=>LR f.toBase n z) w v e;rw[MR f ng]at k;have:=aM f.toBase n;omega
theorem xZ(f:Flow es st g r){b:Str}(ng:n≠g)(x:Yb r a n)(h:Yb r b n):a=b :=
 AH (O5 f ng (by rw[dR x.1];exact x.2) (by rw[dR h.1];exact h.2))
theorem jS(f:Flow es st g r)(x:OV r n)(h:Yb r a n):False :=
 DE (O5 f (oK f.toBase x).2 (by rw[oX];exact x) (by rw[dR h.1];exact h.2))
theorem x8(f:Flow es st g r)(h:uW r n=1):∃y,y≠tO n/\0<rm r y (fR n):=by let#[y,_,x]:=e6 (f:=Ic r n) (l:=vs0 es st g) (by rw[jZ f,h];decide);unfold Ic at x;split at x;exact im x (wj 0);rename_i ne;exact#[y,ne,x]
theorem Lg(b:Base es st g r)(h:fI r y (fR n)):∃m,y=tO m:=by
 rcases vC.mp (rB.mp ((b.adj _ _).mp h)) with⟨v,m⟩| ⟨v,m⟩
 rcases(jC _ m).1 with⟨_,k,e⟩| ⟨k,e,_⟩| ⟨_,k,_,_,e⟩
 ·exact im e.symm OA
 exact#[k,e];exact im e.symm OA;rcases(jC _ m).1 with⟨e,_⟩| ⟨k,e,_⟩| ⟨_,k,_,_,e⟩
 ·exact im e.symm DE
 exact im e.symm OA;exact#[k,e]
theorem Y8(b:Base es st g r)(h:fI r y UA):∃m,y=tO m:=by
 rcases vC.mp (rB.mp ((b.adj _ _).mp h)) with⟨v,m⟩| ⟨v,m⟩
 rcases(jC _ m).1 with⟨_,k,e⟩| ⟨k,_,e⟩| ⟨_,k,_,_,e⟩
 ·exact im e AB
 exact im e DE;exact im e AB;rcases(jC _ m).1 with⟨_,k,e⟩| ⟨k,e,_⟩| ⟨_,k,_,e,_⟩
 ·exact#[k,e]
 exact im e AB;exact im e DE
theorem Kl(f:Flow es st g r)(h:uW r n=1):∃m,Yb r n m:=by let#[y,z,x]:=x8 f h;let#[m,rfl]:=Lg f.toBase ((f.adj _ _).mpr (f.toBase.adjw x));exact#[m,λe=>z (by rw[e]),x]
theorem kP(f:Flow es st g r){v:Int}(m:(p,tO n,v)∈L4 es st g):0<rm r p (tO n):=by
 have c:=gn m;have l:=(jC _ m).1;have h:fl es st g r p (tO n)=rm r (tO n) p:=kM f.toBase (ZJ (vF l));unfold fl at h;rw[c]at h;have key:rm r (tO n) p<=1:=by
  rcases bE.mp m with⟨k,mk,z,e|e⟩| ⟨e,o,z,y|y|y⟩
  exact im (i3 (λw:Wy=>w.2.1) e) OA;have b:p=UA:=i3 qz e;have u:n=k:=FB (i3 (λw:Wy=>w.2.1) e);rw[b];exact XZ f n (by rw[u];exact z);exact im (i3 (λw:Wy=>w.2.1) y) OA;exact im (i3 (λw:Wy=>w.2.1) y) OA;have b:p=fR e.1:=i3 qz y;have u:n=e.2:=FB (i3 (λw:Wy=>w.2.1) y);rw[b];by_cases c:0<rm r (tO n) (fR e.1);have j:e.1≠n:=by rw[u];exact z.2
  have i:=HH (λx _=>nk f.toBase e.1 x) (zJ f.toBase c).1;rw[jZ f,je j]at i;exact QAV i (aM f.toBase _);omega
 omega
theorem YT{l m:List Pt}(v:l.Nodup)(u:m.Nodup)(h:∀x,x∈l↔x∈m):l.9=m.length:=by have a:=jH v λx z=>(h x).mp z;have b:=jH u λx z=>(h x).mpr z;omega
noncomputable def mH(ks:List Pt)(x:Pt):Bool:=decide (x.2="to")&&!decide (fR x.1∈ks)
theorem SD{x:Pt}:mH ks x=kf↔∃n,x=tO n/\fR n∉ks:=by unfold mH;rw[Qb,Q4,i0,decide_eq_false_iff_not];constructor;rintro⟨u,z⟩;exact#[x.1,QCi rfl u,z];rintro⟨n,rfl,h⟩;exact#[rfl,h]
theorem GQ(p:Pt->Bool):∀(l:List Pt),sm l (λx=>if p x=kf then 1 else 0)=(l.filter p).9
 |[]=>rfl|x::l=>by show(if p x=kf then 1 else 0)+sm l _=_;rw[GQ p l,WN];by_cases c:p x=kf;rw[a9 c,a9 c,QM];omega;rw[a8 c,a8 c];omega
theorem TU(f:Flow es st g r)(nd:ks.Nodup)(hk:∀p,p∈ks↔Rch r p)(M:tO g∉ks):out es st g r UA=(ks.filter (mH ks)).length:=by
 have sub:∀p∈ks,p∈vs0 es st g:=λp L=>by have:=bB.mp (FI f.toBase.dom f.toBase.bg ((hk p).mp L));rw[f.keys]at this;exact this
 have o:∀x∈ks,∀y,y∉ks->rm r x y=0:=λx w y u=>by have:=f.nn x y;by_cases c:0<rm r x y;exact im ((hk y).mpr (.go ((hk x).mp w) ((EV f.ndi).mpr c))) u;omega
 have I:sm ((vs0 es st g).filter λx=>decide (x∈ks)) (λx=>out es st g r x)=out es st g r UA:=by
  have hb:UA∈ks:=(hk UA).mpr .bg;have e:∀x∈(vs0 es st g).filter (λx=>decide (x∈ks)),out es st g r x=if x=UA then out es st g r UA else 0:=λx w=>by by_cases c:x=UA;rw[a9 c,c];rw[a8 c];exact f.cons x c λz=>M (z▸ii (QZ.mp w).2)
  rw[jB e];exact zK (FF.sublist qD) (QZ.mpr #[sub _ hb,dT hb])
 have G:∀x∈(vs0 es st g).filter (λx=>decide (x∈ks)),sm ((vs0 es st g).filter λy=>!decide (y∈ks)) (fl es st g r x)=if mH ks x=kf then 1 else 0:=λx w=>by
  have W:x∈ks:=ii (QZ.mp w).2;have Z:=(QZ.mp w).1;have k:∀y∈(vs0 es st g).filter (λy=>!decide (y∈ks)),y∉ks/\fl es st g r x y=rm (zA es st g) x y:=λy u=>by have:=(QZ.mp u).2;rw[Q4,decide_eq_false_iff_not]at this;refine#[this,?_];unfold fl;rw[o x W y this];omega
  have B:∀y∈(vs0 es st g).filter (λy=>!decide (y∈ks)),∀n,y=tO n->fl es st g r x y=0:=λy u n e=>by
   let#[C,O]:=k y u;rw[O,e];by_cases A:x=fR n;rw[A];exact ZJ λl=>vF (.inr (.inl #[n,rfl,rfl])) l;rcases Ct (es:=es) (st:=st) (g:=g) A with z|z
   ·exact z
   have a:fI (zA es st g) x (tO n):=by refine wQ λJ=>?_;rw[NQ J]at z;exact im z (by decide)
   rcases vC.mp (rB.mp a) with⟨v,m⟩| ⟨v,m⟩
   have:=kP f m;rw[o x W (tO n) (e▸C)]at this;exact im this (wj 0);rw[ZJ (vF (jC _ m).1)]
  rcases vD.kind x (bB.mpr Z) with e|⟨n,e|e⟩
  have i:¬ mH ks x=true:=λz=>by let#[n,j,_]:=SD.mp z;exact AB (e.symm.trans j)
  rw[a8 i];rw[jB (g:=λ_=>0),OG];intro y u;by_cases t:∃n,y=tO n;let#[n,t]:=t;exact B y u n t;rw[(k y u).2,e];exact ZJ λl=>by
   rcases l with⟨_,z⟩| ⟨n,z,_⟩| ⟨_,b,_,_,z⟩
   exact t z;exact AB z;exact t #[b,z]
  by_cases X:fR n∈ks
  ·have i:¬ mH ks x=true:=λz=>by
    let#[m,j,h]:=SD.mp z;rw[<- FB (e.symm.trans j)]at h;exact h X
   rw[a8 i,jB (g:=λ_=>0),OG];intro y u;rw[(k y u).2,e];exact on λz=>(k y u).1 (z▸X)
  rw[a9 (SD.mpr #[n,e,X])];have K:Key (zA es st g) (tO n):=by rw[<- e];exact bB.mpr Z
  have N:fR n∈vs0 es st g:=pB (UB (rB.mpr (JP K)));rw[jB (g:=λy=>if y=fR n then 1 else 0)];exact zK (FF.sublist qD) (QZ.mpr #[N,by rw[dF X];rfl]);intro y u;rw[(k y u).2,e];by_cases c:y=fR n;rw[a9 c,c,Jn K];rw[a8 c,on c];have i:¬ mH ks x=true:=λz=>by let#[m,j,_]:=SD.mp z;exact OA (j.symm.trans e)
  rw[a8 i,jB (g:=λ_=>0),OG];intro y u;by_cases t:∃n,y=tO n;let#[n,t]:=t;exact B y u n t;rw[(k y u).2,e];exact ZJ λl=>by
   rcases l with⟨z,_⟩| ⟨n,z,_⟩| ⟨_,b,_,_,z⟩
   exact DE z.symm;exact OA z.symm;exact t #[b,z]
 have F:∀x,out es st g r x=sm ((vs0 es st g).filter λy=>decide (y∈ks)) (fl es st g r x)+sm ((vs0 es st g).filter λy=>!decide (y∈ks)) (fl es st g r x):=λx=>mT _ _;have E:sm ((vs0 es st g).filter λx=>decide (x∈ks)) (λx=>out es st g r x)=sm ((vs0 es st g).filter λx=>decide (x∈ks)) (λx=>if mH ks x=kf then 1 else 0):=by rw[jB λx _=>F x,LH,vc _ λx _ y _=>f.anti x y,jB G];omega
 rw[<- I,E,GQ];have:(((vs0 es st g).filter λx=>decide (x∈ks)).filter (mH ks)).9=(ks.filter (mH ks)).length:=by refine YT ((FF.sublist qD).sublist qD) (nd.sublist qD) λx=>?_;rw[QZ,QZ,QZ,i0];exact#[λ#[#[_,s],Y]=>#[s,Y],λ#[s,Y]=>#[#[sub x s,s],Y]]
 rw[this]
theorem Se(f:Flow es st g r):out es st g r UA=(((lk r UA).map (·.1)).filter λy=>decide (0<rm r y UA)).length:=by
 have e:∀y∈vs0 es st g,fl es st g r UA y=if decide (0<rm r y UA)=kf then 1 else 0:=λy x=>by rw[kM f.toBase Tx];have z:=f.nn y UA;by_cases c:0<rm r y UA;rw[dT c,a9 rfl];let#[n,e]:=Y8 f.toBase ((f.adj _ _).mpr (f.toBase.adjw c));rw[e]at c ⊢;have:=XZ f n (oK f.toBase c).2;omega;rw[dF c,a8 (by decide)];omega
 unfold out;rw[jB e,GQ];have:((vs0 es st g).filter λy=>decide (0<rm r y UA)).9=(((lk r UA).map (·.1)).filter λy=>decide (0<rm r y UA)).length:=by refine YT (FF.sublist qD) ((f.ndi UA).sublist qD) λy=>?_;rw[QZ,QZ,i0];refine#[λ#[_,h]=>#[?_,h],λ#[_,h]=>#[(zJ f.toBase h).1,h]];let#[v,hv]:=(f.adj UA y).mpr (UB (f.toBase.adjw h));exact QR.mpr #[(y,v),yH hv,rfl]
 rw[this]
theorem zf(f:Flow es st g r)(hk:∀p,p∈ks↔Rch r p)(o:tO g∉ks){cut:LS}(hc:∀n,tO n∈ks->fR n∉ks->n∈cut):¬ ∃a,(a,g)∈es/\Led es st g cut a:=by
 have u:∀p∈ks,∀n v,(p,tO n,v)∈L4 es st g->tO n∈ks:=λp j n v m=>(hk _).mpr (.go ((hk _).mp j) ((EV f.ndi).mpr (kP f m)));have key:∀n,Led es st g cut n->fR n∈ks:=λn h=>by
  induction h with|@st s h k=>let#[w,x]:=YE.mp k;have t:=u UA ((hk _).mpr .bg) s 2 (bE.mpr (.inl #[s,h,w,.inr rfl]));exact wQ λz=>x (hc s t z)|@ed a b l m k i=>let#[w,x]:=YE.mp k;by_cases e:a=b;rw[<- e];exact i;have t:=u (fR a) i b 2 (bE.mpr (.inr #[(a,b),m,#[(ZN l).1,e],.inr (.inr rfl)]));exact wQ λz=>x (hc b t z)
 rintro⟨a,m,l⟩;exact o (u (fR a) (key a l) g 2 (bE.mpr (.inr #[(a,g),m,#[(ZN l).1,(ZN l).1],.inr (.inr rfl)])))
end
end
inductive Run(r:Rm)(g f:Str):LS->Str->Prop
 |nil:Run r g f [] f
 |go {c:LS}{n m:Str}:Run r g f c n->n≠g->Yb r n m->Run r g f (c++[n]) m
inductive Chn(es:rC)(st:LS)(g:Str):LS->Str->Prop
 |st {f:Str}:f∈st->f≠g->Chn es st g [] f
 |go {c:LS}{n m:Str}:Chn es st g c n->n≠g->(n,m)∈es->Chn es st g (c++[n]) m
section
variable{es:rC}{st:LS}{g:Str}{r:Rm}
section
variable{s n:Str}{c:LS}
theorem Run.chn(f:Flow es st g r)(x:OV r s)(h:Run r g s c n):Chn es st g c n:=by
 induction h with|nil=>exact .st (oK f.toBase x).1 (oK f.toBase x).2|go _ ng y z=>exact .go z ng (Vl f.toBase y).1
theorem Run.thr1(f:Flow es st g r)(y:OV r s)(h:Run r g s c n)(ng:n≠g):uW r n=1:=by
 cases h with|nil=>exact Re f y|go _ _ x=>exact Ed f x ng
theorem Run.pred(h:Run r g s c n):∀x,x∈c∨x=n->x=s∨∃y∈c,Yb r y x:=by
 induction h with
 |nil=>intro x u;exact u.elim (λz=>(nomatch z)) .inl
 |@go c n m _ _ v w =>
  intro x u;rcases u with u|rfl;have:x∈c∨x=n:=(Qg.mp u).imp_right QJ.mp;rcases w x this with z|⟨y,k,z⟩
  exact .inl z;exact .inr #[y,Qn _ k,z];exact .inr #[n,QU _ QD,v]
theorem Run.ng(h:Run r g s c n):∀x∈c,x≠g:=by
 induction h with
 |nil=>exact λx y=>(nomatch y)
 |go _ k _ u=>intro x y;rcases Qg.mp y with z|z;exact u x z;rw[QJ.mp z];exact k
theorem Run.nd(f:Flow es st g r)(w:OV r s)(h:Run r g s c n):c.Nodup/\n∉c:=by
 induction h with
 |nil=>exact#[Qq,λz=>(nomatch z)]
 |@go c n m h k x u =>
  have nd:(c++[n]).Nodup:=qZ.mpr #[u.1,Qj.mpr #[λz=>(nomatch z),Qq],λa i b hb z=>by rw[QJ.mp hb]at z;exact u.2 (z▸i)];refine#[nd,λz=>?_];rcases Qg.mp z with z|z;rcases h.pred m (.inl z) with e|⟨y,v,e⟩
  ·rw[e]at x;exact jS f w x
  rw[xZ f (h.ng m z) e x]at v;exact u.2 v;exact x.1 (QJ.mp z).symm
theorem Run.apart(f:Flow es st g r){s':Str}(q:OV r s)(b:OV r s'){l:LS}{p:Str}(h:Run r g s c n)(h':Run r g s' l p):∀x∈c,x∈l->s=s':=by
 induction h with
 |nil=>exact λx a=>(nomatch a)
 |@go c n m h k X i =>
  intro x a v;rcases Qg.mp a with z|z;exact i x z v;have z:=QJ.mp z;subst z;rcases h.pred x (.inr rfl) with e|⟨y,j,e⟩<;>rcases h'.pred x (.inl v) with u|⟨o,w,u⟩
  exact e.symm.trans u;rw[e]at u;exact(jS f q u).elim;rw[u]at e;exact(jS f b e).elim;rw[xZ f k e u]at j;exact i o j w
end
end
section
variable{es:rC}{st:LS}{g:Str}
theorem bf{cut:LS}{c:LS}{n:Str}(h:Chn es st g c n)(hc:∀x∈c,x∉cut)(ng:n≠g)(y:n∉cut):Led es st g cut n:=by
 induction h with|st h _=>exact .st h (YE.mpr #[ng,y])|@go c n m _ k e z=>exact .ed (z (λx u=>hc x (Qn _ u)) k (hc n (QU _ QD))) e (YE.mpr #[ng,y])
theorem ya{cut:LS}{c:LS}(h:Chn es st g c g)(hl:¬ ∃a,(a,g)∈es/\Led es st g cut a):∃x∈c,x∈cut:=by
 refine wQ λz=>?_;have hc:∀x∈c,x∉cut:=λx y m=>z #[x,y,m];cases h with|st _ e=>exact e rfl|@go c n _ h k e=>exact hl #[n,e,bf h (λx y=>hc x (Qn _ y)) k (hc n (QU _ QD))]
def RJ:List (LS)->Prop
 |[]=>True|c::cs=>(∀d∈cs,∀x∈c,x∉d)/\RJ cs
theorem Yg{cut:LS}:∀{cs:List (LS)},RJ cs->(∀c∈cs,∃x∈c,x∈cut)->∃u:LS,u.9=cs.9/\u.Nodup/\(∀p∈u,p∈cut)/\∀p∈u,∃c∈cs,p∈c
 |[],_,_=>#[[],rfl,Qq,λ_ z=>(nomatch z),λ_ z=>(nomatch z)]
 |c::cs,a,h=>by
  let#[u,f,e,b,k]:=Yg (cs:=cs) a.2 λd v=>h d (QE _ v);let#[x,w,hc]:=h c QD;refine#[x::u,by rw[QM,QM,f],Qj.mpr #[λz=>?_,e],λp y=>?_,λp y=>?_];let#[d,v,y]:=k x z;exact a.1 d v x w y;rcases QK.mp y with z|z
  ·rw[z];exact hc
  exact b p z;rcases QK.mp y with z|z
  ·exact#[c,QD,by rw[z];exact w]
  let#[d,v,y]:=k p z;exact#[d,QE _ v,y]
theorem t4{cut:LS}{cs:List (LS)}(a:RJ cs)(h:∀c∈cs,Chn es st g c g)(hl:¬ ∃a,(a,g)∈es/\Led es st g cut a):cs.9<=cut.length:=by let#[u,z,y,x,_]:=Yg a λc hc=>ya (h c hc) hl;rw[<- z];exact tR y x
end
section
variable{ks:List Pt}{vs:List D}{p:Pt}
noncomputable def pC(ks:List Pt)(vs:List D):List (D×D):=(ks.map pr).zip vs
theorem dn(ks:List Pt)(vs:List D):(sf ks vs).er=.dict (pC ks vs):=by show PyData.dict ((ks.map pr).zip (ersT (vs.map T.d)))=_;rw[vB];rfl
theorem xM(h:vs.9=ks.9):(pC ks vs).map (·.1)=ks.map pr:=WI (by rw[QC];omega)
theorem rf(h:vs.9=ks.9):(pC ks vs).map (·.2)=vs:=WJ (by rw[QC];omega)
theorem JJ(h:vs.9=ks.9)(m:p∈ks):OC (pC ks vs)=jr true:=by
 cases ks with
 |nil=>exact(nomatch m)
 |cons x ks=>cases vs with|nil=>cases h|cons y vs=>rfl
theorem PU{q:Pt}{u:List Pt}:∀{y:List Pt},q∉y->cA ((y++q::u).map pr) (pr q)=jr y.9
 |[],_=>bh rfl|x::y,h=>by show cA (pr x::(y++q::u).map pr) (pr q)=_;rw[B9 (λz=>h (by rw[EQ z];exact QD)),PU λz=>h (QE _ z)];rfl
theorem Bp{h z:List Pt}{y x:List D}{q:Pt}{n m:Bool}{R:T->Prop}(u:y.9=h.9)(w:x.9=z.9)(v:q∉h)(k:R (.d (pr p))):XA (.d (.dict (pC (h++q::z) (y++pr p::x)))) n (.d (pr q)) m R:=by
 have hl:(y++pr p::x).9=(h++q::z).length:=by rw[QI,QI,QM,QM,u,w]
 refine Vp (JJ hl (p:=q) (QU _ QD)) (MB q) (by rw[xM hl];exact PU v) ?_ k;rw[rf hl,<- u,Qy (QT _),QBM];rfl
theorem JX(a b:Pt):Qt (pr a) (pr b)=decide (a=b):=by
 rw[qA,i0];have e:Qt (pr a) (pr b)=(Qt (.str a.1) (.str b.1)&&(Qt (.str a.2) (.str b.2)&&kf)):=by simp[pr,Qt,PyData.eqvAll]
 rw[e,tK,tK,QBl,Qb,i0,i0];exact#[λh=>QCi h.1 h.2,λh=>by rw[h];exact#[rfl,rfl]]
def VG(es:rC)(st:LS):Prop:=(∀s∈st,wB s=kf)/\∀e∈es,wB e.1=kf/\wB e.2=kf
theorem MD{a b:Str}(x:wB a=kf)(h:wB b=kf):HE (pr (a,b)):=by refine#[?_,?_];simp only[pr,QAc,wZ,x,h,Bool.and_self];simp only[pr,QBH,w4];decide
theorem lT:wB "to"=true:=by decide +kernel
theorem UY:wB "from"=true:=by decide +kernel
theorem cP:wB ""=kf/\wB "begin"=true:=by decide +kernel
theorem v9{es:rC}{st:LS}{g:Str}(h:VG es st)(k:p∈vs0 es st g):HE (pr p):=by
 have k:Key (zA es st g) p:=bB.mpr k;rw[tE]at k;rcases yM.mp k with z|⟨⟨u,v,c⟩,m,z⟩
 rw[QJ.mp (bB.mp z)];exact MD cP.1 cP.2;have z:p=u∨p=v:=z;rcases bE.mp m with⟨n,w,_,e|e⟩| ⟨e,x,_,y|y|y⟩
 cases e;rcases z with z|z<;>subst z;exact MD (h.1 n w) lT;exact MD (h.1 n w) UY;cases e;rcases z with z|z<;>subst z;exact MD cP.1 cP.2;exact MD (h.1 n w) lT;cases y;rcases z with z|z<;>subst z;exact MD (h.2 e x).1 lT;exact MD (h.2 e x).1 UY;cases y;rcases z with z|z<;>subst z;exact MD (h.2 e x).2 lT;exact MD (h.2 e x).2 UY;cases y;rcases z with z|z<;>subst z;exact MD (h.2 e x).1 UY;exact MD (h.2 e x).2 lT
def GS(r:Rm)(x:List (D×D))(last:D)(h:Pt)(o4:Option Sl):xA:=[oW (fB r),bD (.dict x),bD last,bD (pr h),o4]
end
section
variable{Ψ:PEv}{Z:PEnds}{q:PT}{r:Rm}{h:List (D×D)}{last:D}{u v:Pt}
theorem zx(hk:Key r u)(w:fI r u v)(hl:(lk r u).9<kn)(k:pF Ψ q Z (GS (put r u (put (lk r u) v (rm r u v - 1))) h last v (bD (pr u)))) :
  pF Ψ (.seq (.six (.idx (.var 0) (.var 4)) (.var 3) (.bin .Sub (.idx (.idx (.var 0) (.var 4)) (.var 3)) (.int 1))) q) Z (GS r h last v (bD (pr u))):=by
 let#[x,y]:=w;have e:rm r u v=x:=by unfold rm;rw[y];rfl
 rw[e]at k;delta GS at k ⊢;simp![↓cI];refine NE hk ?_;simp![↓y0];refine oQ y ?_;simp![↓jA];refine aI (JE hk) λf z=>aQ hl ?_;rw[z];exact k
theorem yx(hk:Key r v)(w:fI r v u)(hl:(lk r v).9<kn)(k:pF Ψ q Z (GS (put r v (put (lk r v) u (rm r v u+1))) h last v (bD (pr u)))) :
  pF Ψ (.seq (.six (.idx (.var 0) (.var 3)) (.var 4) (.bin .Add (.idx (.idx (.var 0) (.var 3)) (.var 4)) (.int 1))) q) Z (GS r h last v (bD (pr u))):=by
 let#[x,y]:=w;have e:rm r v u=x:=by unfold rm;rw[y];rfl
 rw[e]at k;delta GS at k ⊢;simp![↓cI];refine NE hk ?_;simp![↓y0];refine oQ y ?_;simp![↓jA];refine aI (JE hk) λf z=>aQ hl ?_;rw[z];exact k
end
theorem Base.inn{es:rC}{st:LS}{g:Str}{r:Rm}(b:Base es st g r)(p:Pt):(lk r p).9<=(zA es st g).length:=by
 have:=jH (ns:=vs0 es st g) (b.ndi p) λq h=>by let#[e,x,z]:=QR.mp h;have a:fI r p q:=rB.mpr #[e.2,by rw[<- z];exact x];exact pB (UB ((b.adj p q).mp a))
 unfold vs0 at this;rw[QC,QC]at this;exact this
section
variable{Ψ:PEv}{Z:PEnds}{es:rC}{st:LS}{g:Str}
theorem se{m r:Rm}{ks:List Pt}{vs:List D}{x:Pt}{last:D}{o4:Option Sl}{z v:List Pt}{b u:List D}(hsz:(zA es st g).9<=1000)(R:Lf m)(I:CF m z b)(S:ks=z++v)(ev:vs=b++u)(h9:u.9=v.9)(F:x∈z)(hb:x≠UA)(i:LC es st g m r x z)
  (k:∀h y n l p A,CF m h y->ks=h++n->vs=y++l->l.9=n.9->h.9<z.9->p∈h->LC es st g m A p h->Z.nx (GS A (pC ks vs) last p (bD (pr p)))) :
  pF Ψ fE Z (GS r (pC ks vs) last x o4):=by
 let#[h,y,p,j,e,J,Q,w,B,X,G]:=I.find F hb;have M:=I.len;have L:=J.len;have H:e.9=j.length:=by rw[X,G,QI,QI,QM,QM]at M;omega
 have s:ks=h++x::(j++v):=by rw[S,X,Q8];rfl
 have o:vs=y++pr p::(e++u):=by rw[ev,G,Q8];rfl
 let#[W,K]:=Ke R i F hb w B λq P=>by rw[X];exact Qn _ P
 have a:=i.adjw W;have C:=ZS a;have O:Key r p:=by rw[bB,i.keys];exact pB a
 have N:Key r x:=by rw[bB,i.keys];exact pB (UB a)
 have E:=i.toBase.inn;have Y:pF Ψ %[.set 3 (.var 4)|2] Z (GS (B1 r p x) (pC ks vs) last x (bD (pr p))):=by have:=k h y (x::(j++v)) (pr p::(e++u)) p (B1 r p x) J s o (by rw[QM,QM,QI,QI];omega) (by rw[X,QI,QM];omega) Q K;unfold GS at this;delta GS;simp![↓jA];exact this
 have f:pF Ψ %[.six (.idx (.var 0) (.var 4)) (.var 3) (.bin .Sub (.idx (.idx (.var 0) (.var 4)) (.var 3)) (.int 1)),.six (.idx (.var 0) (.var 3)) (.var 4) (.bin .Add (.idx (.idx (.var 0) (.var 3)) (.var 4)) (.int 1)),.set 3 (.var 4)|2] Z (GS r (pC ks vs) last x (bD (pr p))):=by have i1:=E p;have i2:=E x;refine zx O ((i.adj _ _).mpr a) () (yx ?_ ?_ ?_ Y);exact dJ.mpr (.inr N);show fI _ x p;have:=(i.adj x p).mpr (UB a);unfold fI at this ⊢;rw[uE,a8 C];exact this;rw[uE,a8 C];omega
 unfold GS at f;delta GS;delta fE;simp![↓jA];rw[s,o]at f ⊢;refine Bp L (by rw[QI,QI];omega) B ?_;simp![↓jA];exact f
end
section
variable{Ψ:PEv}{W:LT->Prop}{n m:Bool}{E:XE}{ρ:xA}{R:T->Prop}{a g f:Str}{es:rC}{st c:LS}{r:Rm}{Z:PEnds}{ks:List Pt}{vs:List D}{L:Bool->Prop}{Q:T->Bool->Prop}{i:Nat}{cs:List (LS)}
def KQ:PSp where
 md:=[.chg]
 run:=λy Q _=>∃(es:rC) (st:LS) (g:Str) (h:Rm) (ks:List Pt) (vs:List D),y=[fB h,.d (.dict (pC ks vs)),.d (pr (tO g))]/\((zA es st g).9<=1000/\VG es st/\Flow es st g h/\CF h ks vs/\tO g∈ks)/\∀x,Flow es st g x->out es st g x UA=out es st g h UA+1->Q (.d .none) [fB x]
theorem Ek(B:Ψ.va "BEGIN"=jr (pr UA)):UD Ψ nG KQ aL NI:=by
 rintro _ Q _ ⟨es,st,g,k,ks,vs,rfl,⟨N,M,fl,H,I⟩,q⟩;refine iK [oW (fB k),bD (.dict (pC ks vs)),bD (pr (tO g)),kv,kv] ?_;delta nG;simp![↓jA];refine mI (λm ρ=>∃r h x v u y o4,m=h.9/\CF k h x/\ks=h++v/\vs=x++u/\u.9=v.9/\y∈h/\LC es st g k r y h/\ρ=GS r (pC ks vs) (pr (tO g)) y o4) ks.9 #[k,ks,vs,[],[],tO g,_,rfl,H,by rw[qJ],by rw[qJ],rfl,I,O8 fl ks,rfl] ?_;rintro m ρ ⟨r,h,x,v,u,y,o4,em,C,S,ev,J,K,Y,rfl⟩;have o:HE (pr y):=v9 M (by have:=FI fl.toBase.dom fl.toBase.bg (C.rch y K);rw[bB,fl.keys]at this;exact this);have s:HE (pr UA):=MD cP.1 cP.2;have z:∀L:Bool->Prop,L (!decide (y=UA))->KB .NotEq (.d (pr y)) (.d (pr UA)) L:=λL l=>by show HE (pr y)/\HE (pr UA)/\L (!PyData.eqv (pr y) (pr UA));rw[JX];exact#[o,s,l]
 by_cases e:y=UA;subst e;delta GS;simp![↓DH B];refine z _ ?_;rw[dT rfl];let#[P,O]:=Il Y;exact q r P O;have A:=λ(Z:PEnds) G=>se (Ψ:=Ψ) (Z:=Z) (last:=pr (tO g)) (o4:=o4) N fl.ndi C S ev J K e Y G;unfold GS at A;delta GS;simp![↓DH B];refine z _ ?_;rw[dF e];refine A _ λw j X b p F a1 a2 a3 a4 a5 a6 a7=>#[w.9,(),F,w,j,X,b,p,_,rfl,a1,a2,a3,a4,a6,a7,rfl]
theorem B5{l:Inn}:mL .val [(eD l,kd)] W=W ((l.map λe=>pr e.1).map T.d):=KU _ _
theorem zj{kvs:List (D×D)}(h:OC kvs=jr kf):mL .val [(.d (.dict kvs),n)] W=W ((kvs.map (·.1)).map T.d):=by unfold mL CB;rw[rA];show NB .val [zC kvs] W=_;unfold zC;rw[h];exact KU _ _
theorem Bh{a b h:PX}{t:Str}{x:T}{R:Option T->Prop}:gG Ψ E [] [t] (.nm 0) (.and a b) h ρ x R=IQ Ψ (.and a b) E (jr (.bor x)::lockA ρ) λk z=>if k=kf then oB Ψ h E z λy n _=>oC y n (R (jr y)) else R none:=rfl
theorem MS{p:Pt}:XA (.d (pr p)) n (.d (.int 0)) m R=R (.d (.str p.1)):=by delta pr;rw[t5,Uf,zB]
theorem Jp{p:Pt}:XA (.d (pr p)) n (.d (.int 1)) m R=R (.d (.str p.2)):=by delta pr;rw[t5,lu,zB]
theorem Jg:(T.d (.tuple [.str a,.str "from"]))=.d (pr (fR a)):=rfl
theorem b7:(T.d (.tuple [.str a,.str "to"]))=.d (pr (tO a)):=rfl
def MG:PSp where
 md:=[.bor]
 run:=λh Q _=>∃(es:rC) (st:LS) (g:Str) (r:Rm) (n:Str),h=[fB r,.d (.str n)]/\((zA es st g).9<=1000/\Flow es st g r/\uW r n=1)/\∀m,Yb r n m->Q (.d (.str m)) []
theorem E1:UD Ψ dE MG UH SF:=by
 rintro _ Q _ ⟨es,st,g,r,n,rfl,⟨M,fl,A⟩,q⟩;have J:=fl.toBase.inn (fR n);let#[b,k]:=Kl fl A;have o:fI r (fR n) (tO b):=(fl.adj _ _).mpr (UB (fl.toBase.adjw k.2));have X:Key r (fR n):=by rw[bB,fl.keys];exact pB ((fl.adj _ _).mp o)
 refine kA [jr (.bor (fB r)),bD (.str n),kv] ?_;delta dE;simp![Jg,↓cI];refine#[(),NE X ?_];simp![↓Ta,↓B5];have F:((lk r (fR n)).map λe=>pr e.1).map T.d=((lk r (fR n)).map (·.1)).map λp=>T.d (pr p):=by rw[QW,QW];rfl
 rw[F];refine fA (λp=>T.d (pr p)) (λ(p:Pt)=>T.d (.str p.1)) (λp=>!decide (p.1=n)&&decide (0<rm r p (fR n))) ((lk r (fR n)).map (·.1)) [] _ (λx K R u=>?_) (by show 0+((lk r (fR n)).map (·.1)).9<=_;rw[QC];omega) ?_;let#[e,B,C]:=QR.mp K;have G:fI r (fR n) x:=rB.mpr #[e.2,by rw[<- C];exact B];have w:fI r x (fR n):=(fl.adj _ _).mpr (UB ((fl.adj _ _).mp G));have s:Key r x:=by rw[bB,fl.keys];exact pB ((fl.adj _ _).mp w)
 let#[v,hv]:=w;have ev:rm r x (fR n)=v:=by unfold rm;rw[hv];rfl
 rw[ev]at u;simp![↓Bh,↓MS,↓cI];by_cases c:x.1=n;rw[dT c]at u ⊢;exact u;rw[dF c]at u ⊢;simp only[wn,↓reduceIte];refine NE s ?_;simp![↓y0];refine oQ hv ?_;simp![↓MS];by_cases d:0<v;rw[dT d]at u ⊢;exact u;rw[dF d]at u ⊢;exact u;have j:tO b∈((lk r (fR n)).map (·.1)).filter λp=>!decide (p.1=n)&&decide (0<rm r p (fR n)):=by let#[v,hv]:=o;refine QZ.mpr #[QR.mpr #[_,yH hv,rfl],?_];rw[dF (show ¬ (tO b).1=n from λz=>k.1 z.symm),dT k.2];rfl
 cases l:((lk r (fR n)).map (·.1)).filter λp=>!decide (p.1=n)&&decide (0<rm r p (fR n)) with
 |nil=>rw[l]at j;exact(nomatch j)
 |cons y I =>
  have Y:y∈((lk r (fR n)).map (·.1)).filter λp=>!decide (p.1=n)&&decide (0<rm r p (fR n)):=by rw[l];exact QD
  have h:=(QZ.mp Y).2;rw[Qb,Q4,decide_eq_false_iff_not,i0]at h;let#[m,rfl]:=Lg fl.toBase ((fl.adj _ _).mpr (fl.toBase.adjw h.2));rw[Qf,gA (λp:Pt=>j0 p.1)];simp![↓jA];rw[QX,Uf];simp![↓jA];exact q m #[λz=>h.1 z.symm,h.2]
def ZI:PSp where
 md:=[.bor]
 run:=λh Q _=>∃(es:rC) (st:LS) (g:Str) (r:Rm) (f:Str),h=[fB r,.d (.str f),.d (.str g)]/\((zA es st g).9<=1000/\Flow es st g r/\OV r f)/\∀c,Run r g f c g->Q (.lst ((c.map j0).map T.d)) []
theorem Bj(fl:Flow es st g r)(w:OV r f){n:Str}(h:Run r g f c n):(∀x∈c,tO x∈vs0 es st g)/\tO n∈vs0 es st g:=by
 induction h with
 |nil=>exact#[λx y=>(nomatch y),(zJ fl.toBase w).1]
 |go _ _ v u=>refine#[λx y=>?_,(zJ fl.toBase v.2).1];rcases Qg.mp y with z|z;exact u.1 x z;rw[QJ.mp z];exact u.2
theorem HY(fl:Flow es st g r)(y:OV r f){n:Str}(h:Run r g f c n):c.9<=(zA es st g).length:=by
 have nd:=(h.nd fl y).1;have:=jH (ks:=c.map tO) (ns:=vs0 es st g) (Wn tO (λa b u z=>u (FB z)) nd) λp w=>by let#[x,v,e]:=QR.mp w;rw[<- e];exact(Bj fl y h).1 x v
 unfold vs0 at this;rw[QC,QC]at this;exact this
def bn(r:Rm)(f g:Str)(c:LS)(n:Str):xA:=[jr (.bor (fB r)),bD (.str f),bD (.str g),oW (.lst ((c.map j0).map T.d)),bD (.str n)]
theorem df(y:Ψ.sp "name_behind"=MG){n:Str}(x:(zA es st g).9<=1000)(fl:Flow es st g r)(h:uW r n=1)(hl:c.9<=1000)(k:∀m,Yb r n m->Z.nx (bn r f g (c++[n]) m)) :
  pF Ψ VD Z (bn r f g c n):=by
 delta bn at k ⊢;delta VD;simp![↓VS,↓yA (md:=[.bor]) y rfl rfl];refine#[by rw[QC,QC];omega,#[_,_,_,_,_,rfl,#[x,fl,h],λm nx=>?_]];have:=k m nx;rw[QO,QO]at this;simp![↓jA];exact this
theorem z8(j:Ψ.sp "name_behind"=MG):UD Ψ eF ZI HJ ZH:=by
 rintro _ Q _ ⟨es,st,g,r,f,rfl,⟨b,fl,z⟩,q⟩;have u:kn=16777216:=Q6;refine kA [jr (.bor (fB r)),bD (.str f),bD (.str g),kv,kv] ?_;delta eF
 simp![↓jA];refine#[Qv _,mI (λm ρ=>∃c n,m+c.9=1001/\Run r g f c n/\ρ=bn r f g c n) 1001 #[[],f,rfl,.nil,rfl] ?_];rintro m ρ ⟨c,n,l,x,rfl⟩;have hl:=HY fl z x;by_cases e:n=g;subst e;delta bn;simp![↓jA];exact q c x;have v:=λ(Z:PEnds) u=>df (Ψ:=Ψ) (Z:=Z) (f:=f) (g:=g) (c:=c) j b fl (x.thr1 fl z e) () u;unfold bn at v;delta bn;simp![↓jA];rw[dF e];refine v _ λk w=>?_;have h:=x.go e w;have y:=HY fl z h;rw[QI,qF]at y;exact#[m - 1,(),c++[n],k,by rw[QI,qF];omega,h,rfl]
theorem Zn{q:Pt}(hv:vs.9=ks.9)(hb:UA∈ks):KB .NotIn (.d (pr q)) (.d (.dict (pC ks vs))) L=L (!decide (q∈ks)):=by show(∃b,(OC (pC ks vs)=jr b∨pC ks vs=[])/\aD b (pr q)/\L (!(cA ((pC ks vs).map (·.1)) (pr q)).isSome))=_;rw[JJ hv hb,xM hv,uH];exact ir #[λ#[_,_,_,h]=>h,λh=>#[kf,.inl rfl,MB q,h]]
theorem rh{q:Pt}(hv:vs.9=ks.9)(hb:UA∈ks):KB .In (.d (pr q)) (.d (.dict (pC ks vs))) L=L (decide (q∈ks)):=by show(∃b,(OC (pC ks vs)=jr b∨pC ks vs=[])/\aD b (pr q)/\L (cA ((pC ks vs).map (·.1)) (pr q)).isSome)=_;rw[JJ hv hb,xM hv,uH];exact ir #[λ#[_,_,_,h]=>h,λh=>#[kf,.inl rfl,MB q,h]]
theorem Kr{x:LS}(y:x.9<64)(q:∀h:LS,h.Perm x->t3 h=kf->Q (.lst ((h.map j0).map T.d)) kf):uM .sorted [(.lst ((x.map j0).map T.d),n)] Q:=by unfold uM CB;rw[rD];exact .inl #[_,x,rfl,KA _,y,q]
theorem Vr{ls:List (LS)}(x:ls.9<64)(q:∀h:List (LS),h.Perm ls->Q (.lst ((h.map NC).map T.d)) kf):uM .sorted [(.d (.list (ls.map NC)),n)] Q:=by unfold uM CB;rw[rA];exact .inr (.inl #[_,ls,rfl,KA _,x,q])
def PN(ks:List Pt):LS:=(ks.filter (mH ks)).map λp=>p.1
def UQ:PSp where
 run:=λh Q _=>∃(ks:List Pt) (vs:List D),h=[.d (.dict (pC ks vs))]/\(vs.9=ks.9/\UA∈ks/\ks.9<=1000/\(ks.filter (mH ks)).9<64)/\∀cut:LS,cut.Perm (PN ks)->t3 cut=kf->Q (.lst ((cut.map j0).map T.d)) []
theorem Nd:UD Ψ aF UQ GJ YH:=by rintro _ Q _ ⟨ks,vs,rfl,⟨hv,hb,k,v⟩,q⟩;refine kA [bD (.dict (pC ks vs))] ?_;delta aF;simp![↓zj (JJ hv hb),xM hv];rw[<- gA];refine fA (λp=>T.d (pr p)) (λ(p:Pt)=>T.d (.str p.1)) (mH ks) ks [] _ (λx w R h=>?_) (by show 0+ks.9<=_;omega) ?_;have h:R (if(decide (x.2="to")&&!decide (fR x.1∈ks))=kf then jr (T.d (.str x.1)) else kv):=h;simp![↓Bh,↓MS,↓Jp,Jg,↓Zn hv hb];by_cases c:x.2="to";rw[dT c]at h ⊢;refine#[(),?_];by_cases d:fR x.1∈ks;rw[dT d]at h ⊢;exact h;rw[dF d]at h ⊢;exact h;rw[dF c]at h ⊢;exact h;rw[Qf,gA (λp:Pt=>j0 p.1),show((ks.filter (mH ks)).map λp=>j0 p.1)=(PN ks).map j0 by unfold PN;rw[QW];rfl];refine Kr (by unfold PN;rw[QC];exact v) λy u z=>?_;simp![↓jA];exact q y u z
theorem y4(f:Flow es st g r):(((lk r UA).map (·.1)).filter λy=>decide (0<rm r y UA)).9<=st.length:=by
 have u:∀y∈((lk r UA).map (·.1)).filter (λy=>decide (0<rm r y UA)),y=tO y.1/\OV r y.1:=λy x=>by have h:=ii (QZ.mp x).2;let#[n,rfl]:=Y8 f.toBase ((f.adj _ _).mpr (f.toBase.adjw h));exact#[rfl,h]
 have nd:(((lk r UA).map (·.1)).filter λy=>decide (0<rm r y UA)).Nodup:=(f.ndi UA).sublist qD;have:=tR (ks:=(((lk r UA).map (·.1)).filter λy=>decide (0<rm r y UA)).map (·.1)) (ns:=st) (by
  refine Wn _ (λa b h=>h) (wb (λ{a b} k hb v z=>?_) nd);exact v (by rw[(u a k).1,(u b hb).1,z])) λs w=>by
  let#[y,x,e]:=QR.mp w;rw[<- e];exact(oK f.toBase (u y x).2).1
 rw[QC]at this;exact this
theorem aK{α v:Type}{body:T->(Option T->Prop)->Prop}(P:α->v->Prop)(g:α->T)(f:v->T):∀(l:List α) (h:LT) (Q:LT->Prop),(∀x∈l,∀R:Option T->Prop,(∀y,P x y->R (jr (f y)))->body (g x) R)->h.9+l.9<=kn->(∀u,x0 P l u->Q (h++u.map f))->RC body (l.map g) h Q
 |[],h,Q,_,hl,q=>by have:=q [] .nil;rw[ww,qJ]at this;exact#[by rw[wV]at hl;omega,this]|x::r,h,Q,hb,hl,q=>by
  rw[QM]at hl;refine hb x QD _ λy k=>#[(),?_]
  refine aK P g f r _ Q (λz w=>hb z (QE _ w)) (by rw[QI,qF];omega) λu b=>?_;have:=q (y::u) (.cons k b);rw[QX]at this;rw[Q8];exact this
theorem Vi{r:PT}:UI Ψ E r Z i (sf ks vs) kf ρ=iB Ψ E r Z (ρ.set i (bD (.dict (pC ks vs)))):=by unfold UI;rw[dn];exact ir #[λh=>h.2,λh=>#[rfl,h]]
def Bt(c:LS):T:=.lst ((c.map j0).map T.d)
theorem xn(cs:List (LS)):ersT (cs.map Bt)=cs.map NC:=by rw[rJ,QW];congr 1;funext c;show PyData.list (ersT ((c.map j0).map T.d))=_;rw[vB];rfl
theorem Gy{r:PT}:UI Ψ E r Z i (.lst (cs.map Bt)) kf ρ=iB Ψ E r Z (ρ.set i (bD (.list (cs.map NC)))):=by
 have e:(T.lst (cs.map Bt)).er=.list (cs.map NC):=by show PyData.list (ersT (cs.map Bt))=_;rw[xn]
 unfold UI;rw[e];exact ir #[λh=>h.2,λh=>#[rfl,h]]
theorem Rr{a b:LT}:pD [.lst a,.lst b]=.tup [.lst a,.lst b]:=rfl
theorem OK:∀{cs:List (LS)},RJ cs↔cs.Pairwise λc d=>∀x∈c,x∉d
 |[]=>#[λ_=>.nil,λ_=>trivial]|c::cs=>by rw[wu,<- OK];exact WQ
theorem dY{ds:List (LS)}(h:ds.Perm cs)(a:RJ cs):RJ ds:=OK.mpr ((h.pairwise_iff (λ{a b} z x u y=>z x y u)).mpr (OK.mp a))
structure Good(es:rC)(st:LS)(g:Str)(cs:List (LS))(cut:LS):Prop where
 chn:∀c∈cs,Chn es st g c g/\c.Nodup/\∀x∈c,x≠g
 apart:RJ cs
 len:cs.9=cut.9
 few:cut.9<=11
 nd:cut.Nodup
 srt:t3 cut=kf
 ng:g∉cut
 led:¬ ∃a,(a,g)∈es/\Led es st g cut a
 okn:∀s∈cut,wB s=kf
end
section
variable{es:rC}{st:LS}{g:Str}{r:Rm}
theorem BM(f:Flow es st g r):∀{fs:LS}{cs:List (LS)},fs.Nodup->(∀s∈fs,OV r s)->x0 (λs c=>Run r g s c g) fs cs->RJ cs/\(∀c∈cs,∃s∈fs,Run r g s c g)
 |_,_,_,_,.nil=>#[trivial,λ_ h=>(nomatch h)]
 |s::fs,c::cs,nd,hf,.cons h t=>by
  let#[b,a]:=Qj.mp nd;let#[l,k]:=BM f a (λs j=>hf s (QE _ j)) t;refine#[#[λd w x i e=>?_,l],λd w=>?_];let#[u,y,v]:=k d w;have:=Run.apart f (hf s QD) (hf u (QE _ y)) h v x i e;exact b (this▸y);rcases QK.mp w with z|z
  ·rw[z];exact#[s,QD,h]
  let#[u,y,v]:=k d z;exact#[u,QE _ y,v]
def Vv(r:Rm):List Pt:=((lk r UA).map λe=>e.1).filter λy=>decide (0<rm r y UA)
def rX(r:Rm):LS:=(Vv r).map λp=>p.1
theorem Z9(f:Flow es st g r):∀y∈Vv r,y=tO y.1/\OV r y.1:=λy x=>by have h:=ii (QZ.mp x).2;let#[n,rfl]:=Y8 f.toBase ((f.adj _ _).mpr (f.toBase.adjw h));exact#[rfl,h]
theorem vt(f:Flow es st g r):(rX r).Nodup:=by have nd:(Vv r).Nodup:=(f.ndi UA).sublist qD;refine Wn _ (λa b h=>h) (wb (λ{a b} y hb x z=>?_) nd);exact x (by rw[(Z9 f a y).1,(Z9 f b hb).1,z])
theorem pX(f:Flow es st g r):∀s∈rX r,OV r s:=λs x=>by let#[y,h,e]:=QR.mp x;rw[<- e];exact(Z9 f y h).2
theorem pK(f:Flow es st g r):out es st g r UA=(rX r).9/\(rX r).9<=st.length:=by have x:=Se f;have h:=y4 f;unfold rX;rw[QC];exact#[x,h]
theorem dN{α x:Type}{P:α->x->Prop}{l:List α}{m:List x}(h:x0 P l m):l.9=m.length:=qI h
theorem Le(f:Flow es st g r)(C:VG es st)(F:st.9<=11){ks:List Pt}{vs:List D}(W:CF r ks vs)(hk:∀p,p∈ks↔Rch r p)(q:tO g∉ks){cs ds:List (LS)}(Y:x0 (λs c=>Run r g s c g) (rX r) cs)(j:ds.Perm cs){cut:LS}(w:cut.Perm (PN ks))(sc:t3 cut=kf):Good es st g ds cut:=by
 let#[J,I]:=BM f (vt f) (pX f) Y;let#[P,O]:=pK f;have N:=TU f W.nd hk q;have M:(PN ks).9=(ks.filter (mH ks)).length:=by unfold PN;rw[QC]
 have L:=dN Y;have u:∀s,s∈PN ks↔tO s∈ks/\fR s∉ks:=λs=>by unfold PN;rw[QR];constructor;rintro⟨y,B,e⟩;let#[v,x]:=QZ.mp B;let#[n,X,k]:=SD.mp x;subst X;have e:n=s:=e;subst e;exact#[v,k];rintro⟨v,x⟩;exact#[tO s,QZ.mpr #[v,SD.mpr #[s,rfl,x]],rfl]
 have l:(PN ks).Nodup:=by unfold PN;refine Wn _ (λa b h=>h) (wb (λ{a b} E hb A z=>?_) (W.nd.sublist (qD (p:=mH ks))));let#[n,G,_]:=SD.mp (QZ.mp E).2;let#[m,X,_]:=SD.mp (QZ.mp hb).2;subst G X;have z:n=m:=z;exact A (by rw[z])
 have K:=w.length_eq;refine#[λc hc=>?_,dY j J,by rw[j.length_eq,K];omega,(),w.nodup_iff.mpr l,sc,λz=>q ((u g).mp (w.mem_iff.mp z)).1,?_,λs o=>?_];let#[s,o,i]:=I c (j.mem_iff.mp hc);have Z:=pX f s o;exact#[i.chn f Z,(i.nd f Z).1,i.ng];exact zf f hk q λn v x=>w.mem_iff.mpr ((u n).mpr #[v,x]);have v:=((u s).mp (w.mem_iff.mp o)).1;have x:=bB.mp (FI f.toBase.dom f.toBase.bg ((hk _).mp v));rw[f.keys]at x;have k:=(v9 C x).1;simp only[pr,tO,QAc,wZ,Qb]at k;exact k.1
end
def iS(es:rC)(st:LS)(g:Str)(r:Rm)(h:List (D×D))(o5 o6:Option Sl):xA:=[bD (.list (es.map pr)),bD (.tuple (st.map j0)),bD (.str g),oW (fB r),bD (.dict h),o5,o6]
section
variable{Ψ:PEv}{Z:PEnds}{es:rC}{st:LS}{g:Str}{r:Rm}
section
variable{q:PT}{h:List (D×D)}{o6:Option Sl}
theorem ly(u:Ψ.sp "rooms_of"=YI)(z:Ψ.sp "points_reached"=NF)(y:es.9<=126)(x:st.9<=11)(k:∀ks vs,CF (zA es st g) ks vs->(∀p,p∈ks↔Rch (zA es st g) p)->pF Ψ q Z (iS es st g (zA es st g) (pC ks vs) kv kv)) :
  pF Ψ (.seq (.own 3 (.call "rooms_of" %[.var 0,.var 1,.var 2|1])) (.seq (.set 4 (.call "points_reached" %[.var 3|1])) q)) Z [bD (.list (es.map pr)),bD (.tuple (st.map j0)),bD (.str g),kv,kv,kv,kv]:=by
 have ok:=NT (g:=g) y x;delta iS at k;simp![↓yA (md:=[]) u rfl rfl,↓yA (md:=[.bor]) z rfl rfl];refine#[_,_,_,rfl,#[y,x],?_];simp![↓VS,↓yA (md:=[.bor]) z rfl rfl];refine#[_,_,rfl,#[(.inl rfl),ok.dom,ok.bg,ok.sz.1],λks vs hc hk=>?_];simp![↓Vi];exact k ks vs hc hk
theorem gy(w:Ψ.sp "points_reached"=NF)(i:Ψ.sp "lay_chain"=KQ){ks:List Pt}{vs:List D}(v:(zA es st g).9<=1000)(a:VG es st)(f:Flow es st g r)(j:CF r ks vs)(b:tO g∈ks)
  (k:∀z x y,Flow es st g z->out es st g z UA=out es st g r UA+1->CF z x y->(∀p,p∈x↔Rch z p)->Z.nx (iS es st g z (pC x y) kv kv)) :
  pF Ψ JC Z (iS es st g r (pC ks vs) kv kv):=by
 delta iS at k ⊢;delta JC;simp![b7,↓cH (md:=[]) i rfl rfl,↓yA (md:=[.bor]) w rfl rfl];refine#[(),#[_,_,_,_,_,_,rfl,#[v,a,f,j,b],λz u e=>#[_,rfl,?_]]];simp![↓VS,↓yA (md:=[.bor]) w rfl rfl];refine#[_,_,rfl,#[(.inl rfl),u.toBase.dom,u.toBase.bg,(by rw[u.toBase.len];exact v)],λx y hc hk=>?_];simp![↓Vi];exact k z x y u e hc hk
theorem cy(w:Ψ.va "BEGIN"=jr (pr UA)){o5:Option Sl}(o:(zA es st g).9<=1000)(f:Flow es st g r)(k:pF Ψ q Z (iS es st g r h (bD (.list ((rX r).map j0))) o6)) :
  pF Ψ (.seq (.set 5 (.comp [] ["point"] (.nm 0) .val %[.idx (.var 3) (.glo "BEGIN")|1] (.cmp .Gt (.idx (.idx (.var 4) (.var 0)) (.glo "BEGIN")) (.int 0)) (.idx (.var 0) (.int 0)))) q) Z (iS es st g r h o5 o6):=by
 have s:=f.toBase.inn UA;delta iS at k ⊢;simp![↓cI,↓DH w];refine NE f.toBase.bg ?_;simp![↓Ta,↓B5];have m:((lk r UA).map λe=>pr e.1).map T.d=((lk r UA).map λe=>e.1).map λp=>T.d (pr p):=by rw[QW,QW];rfl
 rw[m];refine fA (λp=>T.d (pr p)) (λ(p:Pt)=>T.d (.str p.1)) (λy=>decide (0<rm r y UA)) ((lk r UA).map λe=>e.1) [] _ (λx b R z=>?_) (by show 0+((lk r UA).map λe=>e.1).9<=_;rw[QC];omega) ?_;let#[e,i,j]:=QR.mp b;have n:fI r UA x:=rB.mpr #[e.2,by rw[<- j];exact i];have u:fI r x UA:=(f.adj _ _).mpr (UB ((f.adj _ _).mp n));have a:Key r x:=by rw[bB,f.keys];exact pB ((f.adj _ _).mp u)
 let#[v,hv]:=u;have ev:rm r x UA=v:=by unfold rm;rw[hv];rfl
 rw[ev]at z;simp![↓cI,↓DH w];refine NE a ?_;simp![↓y0,↓DH w];refine oQ hv ?_;simp![↓MS];by_cases d:0<v;rw[dT d]at z ⊢;exact z;rw[dF d]at z ⊢;exact z;rw[Qf,gA (λp:Pt=>j0 p.1)];have l:((((lk r UA).map λe=>e.1).filter λy=>decide (0<rm r y UA)).map λp=>j0 p.1)=(rX r).map j0:=by unfold rX Vv;rw[QW];rfl
 rw[l];simp![↓jA];exact k
theorem uy(a:Ψ.sp "chain_from"=ZI)(u:(zA es st g).9<=1000)(b:st.9<=11)(f:Flow es st g r)(k:∀cs,x0 (λs c=>Run r g s c g) (rX r) cs->pF Ψ q Z (iS es st g r h (bD (.list ((rX r).map j0))) (bD (.list (cs.map NC))))) :
  pF Ψ (.seq (.set 6 (.comp [] ["first"] (.nm 0) .val %[.var 5|1] .nop (.call "chain_from" %[.var 4,.var 0,.var 3|1]))) q) Z (iS es st g r h (bD (.list ((rX r).map j0))) o6):=by
 have hl:=(pK f).2;delta iS at k ⊢;simp![↓jA];rw[<- gA j0 (rX r)];refine aK (λs c=>Run r g s c g) (λs=>T.d (.str s)) Bt (rX r) [] _ (λx z R w=>?_) (by show 0+(rX r).9<=_;omega) λcs v=>?_;simp![↓VS,↓yA (md:=[.bor]) a rfl rfl];refine#[_,_,_,_,_,rfl,#[u,f,(pX f x z)],λc y=>?_];simp![↓jA];exact w c y;rw[Qf];simp![↓Gy];exact k cs v
end
end
section
variable{es u:rC}{F sr z:LS}{x:Str}{n:Int}
noncomputable def VI:PSp where
 run:=λy Q _=>∃(es:rC) (st:LS) (g:Str),y=[.d (.list (es.map pr)),.d (.tuple (st.map j0)),.d (.str g)]/\(es.9<=126/\st.9<=11/\VG es st)/\∀h cut,Good es st g h cut->Q (.tup [.lst ((h.map NC).map T.d),.lst ((cut.map j0).map T.d)]) []
theorem k8{Ψ:PEv}(S:Ψ.sp "rooms_of"=YI)(G:Ψ.sp "points_reached"=NF)(R:Ψ.sp "lay_chain"=KQ)(P:Ψ.sp "chain_from"=ZI)(C:Ψ.sp "full_names"=UQ)(O:Ψ.va "BEGIN"=jr (pr UA))(ds Q E)(h:VI.run ds Q E):Vz Ψ ZG VI BG XF ds Q:=by
 let#[es,st,g,rfl,#[W,i,B],q]:=h;have K:kn=16777216:=Q6;have j:(zA es st g).9<=1000:=(NT (g:=g) W i).sz.1;refine kA [bD (.list (es.map pr)),bD (.tuple (st.map j0)),bD (.str g),kv,kv,kv,kv] ?_;refine ly S G W i λo w H M=>?_;have b0:=pK (uh (es:=es) (st:=st) (g:=g));delta iS;simp![↓jA];refine mI (λm Y=>∃r v b,(m:Int)+out es st g r UA=12/\Flow es st g r/\CF r v b/\(∀p,p∈v↔Rch r p)/\Y=iS es st g r (pC v b) kv kv) (12 - out es st g (zA es st g) UA).toNat #[zA es st g,o,w,(),uh,H,M,rfl] ?_;rintro m Y ⟨r,v,b,em,f,y,hk,rfl⟩;have bd:=pK f;by_cases a:tO g∈v;have k:=λ(Z:PEnds) K=>gy (Ψ:=Ψ) (Z:=Z) G R j B f y a K;unfold iS at k;delta iS;simp![b7,↓rh y.len y.hb];refine#[(),?_];rw[dT a];refine k _ λI s l X e c' N=>#[m - 1,?_,I,s,l,?_,X,c',N,rfl]
 have:=pK X;omega;have:=pK X;omega;have A:pF Ψ %[.set 5 (.comp [] ["point"] (.nm 0) .val %[.idx (.var 3) (.glo "BEGIN")|1] (.cmp .Gt (.idx (.idx (.var 4) (.var 0)) (.glo "BEGIN")) (.int 0)) (.idx (.var 0) (.int 0))),.set 6 (.comp [] ["first"] (.nm 0) .val %[.var 5|1] .nop (.call "chain_from" %[.var 4,.var 0,.var 3|1])),.ret (.tup %[.bi .sorted %[.var 6|1],.call "full_names" %[.var 4|1]|1])|2] (eZ Q) (iS es st g r (pC v b) kv kv):=by refine cy O j f (uy P j i f λcs k=>?_);have lc:=dN k;have l3:=TU f y.nd hk a;delta iS;simp![↓yA (md:=[]) C rfl rfl];refine Vr () λds J=>?_;simp![↓yA (md:=[]) C rfl rfl];refine#[_,_,rfl,#[y.len,y.hb,(QV (y.le f.toBase.dom f.toBase.bg) (by rw[f.toBase.len];exact j)),()],λcut L sc=>?_];simp![Rr];exact#[(),q ds cut (Le f B i y hk a k J L sc)]
 unfold iS at A;delta iS;simp![b7,↓rh y.len y.hb];refine#[(),?_];rw[dF a];exact A
def RU(es:rC)(F:LS):rC:=es.filter λe=>decide (e.1∈F)
theorem zM{e:Str×Str}:e∈RU es F↔e∈es/\e.1∈F:=by unfold RU;rw[QZ,i0]
def RL(es:rC)(sr:LS)(x:Str)(F:LS)(n:Int):Prop:=∃h:List (LS),RJ h/\(∀c∈h,Chn (RU es F) sr x c x)/\n<=(h.9:Int)
theorem Chn.sub{g:Str}(w:∀e∈es,e∈u)(v:∀s∈sr,s∈z){c:LS}{n:Str}(h:Chn es sr g c n):Chn u z g c n:=by
 induction h with|st a b=>exact .st (v _ a) b|go _ b c y=>exact .go y b (w _ c)
theorem RL.sub{w:LS}{v:Int}(j:∀e∈es,e∈u)(i:∀s∈sr,s∈z)(g:∀y∈F,y∈w)(k:v<=n)(h:RL es sr x F n):RL u z x w v:=by let#[p,a,c,l]:=h;refine#[p,a,λd f=>Chn.sub (λe b=>?_) i (c d f),QAV k l];let#[o,m]:=zM.mp b;exact zM.mpr #[j e o,g _ m]
theorem D8{cs:List (LS)}{cut:LS}(h:Good (RU es F) sr x cs cut):RL es sr x F n↔n<=(cs.9:Int):=by constructor;rintro⟨y,a,c,l⟩;have:=t4 a c h.led;rw[<- h.len]at this;exact QAV l (Int.ofNat_le.mpr this);exact λl=>#[cs,h.apart,λc hc=>(h.chn c hc).1,l]
inductive Held(es:rC)(sr:LS)(nd:List (Str×Int)):Str->Prop
 |see {x:Str}{n:Int}:(x,n)∈nd->x∈sr->Held es sr nd x
 |tell {x:Str}{n:Int}(F:LS):(x,n)∈nd->(∀y∈F,Held es sr nd y)->RL es sr x F n->Held es sr nd x
end
section
variable{es v:rC}{sr y:LS}{nd u:List (Str×Int)}
theorem e9{S:LS}(f:∀x∈S,Held es sr nd x)(e:∀x n,(x,n)∈nd->x∈sr->x∈S)(k:∀x n,(x,n)∈nd->x∉S->¬ RL es sr x S n)(x:Str):x∈S↔Held es sr nd x:=by
 refine#[f x,λh=>?_];induction h with|see a b=>exact e _ _ a b|@tell x n F a _ m w=>by_cases z:x∈S;exact z;exact im (m.sub (λ_ h=>h) (λ_ h=>h) w (QCe _)) (k x n a z)
theorem SR{x:Str}(h:Held es sr nd x):∃n,(x,n)∈nd:=by
 cases h with|see a _=>exact#[_,a]|tell _ a=>exact#[_,a]
end
noncomputable def RE:PSp where
 md:=[.fro,.fro,.shal]
 run:=λz Q _=>∃(x:rC) (h F:LS) (g:Str),z=[.d (.tuple (x.map pr)),.d (.tuple (h.map j0)),.lst ((F.map j0).map T.d),.d (.str g)]/\(x.9<=126/\h.9<=11/\VG x h)/\∀y cut,Good (RU x F) h g y cut->Q (.tup [.lst ((y.map NC).map T.d),.lst ((cut.map j0).map T.d)]) []
theorem Vd{Ψ:PEv}(w:Ψ.sp "apart_chains"=VI):UD Ψ iD RE XG KF:=by
 rintro _ Q _ ⟨h,u,F,g,rfl,⟨b,a,v⟩,q⟩;have k:(RU h F).9<=126:=QV (Qs _ _) b;have z:VG (RU h F) u:=#[v.1,λe f=>v.2 e (zM.mp f).1]
 refine kA [bD (.tuple (h.map pr)),bD (.tuple (u.map j0)),jr (.bor (.lst ((F.map j0).map T.d))),bD (.str g)] ?_;delta iD;simp![↓yA (md:=[]) w rfl rfl];rw[<- gA pr h];refine fA (λp=>T.d (pr p)) (λ(p:Str×Str)=>T.d (pr p)) (λp=>decide (p.1∈F)) h [] _ (λx l R y=>?_) (by show 0+h.9<=_;omega) ?_;simp![↓MS,bH,VE,aB,true_or];by_cases d:x.1∈F;rw[dT d]at y ⊢;exact y;rw[dF d]at y ⊢;exact y;rw[Qf,gA pr];simp![↓yA (md:=[]) w rfl rfl];refine#[_,_,_,rfl,#[k,a,z],λj cut i=>?_];simp![↓jA];exact q j cut i
section
variable{Ψ:PEv}{E:XE}{ρ:xA}{K:TK}{a b c h:PX}{ds:List D}{n m:Bool}{L:Bool->Prop}
def iq(x:T)(n:Bool)(Ψ:PEv)(b:PX)(E:XE)(ρ:xA)(K:TK):Prop:=sq (α:=Option Int) (nA x n) ρ (λρ R=>(pe Ψ b E).e ρ λu _ y=>EF u.er λo=>R o y) λu y=>kK (nA x n).vw kv u λz k=>K z k y
def tP(x:T)(Q:Option Int->Prop):Prop:=EF x.er Q
theorem Vc{i:Int}{Q:Option Int->Prop}:tP (.d (.int i)) Q=Q (jr i):=rfl
theorem ij{x:T}{R:Option Int->xA->Prop}:sq (α:=Option Int) x ρ (λρ (R:Option Int->xA->Prop)=>R kv ρ) R=R kv ρ:=by unfold sq;split<;>rfl
theorem Bo{j:Nat}:oB Ψ (.slc a .nop (.var j)) E ρ K=oB Ψ a E ρ λx n v=>iq x n Ψ (.var j) E v K:=by show(pe Ψ a E).e ρ (λx n v=>sq (α:=Option Int) (nA x n) v (λρ (R:Option Int->xA->Prop)=>R kv ρ) λl w=>sq (α:=Option Int) (nA x n) w (λρ R=>(pe Ψ (.var j) E).e ρ λu _ y=>EF u.er λo=>R o y) λu y=>kK (nA x n).vw l u λz k=>K z k y)=_;simp only[ij];rfl
theorem My{x:D}:iq (.d x) n Ψ b E ρ K=oB Ψ b E ρ λu _ y=>tP u λo=>CL (.d x) n kv o λz k=>K z k y:=by cases n<;>rfl
theorem Ee(a b:List D):(T.tup [.lst (a.map T.d),.lst (b.map T.d)]).er=.tuple [.list a,.list b]:=by show PyData.tuple [.list (ersT (a.map T.d)),.list (ersT (b.map T.d))]=_;rw[vB,vB]
theorem zp{a b:List D}{m:Bool}{t:T}{R:T->Prop}:XA (.tup [.lst (a.map T.d),.lst (b.map T.d)]) kf t m R=XA (.d (.tuple [.list a,.list b])) kd t m R:=by
 have e:nA (.tup [.lst (a.map T.d),.lst (b.map T.d)]) kf=.d (.tuple [.list a,.list b]):=by show T.d (T.tup [.lst (a.map T.d),.lst (b.map T.d)]).er=_;rw[Ee]
 unfold XA;rw[e];rfl
end
section
variable{Ψ:PEv}{E:XE}{ρ:xA}{a c h:PX}{W:LT->Prop}{R:Option T->Prop}{C:LT->Prop}{xs:List (T×Bool)}{ds:List D}{n m:Bool}
section
variable{md:List Md}{ts:LT}{b:Bool}{t u:Str}
theorem lB{v:PX}{M:List (T×Bool)->xA->Prop}:uN Ψ (.acons a v) E (.fro::md) ρ M=oB Ψ a E ρ λx n z=>cb x n Ψ v E md z λxs y=>M ((x,n)::xs) y:=rfl
theorem d0{d:D}:DA (.fro::md) ((.d d,n)::xs) C=DA md xs λts=>C (.d d::ts):=by
 have e:sA (.fro::md) ((.d d,n)::xs) []=(sA md xs []).map (.d d::·):=by cases n<;>rfl
 unfold DA;rw[e,GC]
theorem Np:mL .val [(.lst ts,kd)] W=W ts:=by unfold mL CB;exact fJ ts
theorem su{m:List Bool}{x y:D}{v:dy}:gG Ψ E (b::m) [t,u] (.tp [0,1]) (.cmp v a c) h ρ (.d (.tuple [x,y])) R=IQ Ψ (.cmp v a c) E (bD x::bD y::bC (b::m) (lockA ρ)) λk z=>if k=kf then oB Ψ h E z λy n _=>oC y n (R (jr y)) else R none:=zB
theorem sy{m:List Bool}{x y:T}:gG Ψ E (b::m) [t,u] (.tp [0,1]) .nop h ρ (.tup [x,y]) R=oB Ψ h E (jr (.bor x)::jr (.bor y)::bC (b::m) (lockA ρ)) λy n _=>oC y n (R (jr y)):=zB
theorem jAf:JN ((.lst [],kf)::xs) C=JN xs λts=>C (.lst []::ts):=Dy (ds:=[])
theorem Nr{d:D}:pD [.d d,.lst ts]=.tup [.d d,.lst ts]:=rfl
theorem Xn{i j:Int}{L:Bool->Prop}:KB .GtE (.d (.int i)) (.d (.int j)) L=L (decide (j<=i)):=rfl
end
end
noncomputable abbrev Rw:=Str×List (LS)
noncomputable def PF(r:Rw):T:=.tup [.d (.str r.1),.lst ((r.2.map NC).map T.d)]
def HL(p:Str×Int):D:=.tuple [.str p.1,.int p.2]
def j4(es:rC)(sr:LS)(nd:List (Str×Int))(h:List Rw)(F:LS)(b:Bool)(o6 o7 o8:Option Sl):xA:=[bD (.tuple (es.map pr)),bD (.tuple (sr.map j0)),bD (.list (nd.map HL)),oW (.lst (h.map PF)),oW (.lst ((F.map j0).map T.d)),bD (.bool b),o6,o7,o8]
section
variable{Ψ:PEv}{Z:PEnds}{es:rC}{sr:LS}{nd:List (Str×Int)}{q:PT}
section
variable{o5 o6 o7 o8:Option Sl}{h:List Rw}
noncomputable def iT(sr:LS)(nd:List (Str×Int)):List Rw:=(nd.filter λp=>decide (p.1∈sr)).map λp=>(p.1,[])
theorem Dx(hl:nd.9<=100){o4:Option Sl}(k:pF Ψ q Z [bD (.tuple (es.map pr)),bD (.tuple (sr.map j0)),bD (.list (nd.map HL)),oW (.lst ((iT sr nd).map PF)),o4,o5,o6,o7,o8]) :
  pF Ψ (.seq (.own 3 (.comp [kd,kd,kd,kd,kd,kd,kf,kf] ["name","number"] (.tp [0,1]) .val %[.var 2|1] (.cmp .In (.var 0) (.var 3)) (.tup %[.var 0,.lst .anil|1]))) q) Z [bD (.tuple (es.map pr)),bD (.tuple (sr.map j0)),bD (.list (nd.map HL)),kv,o4,o5,o6,o7,o8]:=by
 simp![↓jA];rw[<- gA HL nd];refine fA (λp=>T.d (HL p)) (λ(p:Str×Int)=>PF (p.1,[])) (λp=>decide (p.1∈sr)) nd [] _ (λx z R y=>?_) (by show 0+nd.9<=_;omega) ?_;let#[x,n]:=x;delta HL;simp![↓su,bH,VE,aB,true_or];by_cases d:x∈sr;rw[dT d]at y ⊢;simp![↓jAf,↓Nr];exact#[(),(),y];rw[dF d]at y ⊢;exact y;rw[Qf];have e:(nd.filter λp=>decide (p.1∈sr)).map (λp=>PF (p.1,[]))=(iT sr nd).map PF:=by unfold iT;rw[QW];rfl
 rw[e];exact k
theorem Bx(hl:h.9<=100)(k:pF Ψ q Z [bD (.tuple (es.map pr)),bD (.tuple (sr.map j0)),bD (.list (nd.map HL)),oW (.lst (h.map PF)),oW (.lst (((h.map λr=>r.1).map j0).map T.d)),o5,o6,o7,o8]) :
  pF Ψ (.seq (.own 4 (.comp [kd,kd,kd,kd,kd,kd,kf,kd,kf] ["name","chains"] (.tp [0,1]) .val %[.var 3|1] .nop (.var 0))) q) Z [bD (.tuple (es.map pr)),bD (.tuple (sr.map j0)),bD (.list (nd.map HL)),oW (.lst (h.map PF)),kv,o5,o6,o7,o8]:=by
 simp![↓Np];refine IA PF (λr=>T.d (.str r.1)) h [] _ (λx z R y=>?_) (by show 0+h.9<=_;omega) ?_;delta PF;simp![↓sy];exact y;rw[Qf,gA (λr:Rw=>j0 r.1)];have e:(h.map λr=>j0 r.1)=(h.map λr=>r.1).map j0:=by rw[QW];rfl
 rw[e];exact k
theorem Ux(f:Ψ.sp "told_through"=RE){F:LS}{b:Bool}{x:Str}{n:Int}(a:es.9<=126)(k:sr.9<=11)(e:VG es sr)(j:h.9<=100)(i:F.9<=100)
  (w:x∈F->∀o8,Z.nx (j4 es sr nd h F b (bD (.str x)) (bD (.int n)) o8))
  (v:x∉F->¬ RL es sr x F n->∀o8,Z.nx (j4 es sr nd h F b (bD (.str x)) (bD (.int n)) o8))
  (u:x∉F->RL es sr x F n->∀cs o8,Z.nx (j4 es sr nd (h++[(x,cs)]) (F++[x]) kf (bD (.str x)) (bD (.int n)) o8)) :
  pF Ψ iC Z (j4 es sr nd h F b (bD (.str x)) (bD (.int n)) o8):=by
 delta j4 at w v u ⊢;delta iC;simp![bH,VE,aB,true_or];by_cases d:x∈F;rw[dT d];exact w d _;rw[dF d];simp![↓lB,↓d0,↓yA (md:=[.fro,.fro,.shal]) f rfl rfl];refine#[_,_,_,_,rfl,#[a,k,e],λcs cut g=>?_];have y:=D8 (n:=n) g;simp![↓zp,↓Uf,↓Xn,QC];by_cases c:n<=(cs.9:Int);rw[dT c];simp![↓Bo,↓My,↓Vc,↓Nr];rw[PZ];refine#[(),(),by rw[QC,QC];omega,?_];have:=u d (y.mpr c) (eJ cs kv (jr n)) (bD (.list (cs.map NC)));rw[QO,QO,QO]at this;exact this;rw[dF c];exact v d (λz=>c (y.mp z)) _
end
end
structure GI(es:rC)(sr:LS)(nd:List (Str×Int))(rs:List Rw)(F:LS):Prop where
 e:F=rs.map λr=>r.1
 ndp:F.Nodup
 held:∀x∈F,Held es sr nd x
 see:∀x n,(x,n)∈nd->x∈sr->x∈F
 non:∀r∈rs,r.1∈sr->r.2=[]
section
variable{es:rC}{sr:LS}{nd:List (Str×Int)}{u:List Rw}{F:LS}
theorem GI.len(g:GI es sr nd u F):F.9<=nd.length:=by
 have:=tR (ns:=nd.map λp=>p.1) g.ndp λs x=>by let#[n,h]:=SR (g.held s x);exact QR.mpr #[_,h,rfl]
 rw[QC]at this;exact this
theorem GI.rlen(g:GI es sr nd u F):u.9=F.length:=by rw[g.e,QC]
theorem Vx(h:(nd.map λp=>p.1).Nodup):GI es sr nd (iT sr nd) ((iT sr nd).map λr=>r.1):=by
 have e:((iT sr nd).map λr=>r.1)=(nd.filter λp=>decide (p.1∈sr)).map λp=>p.1:=by unfold iT;rw[QW];rfl
 refine#[rfl,?_,λx y=>?_,λx n y v=>?_,λr z _=>?_];rw[e];exact h.sublist (qD.map _);rw[e]at y;let#[p,w,rfl]:=QR.mp y;let#[a,k]:=QZ.mp w;exact .see (n:=p.2) a (ii k);rw[e];exact QR.mpr #[(x,n),QZ.mpr #[y,dT v],rfl];unfold iT at z;let#[p,_,rfl]:=QR.mp z;rfl
theorem GI.add(g:GI es sr nd u F){x:Str}{n:Int}(w:(x,n)∈nd)(f:x∉F)(m:RL es sr x F n)(cs:List (LS)):GI es sr nd (u++[(x,cs)]) (F++[x]):=by
 refine#[by rw[QO,<- g.e];rfl,qZ.mpr #[g.ndp,Qj.mpr #[λz=>(nomatch z),Qq],λa j b hb e=>?_],λy v=>?_,λy k v h=>Qn _ (g.see y k v h),λr i h=>?_];rw[QJ.mp hb]at e;exact f (e▸j);rcases Qg.mp v with z|z
 ·exact g.held y z
 rw[QJ.mp z];exact .tell F w g.held m;rcases Qg.mp i with z|z
 ·exact g.non r z h
 rw[QJ.mp z]at h;exact im (g.see x n w h) f
end
def pE:PSp where
 run:=λu Q _=>∃(y:rC) (h:LS) (nd:List (Str×Int)),u=[.d (.tuple (y.map pr)),.d (.tuple (h.map j0)),.d (.list (nd.map HL))]/\(y.9<=126/\h.9<=11/\VG y h/\nd.9<=90/\(nd.map λp=>p.1).Nodup)/\∀z F,GI y h nd z F->(∀x,x∈F↔Held y h nd x)->Q (.lst (z.map PF)) []
theorem lP{es:rC}{sr:LS}{nd:List (Str×Int)}{K:T->LT->Prop}{E:XE}(l:es.9<=126/\sr.9<=11/\VG es sr/\nd.9<=90/\(nd.map λp=>p.1).Nodup)(q:∀h F,GI es sr nd h F->(∀x,x∈F↔Held es sr nd x)->K (.lst (h.map PF)) []):DM pE [.d (.tuple (es.map pr)),.d (.tuple (sr.map j0)),.d (.list (nd.map HL))] K E:=#[es,sr,nd,rfl,l,q]
section
variable{Ψ:PEv}{Z:PEnds}{es:rC}{sr:LS}{nd:List (Str×Int)}{u:List Rw}{F:LS}
theorem Xx(L:Ψ.sp "told_through"=RE)(G:es.9<=126)(E:sr.9<=11)(J:VG es sr)(O:nd.9<=90){b:Bool}{o6 o7 o8:Option Sl}(g:GI es sr nd u F)
  (k:∀v w a o6 o7 o8,GI es sr nd v w->F.9<=w.9->(a=kf->F.9<w.9)->(a=kd->∀x n,(x,n)∈nd->x∉w->¬ RL es sr x w n)->Z.nx (j4 es sr nd v w a o6 o7 o8)) :
  pF Ψ aC Z (j4 es sr nd u F b o6 o7 o8):=by
 delta j4;delta aC;simp![↓jA];rw[<- gA HL nd];refine LA (λ(p:Str×Int)=>T.d (HL p)) (λl r=>∃v w a o6 o7 o8,GI es sr nd v w/\(∀p∈l,p∈nd)/\F.9<=w.9/\(a=kf->F.9<w.9)/\(a=kd->∀x n,(x,n)∈nd->(x,n)∈l∨x∈w∨¬ RL es sr x w n)/\r=j4 es sr nd v w a o6 o7 o8) ?_ ?_ _ _ #[u,F,kd,_,_,_,g,λ_ z=>z,QT _,λz=>(nomatch z),λ_ x n h=>.inl h,rfl];rintro r ⟨v,w,a,B,A,K,f,_,q,o,j,rfl⟩;exact k v w a _ _ _ f q o λhb x n Y i=>((j hb x n Y).resolve_left λz=>(nomatch z)).resolve_left i;rintro⟨x,n⟩ l r N W ⟨v,w,a,B,A,K,f,m,q,o,j,rfl⟩;have Y:=m _ QD;have s:∀p∈l,p∈nd:=λp I=>m p (QE _ I);have Q:=f.len;have P:=f.rlen;refine AE.mk rfl ?_;refine Ux (x:=x) (n:=n) L G E J () () (λi o8=>W _ #[v,w,a,_,_,_,f,s,q,o,λhb y k X=>?_,rfl]) (λi nm o8=>W _ #[v,w,a,_,_,_,f,s,q,o,λhb y k X=>?_,rfl]) λi C M o8=>W _ #[_,_,kf,_,_,_,f.add Y i C M,s,?_,λ_=>?_,λz=>(nomatch z),rfl];rcases j hb y k X with z|z
 ·rcases QK.mp z with e|z
  ·cases e
   exact .inr (.inl i)
  exact .inl z
 exact .inr z;rcases j hb y k X with z|z
 ·rcases QK.mp z with e|z
  ·cases e
   exact .inr (.inr nm)
  exact .inl z
 exact .inr z;rw[QI,qF];omega;rw[QI,qF];omega
end
theorem v8{Ψ:PEv}(p:Ψ.sp "told_through"=RE):UD Ψ YG pE UG VF:=by
 rintro _ Q _ ⟨es,sr,nd,rfl,⟨i,f,l,e,o⟩,q⟩;refine kA [bD (.tuple (es.map pr)),bD (.tuple (sr.map j0)),bD (.list (nd.map HL)),kv,kv,kv,kv,kv,kv] ?_;have g0:=Vx (es:=es) (sr:=sr) o;have K:=g0.len;have W:=g0.rlen;refine Dx () (Bx () ?_);simp![↓jA];refine mI (λm u=>∃h F b o6 o7 o8,m=2 * (nd.9 - F.9)+(if b=kf then 1 else 0)/\GI es sr nd h F/\(b=kd->∀x n,(x,n)∈nd->x∉F->¬ RL es sr x F n)/\u=j4 es sr nd h F b o6 o7 o8) _ #[_,_,kf,kv,kv,kv,rfl,g0,λz=>(nomatch z),rfl] ?_;rintro m u ⟨h,F,b,o6,o7,o8,k,g,r,rfl⟩;cases b with
 |true =>
  have v:=λ(Z:PEnds) j=>Xx (Ψ:=Ψ) (Z:=Z) (b:=kf) (o6:=o6) (o7:=o7) (o8:=o8) p i f l e g j;unfold j4 at v;delta j4;simp![↓jA];refine v _ λy Y a o6 o7 o8 w A X s=>#[_,?_,y,Y,a,o6,o7,o8,rfl,w,s,rfl]
  have:=w.len;cases a with|true=>have:=X rfl;rw[k,a9 rfl];omega|false=>rw[k,a9 rfl,a8 QG];omega
 |false=>delta j4;simp![↓jA];exact q h F g λx=>e9 g.held g.see (r rfl) x
noncomputable def TJ(p:Str×Int×Int×Int):D:=.tuple [.str p.1,.int p.2.1,.int p.2.2.1,.int p.2.2.2]
inductive Evt where
 |see (t:Int) (p m w:Str)|tell (t:Int) (a b m w:Str) (by_:LS)
noncomputable def CC:Evt->D
 | .see t p m w=>.tuple [.str "see",.int t,.str p,.str m,.str w]|.tell t a b m w q=>.tuple [.str "tell",.int t,.str a,.str b,.str m,.str w,.tuple (q.map j0)]
structure Wd where
 ps:List (Str×Int×Int×Int)
 ms:LS
 ag:rC
 es:List Evt
def wD(w:Wd):D:=.tuple [.list (w.ps.map TJ),.list (w.ms.map j0),.list (w.ag.map pr),.list (w.es.map CC)]
section
variable{w:Wd}{p:Str×Int×Int×Int}{n m:Bool}{R:T->Prop}
theorem BA{ds:List D}{i:Nat}{d:D}(h:ds[i]?=jr d):XA (.d (.tuple ds)) n (.d (.int (i:Int))) m R=R (.d d):=by rw[t5,show uD ds (i:Int)=jr d from iF h,zB]
theorem PV:XA (.d (wD w)) n (.d (.int 0)) m R=R (.d (.list (w.ps.map TJ))):=BA (i:=0) rfl
theorem u5:XA (.d (wD w)) n (.d (.int 1)) m R=R (.d (.list (w.ms.map j0))):=BA (i:=1) rfl
theorem jp:XA (.d (wD w)) n (.d (.int 2)) m R=R (.d (.list (w.ag.map pr))):=BA (i:=2) rfl
theorem BL:XA (.d (wD w)) n (.d (.int 3)) m R=R (.d (.list (w.es.map CC))):=BA (i:=3) rfl
theorem K0:XA (.d (TJ p)) n (.d (.int 0)) m R=R (.d (.str p.1)):=BA (i:=0) rfl
theorem Ov:XA (.d (TJ p)) n (.d (.int 1)) m R=R (.d (.int p.2.1)):=BA (i:=1) rfl
theorem Nv:XA (.d (TJ p)) n (.d (.int 2)) m R=R (.d (.int p.2.2.1)):=BA (i:=2) rfl
theorem Mv:XA (.d (TJ p)) n (.d (.int 3)) m R=R (.d (.int p.2.2.2)):=BA (i:=3) rfl
end
def mD(w:Wd):List (Str×Int):=w.ps.map λp=>(p.1,p.2.2.2)
def YQ:PSp where
 run:=λh Q _=>∃w:Wd,h=[.d (wD w)]/\w.ps.9<=90/\Q (.lst (((mD w).map HL).map T.d)) []
theorem Pk{Ψ:PEv}:UD Ψ zI YQ lO zL:=by
 rintro _ Q _ ⟨w,rfl,l,q⟩;refine kA [bD (wD w)] ?_;delta zI;simp![↓PV];rw[<- gA TJ];refine IA (λp=>T.d (TJ p)) (λp=>T.d (HL (p.1,p.2.2.2))) w.ps [] _ (λx y R h=>?_) (by show 0+w.ps.9<=_;omega) ?_;simp![↓K0,↓Mv];exact#[(),h];rw[Qf,gA λp:Str×Int×Int×Int=>HL (p.1,p.2.2.2)];have e:(w.ps.map λp=>HL (p.1,p.2.2.2))=(mD w).map HL:=by unfold mD;rw[QW];rfl
 rw[e];exact q
noncomputable def ID(es:rC)(sr:LS):D:=.tuple [.tuple (sr.map j0),.tuple (es.map pr)]
section
variable{es:rC}{sr:LS}{n m:Bool}{R:T->Prop}
theorem Kp:XA (.d (ID es sr)) n (.d (.int 0)) m R=R (.d (.tuple (sr.map j0))):=BA (i:=0) rfl
theorem Zp:XA (.d (ID es sr)) n (.d (.int 1)) m R=R (.d (.tuple (es.map pr))):=BA (i:=1) rfl
end
def TL:PSp where
 run:=λz Q _=>∃(w:Wd) (y:rC) (h:LS),z=[.d (wD w),.d (ID y h)]/\(y.9<=126/\h.9<=11/\VG y h/\w.ps.9<=90/\(w.ps.map λp=>p.1).Nodup)/\∀l:LS,(∀x,x∈l↔Held y h (mD w) x)->l.9<=90->Q (.lst ((l.map j0).map T.d)) []
theorem Mp{ts:LT}{W:LT->Prop}:mL .val [(.lst ts,kf)] W=W ((ersT ts).map T.d):=fJ _
theorem Mm(r:Rw):(PF r).er=.tuple [.str r.1,.list (ersT ((r.2.map NC).map T.d))]:=rfl
theorem Gd{Ψ:PEv}(l:Ψ.sp "ground_alone"=pE)(j:Ψ.sp "needs_of"=YQ):UD Ψ sF TL DJ iH:=by
 rintro _ Q _ ⟨w,m,z,rfl,⟨a,k,b,y,nd⟩,q⟩;have v:(mD w).9<=90:=by unfold mD;rw[QC];exact y
 have u:((mD w).map λp=>p.1).Nodup:=by unfold mD;rw[QW];exact nd
 refine kA [bD (wD w),bD (ID m z)] ?_;delta sF;simp![↓Kp,↓Zp,↓yA (md:=[]) l rfl rfl,↓yA (md:=[]) j rfl rfl];refine#[_,rfl,y,?_];simp![↓jA];refine lP #[a,k,b,v,u] λh F g i=>?_;rw[Mp];have fl:=g.len;have rl:h.9=F.length:=by rw[g.e,QC]
 rw[rJ,QW,QW];refine#[rfl,?_];refine IA (λr=>T.d (PF r).er) (λr=>T.d (.str r.1)) h [] _ (λx n R f=>?_) (by show 0+h.9<=_;omega) ?_;rw[Mm];simp![↓jA];exact f;rw[Qf,gA (λr:Rw=>j0 r.1)];have e:(h.map λr=>j0 r.1)=F.map j0:=by rw[g.e,QW];rfl
 rw[e];exact q F i ()
noncomputable def pA(evs:List Evt)(n:Nat):Evt:=(evs[n]?).getD (.see 0 "" "" "")
def DD(e:Evt):Prop:=∃t a b m w q,e=.tell t a b m w q
def Js:Evt->Str
 | .see _ _ m _=>m|.tell _ _ _ m _ _=>m
noncomputable def oH:Evt->Str×Str
 | .see _ p m _=>(p,m)|.tell _ a b _ _ _=>(a,b)
def nD(n:Nat):D:=.int (n:Int)
theorem pQ{evs:List Evt}{i:Nat}{n m:Bool}{R:T->Prop}(h:i<evs.9):XA (.d (.list (evs.map CC))) n (.d (nD i)) m R=R (.d (CC (pA evs i))):=by delta nD;rw[Cb,show uD (evs.map CC) (i:Int)=jr (CC (pA evs i)) from iF (by rw[Qa,Qh h];unfold pA;rw[Qh h];rfl),zB]
section
variable{e:Evt}{n m:Bool}{R:T->Prop}
theorem Of(h:DD e):XA (.d (CC e)) n (.d (.int 2)) m R=R (.d (.str (oH e).1)):=by let#[t,a,b,x,w,q,rfl]:=h;exact BA (i:=2) rfl
theorem Nf(h:DD e):XA (.d (CC e)) n (.d (.int 3)) m R=R (.d (.str (oH e).2)):=by let#[t,a,b,x,w,q,rfl]:=h;exact BA (i:=3) rfl
theorem yp(h:DD e):XA (.d (CC e)) n (.d (.int 4)) m R=R (.d (.str (Js e))):=by let#[t,a,b,x,w,q,rfl]:=h;exact BA (i:=4) rfl
end
section
variable{Ψ:PEv}{ks:List Pt}{L:Bool->Prop}
theorem Mg{ds:List D}{Q:T->Bool->Prop}:uM .tuple [(.lst (ds.map T.d),kf)] Q=Q (.d (.tuple ds)) false:=by unfold uM CB;show uY .tuple [.ls ((ersT (ds.map T.d)).map T.d)] Q=_;rw[vB,Kh];exact ir #[λ#[_,e,q]=>by rw[KA]at e;cases e;exact q,λq=>#[_,KA _,q]]
def BE(evs:List Evt)(h:LN)(m:Str):rC:=(h.filter λn=>decide (Js (pA evs n)=m)).map λn=>oH (pA evs n)
def KM:PSp where
 run:=λy Q _=>∃(h:List Evt) (x:LN) (m:Str),y=[.d (.list (h.map CC)),.d (.list (x.map nD)),.d (.str m)]/\x.9<=100/\(∀n∈x,n<h.9/\DD (pA h n))/\Q (.d (.tuple ((BE h x m).map pr))) []
theorem Yl:UD Ψ uI KM rO bL:=by
 rintro _ Q _ ⟨h,y,m,rfl,l,a,q⟩;refine kA [bD (.list (h.map CC)),bD (.list (y.map nD)),bD (.str m),kv] ?_;delta uI;simp![↓jA];rw[<- gA nD];refine fA (λn=>T.d (nD n)) (λn=>T.d (CC (pA h n))) (λn=>decide (Js (pA h n)=m)) y [] _ (λx v R u=>?_) (by show 0+y.9<=_;omega) ?_;simp![↓pQ (a x v).1,↓yp (a x v).2];split at u;rename_i c;rw[a9 c];exact u;rename_i c;rw[a8 c];exact u;rw[Qf,gA λn=>CC (pA h n)];simp![↓jA];rw[<- gA λn=>CC (pA h n)];refine IA (λn=>T.d (CC (pA h n))) (λn=>T.d (pr (oH (pA h n)))) _ [] _ (λx v R u=>?_) (by show 0+(List.filter _ y).9<=_;have:=Qs (λn=>decide (Js (pA h n)=m)) y;omega) ?_;have z:=(QZ.mp v).1;simp![↓Of (a x z).2,↓Nf (a x z).2];exact#[(),u];rw[Qf,gA λn=>pr (oH (pA h n)),Mg];have e:((y.filter λn=>decide (Js (pA h n)=m)).map λn=>pr (oH (pA h n)))=(BE h y m).map pr:=by unfold BE;rw[QW];rfl
 rw[e];simp![↓jA];exact q
noncomputable def SK(w:Wd)(x:Str):LJ:=(w.ps.filter λp=>decide (p.1=x)).map λp=>p.2.1
def iQ:PSp where
 run:=λh Q _=>∃(w:Wd) (x:Str) (r:Int),h=[.d (wD w),.d (.str x)]/\w.ps.9<=90/\(SK w x)[0]?=jr r/\Q (.d (.int r)) []
theorem Cd:UD Ψ YK iQ vQ PM:=by
 rintro _ Q _ ⟨w,x,r,rfl,l,a,q⟩;refine kA [bD (wD w),bD (.str x)] ?_;delta YK;simp![↓PV];rw[<- gA TJ];refine fA (λp=>T.d (TJ p)) (λp=>T.d (.int p.2.1)) (λp=>decide (p.1=x)) w.ps [] _ (λp z R h=>?_) (by show 0+w.ps.9<=_;omega) ?_;simp![↓K0,↓Ov];split at h;rename_i c;rw[a9 c];exact h;rename_i c;rw[a8 c];exact h;rw[Qf,gA λp:Str×Int×Int×Int=>j1 p.2.1];have e:((w.ps.filter λp=>decide (p.1=x)).map λp=>j1 p.2.1)=(SK w x).map j1:=by unfold SK;rw[QW];rfl
 rw[e];have y:uD ((SK w x).map j1) 0=jr (.int r):=iF (j:=0) (by rw[Qa,a];rfl);simp![y];exact q
noncomputable def bG(w:Wd)(x:Str):LJ:=(w.ps.filter λp=>decide (p.1=x)).map λp=>p.2.2.1
def ZM:PSp where
 run:=λh Q _=>∃(w:Wd) (x:Str) (r:Int),h=[.d (wD w),.d (.str x)]/\w.ps.9<=90/\(bG w x)[0]?=jr r/\Q (.d (.int r)) []
theorem j8:UD Ψ xI ZM pO uL:=by
 rintro _ Q _ ⟨w,x,r,rfl,l,a,q⟩;refine kA [bD (wD w),bD (.str x)] ?_;delta xI;simp![↓PV];rw[<- gA TJ];refine fA (λp=>T.d (TJ p)) (λp=>T.d (.int p.2.2.1)) (λp=>decide (p.1=x)) w.ps [] _ (λp z R h=>?_) (by show 0+w.ps.9<=_;omega) ?_;simp![↓K0,↓Nv];split at h;rename_i c;rw[a9 c];exact h;rename_i c;rw[a8 c];exact h;rw[Qf,gA λp:Str×Int×Int×Int=>j1 p.2.2.1];have e:((w.ps.filter λp=>decide (p.1=x)).map λp=>j1 p.2.2.1)=(bG w x).map j1:=by unfold bG;rw[QW];rfl
 rw[e];have y:uD ((bG w x).map j1) 0=jr (.int r):=iF (j:=0) (by rw[Qa,a];rfl);simp![y];exact q
noncomputable def lI(ks:List Pt):T:=.dct kf (ks.map pr) (ks.map λ_=>T.d (.bool kf))
noncomputable def KS(ks:List Pt)(p:Pt):List Pt:=if p∈ks then ks else ks++[p]
theorem VV(ks:List Pt)(p:Pt):(KS ks p).9<=ks.9+1:=by unfold KS;split;omega;simp
theorem fP{α h:Type}(c:h):∀(l:List α) (n:Nat),(l.map λ_=>c).set n c=l.map λ_=>c
 |[],_=>rfl|_::_,0=>rfl|x::l,n+1=>by show c::(l.map λ_=>c).set n c=_;rw[fP c l n];rfl
theorem vg{p:Pt}{Q:T->Prop}(hl:ks.9<kn)(q:Q (lI (KS ks p))):dg (lI ks) (.d (pr p)) (.d (.bool kf)) Q:=by
 refine#[MB p,by rw[QC];exact hl,?_];show Q (xK kf (ks.map pr) (ks.map λ_=>T.d (.bool kf)) (pr p) (.d (.bool kf)));unfold KS at q;unfold xK;by_cases c:p∈ks;rw[a9 c]at q;cases e:cA (ks.map pr) (pr p) with|none=>exact im (AQ.mpr c) (kB.mp e)|some n=>show Q (.dct kf (ks.map pr) ((ks.map λ_=>T.d (.bool kf)).set n (.d (.bool kf))));rw[fP];exact q
 rw[a8 c]at q;rw[kB.mpr λz=>c (AQ.mp z)];unfold lI at q;rw[QO,QO]at q;exact q
theorem Et{q:Pt}:KB .In (.d (pr q)) (lI ks) L=L (decide (q∈ks)):=by unfold lI;rw[ga,uH];exact ir #[λh=>h.2,λh=>#[MB q,h]]
theorem Yn{q:Pt}:KB .NotIn (.d (pr q)) (lI ks) L=L (!decide (q∈ks)):=by unfold lI;rw[jO,uH];exact ir #[λh=>h.2,λh=>#[MB q,h]]
def sE(evs:List Evt)(ks:List Pt)(n:Nat):List Pt:=match pA evs n with
 | .see _ p m _=>KS ks (p,m)|_=>ks
def yB(evs:List Evt)(l:LN):List Pt:=l.foldl (sE evs) []
noncomputable def T4:Evt->Str
 | .see _ _ _ _=>"see"|.tell _ _ _ _ _ _=>"tell"
end
section
variable{e:Evt}{n m:Bool}{R:T->Prop}{t:Int}{p h w:Str}
theorem RV:XA (.d (CC e)) n (.d (.int 0)) m R=R (.d (.str (T4 e))):=by cases e;exact BA (i:=0) rfl;exact BA (i:=0) rfl
theorem vp:XA (.d (CC (.see t p h w))) n (.d (.int 2)) m R=R (.d (.str p)):=BA (i:=2) rfl
theorem Pf:XA (.d (CC (.see t p h w))) n (.d (.int 3)) m R=R (.d (.str h)):=BA (i:=3) rfl
end
section
variable{Ψ:PEv}{ks z:List Pt}{a b:Str}{L:Bool->Prop}{ns:LJ}
theorem nK{c a b:Prop}[Decidable c](h:¬ c)(q:b):if c then a else b:=by rw[a8 h];exact q
def Kw(evs:List Evt)(l:LN)(ks:List Pt)(o3:Option Sl):xA:=[bD (.list (evs.map CC)),jr (.bor (.lst (l.map λn=>T.d (nD n)))),oW (lI ks),o3]
def JI:PSp where
 md:=[.fro,.shal]
 run:=λx Q _=>∃(h:List Evt) (l:LN),x=[.d (.list (h.map CC)),.lst ((l.map nD).map T.d)]/\l.9<=100/\(∀n∈l,n<h.9)/\Q (lI (yB h l)) []
theorem Ud:UD Ψ fF JI BJ tH:=by
 rintro _ Q _ ⟨h,l,rfl,hl,j,q⟩;refine kA [bD (.list (h.map CC)),jr (.bor (.lst ((l.map nD).map T.d))),kv,kv] ?_;delta fF;simp![↓jA];rw[<- gA nD];refine LA (λn=>T.d (nD n)) (λr y=>∃ks u,r.foldl (sE h) ks=yB h l/\ks.9+r.9<=100/\(∀n∈r,n<h.9)/\y=Kw h l ks u) ?_ ?_ l _ #[[],kv,rfl,by simpa using hl,j,rfl];rintro y ⟨ks,u,e,_,_,rfl⟩;have e:ks=yB h l:=e;subst e;delta Kw;simp![↓jA];exact q;rintro n r y N i ⟨ks,u,e,hk,k,rfl⟩;have g:ks.9+(r.9+1)<=100:=hk;have f:=k n QD;delta Kw;delta mG;simp![↓pQ f,↓RV];have e:r.foldl (sE h) (sE h ks n)=yB h l:=e;unfold sE at e;cases ev:pA h n with|see t p m w=>rw[ev]at e;simp![T4,↓vp,↓Pf];rw[pQ f,ev];simp![↓Pf];exact#[(),vg (p:=(p,m)) () (i _ #[KS ks (p,m),_,e,by have:=VV ks (p,m);omega,λx v=>k x (QE _ v),rfl])]|tell t a b m w o=>rw[ev]at e;refine nK (show decide ((Qc "tell")=(Qc "see"))≠kf by decide) ?_;exact i _ #[ks,_,e,(),λx v=>k x (QE _ v),rfl]
theorem vY:KB .In (.d (.tuple [.str a,.str b])) (lI ks) L=L (decide ((a,b)∈ks)):=Et (q:=(a,b))
theorem SZ:KB .NotIn (.d (.tuple [.str a,.str b])) (lI ks) L=L (!decide ((a,b)∈ks)):=Yn (q:=(a,b))
noncomputable def HF(w:Wd)(ks:List Pt)(m:Str):LS:=(w.ps.filter λp=>decide ((p.1,m)∈ks)).map λp=>p.1
def Zo(h:T)(ks:List Pt):Prop:=∀a b (L:Bool->Prop),KB .In (.d (.tuple [.str a,.str b])) h L=L (decide ((a,b)∈ks))
theorem Ls(ks:List Pt):Zo (lI ks) ks:=λ_ _ _=>vY
theorem Hs(ks:List Pt):Zo (.d (lI ks).er) ks:=λa b L=>by
 have e:ersT (ks.map λ_=>T.d (.bool kf))=ks.map λ_=>PyData.bool true:=by rw[rJ,QW];rfl
 show(∃k,(OC ((ks.map pr).zip (ersT _))=jr k∨(ks.map pr).zip (ersT _)=[])/\aD k (pr (a,b))/\L (cA (((ks.map pr).zip (ersT _)).map (·.1)) (pr (a,b))).isSome)=_;rw[e,WI (by rw[QC,QC];exact QT _),uH];refine ir #[λ#[_,_,_,h]=>h,λh=>#[kf,?_,MB _,h]];cases ks with|nil=>exact .inr rfl|cons x r=>exact .inl rfl
def JM:PSp where
 md:=[.fro,.bor]
 run:=λx Q _=>∃(w:Wd) (h:T) (ks:List Pt) (m:Str),x=[.d (wD w),h,.d (.str m)]/\(Zo h ks/\w.ps.9<=90)/\Q (.d (.tuple ((HF w ks m).map j0))) []
theorem Fk:UD Ψ yI JM fO jL:=by
 rintro _ Q _ ⟨w,x,ks,m,rfl,⟨z,l⟩,q⟩;refine kA [bD (wD w),jr (.bor x),bD (.str m)] ?_;delta yI;simp![↓PV];rw[<- gA TJ];refine fA (λp=>T.d (TJ p)) (λp=>T.d (.str p.1)) (λp=>decide ((p.1,m)∈ks)) w.ps [] _ (λp y R h=>?_) (by show 0+w.ps.9<=_;omega) ?_;simp![↓K0,↓z _ _ _];refine#[(),?_];split at h;rename_i c;rw[a9 c];exact h;rename_i c;rw[a8 c];exact h;rw[Qf,gA λp:Str×Int×Int×Int=>j0 p.1,Mg];have e:((w.ps.filter λp=>decide ((p.1,m)∈ks)).map λp=>j0 p.1)=(HF w ks m).map j0:=by unfold HF;rw[QW];rfl
 rw[e];simp![↓jA];exact q
theorem Gf{E:XE}{ρ:xA}{a c h:PX}{t u:Str}{x y:D}{w:dy}{R:Option T->Prop}:gG Ψ E [] [t,u] (.tp [0,1]) (.cmp w a c) h ρ (.d (.tuple [x,y])) R=IQ Ψ (.cmp w a c) E (bD x::bD y::lockA ρ) λk v=>if k=kf then oB Ψ h E v λy n _=>oC y n (R (jr y)) else R none:=zB
theorem mZ:∀{l:List D},(∀x∈l,x.canLay0=kf/\x.depth<=1)->wZ l=kf/\w4 l<=1
 |[],_=>by simp[wZ,w4]|x::l,h=>by let#[w,e]:=h x QD;let#[u,k]:=mZ (l:=l) λy v=>h y (QE _ v);simp only[wZ,w4,w,u,Bool.and_self,true_and];omega
theorem cR{l:List D}(h:∀x∈l,x.canLay0=kf/\x.depth<=1):HE (.list l):=by let#[y,u]:=mZ h;refine#[?_,?_];simp only[QAc];exact y;simp only[QBH];omega
noncomputable def FL(w:Wd)(m:Str):LS:=(w.ag.filter λp=>decide (p.1=m)).map λp=>p.2
noncomputable def DL(w:Wd)(m:Str):LS:=(w.ag.filter λp=>decide (p.2=m)).map λp=>p.1
def OkS(a:Str):Prop:=wB a=kf
def Ko(h:T)(f:Pt->Bool):Prop:=∀a b (L:Bool->Prop),OkS a->OkS b->L (f (a,b))->KB .In (.d (.tuple [.str a,.str b])) h L
theorem Ds(ks:List Pt):Ko (lI ks) λq=>decide (q∈ks):=λa b L _ _ h=>by rw[vY];exact h
theorem Mk(h:∀p∈z,OkS p.1/\OkS p.2):HE (.list (z.map pr)):=cR λx u=>by let#[p,y,rfl]:=QR.mp u;have q:=MD (h p y).1 (h p y).2;exact#[q.1,by simp[pr,QBH,w4]]
theorem m9(h:∀p∈z,OkS p.1/\OkS p.2):Ko (.d (.list (z.map pr))) λq=>decide (q∈z):=λa b L u hb q=>by
 refine#[.inr #[MD u hb,Mk h],?_];have e:((z.map pr).any λy=>Qt y (.tuple [.str a,.str b]))=decide ((a,b)∈z):=by rw[QCL,qA,WK,i0];constructor;rintro⟨p,x,e⟩;have e:Qt (pr p) (pr (a,b))=true:=e;rw[JX,i0]at e;exact e▸x;intro x;refine#[(a,b),x,?_];show Qt (pr (a,b)) (pr (a,b))=kf;rw[JX];exact dT rfl
 show L ((z.map pr).any λy=>Qt y (.tuple [.str a,.str b]));rw[e];exact q
def DQ:PSp where
 md:=[.fro,.bor]
 run:=λy Q _=>∃(w:Wd) (h:T) (f:Pt->Bool) (x m:Str),y=[.d (wD w),h,.d (.str x),.d (.str m)]/\(Ko h f/\OkS x/\∀p∈w.ag,OkS p.1/\OkS p.2)/\w.ag.9<=100/\Q (.d (.bool ((FL w m++DL w m).any λr=>f (x,r)))) []
theorem Zl:UD Ψ oE DQ CH AF:=by
 rintro _ Q _ ⟨w,v,f,x,m,rfl,⟨i,k,u⟩,l,q⟩;have Y:=Qs (λp:Str×Str=>decide (p.1=m)) w.ag;have X:=Qs (λp:Str×Str=>decide (p.2=m)) w.ag;have s:(FL w m).9<=100:=by unfold FL;rw[QC];omega
 have o:(DL w m).9<=100:=by unfold DL;rw[QC];omega
 refine kA [bD (wD w),jr (.bor v),bD (.str x),bD (.str m),kv] ?_;delta oE;simp![↓jp];rw[<- gA pr w.ag];refine fA (λp=>T.d (pr p)) (λ(p:Str×Str)=>T.d (.str p.2)) (λp=>decide (p.1=m)) w.ag [] _ (λp e R y=>?_) (by show 0+w.ag.9<=_;omega) ?_;delta pr;simp![↓Gf];split at y;rename_i c;rw[a9 c];exact y;rename_i c;rw[a8 c];exact y;rw[Qf,gA λp:Str×Str=>j0 p.2];have n:((w.ag.filter λp=>decide (p.1=m)).map λp=>j0 p.2)=(FL w m).map j0:=by unfold FL;rw[QW];rfl
 rw[n];refine fA (λp=>T.d (pr p)) (λ(p:Str×Str)=>T.d (.str p.1)) (λp=>decide (p.2=m)) w.ag [] _ (λp e R y=>?_) (by show 0+w.ag.9<=_;omega) ?_;delta pr;simp![↓Gf];split at y;rename_i c;rw[a9 c];exact y;rename_i c;rw[a8 c];exact y;rw[Qf,gA λp:Str×Str=>j0 p.1];have j:((w.ag.filter λp=>decide (p.2=m)).map λp=>j0 p.1)=(DL w m).map j0:=by unfold DL;rw[QW];rfl
 rw[j,<- QO,<- QO];refine#[by rw[QC,QC,QC,QC];omega,?_];simp![↓jA];rw[<- gA j0];refine IA (λr=>T.d (.str r)) (λr=>T.d (.bool (f (x,r)))) (FL w m++DL w m) [] _ (λr e R y=>?_) (by show 0+(FL w m++DL w m).9<=_;rw[QI];omega) ?_;simp![↓jA];refine#[(),i _ _ _ k ?_ y];rcases Qg.mp e with h|h;let#[p,g,rfl]:=QR.mp h;exact(u p (QZ.mp g).1).2;let#[p,g,rfl]:=QR.mp h;exact(u p (QZ.mp g).1).1;rw[Qf,gA λr=>PyData.bool (f (x,r)),Cr];refine#[(FL w m++DL w m).map λr=>f (x,r),by rw[QW];rfl,?_];rw[QCL];simp![↓jA];exact q
theorem Og{n:Bool}{Q:T->Bool->Prop}(x:ns.9<64)(q:∀h:LJ,h.Perm ns->h.Pairwise (·<=·)->Q (.lst ((h.map j1).map T.d)) kf):uM .sorted [(.lst ((ns.map j1).map T.d),n)] Q:=by unfold uM CB;rw[rD];exact .inr (.inr #[_,ns,rfl,KA _,x,q])
theorem ue{l:LN}(h:ns.Perm (l.map λ(n:Nat)=>(n:Int)))(u:ns.Pairwise (·<=·)):∃y:LN,ns=y.map (λ(n:Nat)=>(n:Int))/\y.Perm l/\y.Pairwise (·<=·):=by
 have e:ns=(ns.map QCf).map λ(n:Nat)=>(n:Int):=by rw[QW];refine(QCd ns).symm.trans (wK λx v=>?_);let#[n,_,rfl]:=QR.mp (h.mem_iff.mp v);rfl
 refine#[ns.map QCf,e,?_,?_];have:=h.map QCf;rw[QW]at this;refine this.trans (QCg ?_);exact(wK λn _=>rfl).trans (QCd l);rw[e]at u;exact(Wo.mp u).imp λh=>()
def yG(evs:List Evt)(h:LN)(ks:List Pt):LN:=h.filter λn=>!decide (((oH (pA evs n)).1,(oH (pA evs n)).2)∈ks)
def LG:PSp where
 md:=[.fro,.shal,.bor]
 run:=λu Q _=>∃(h:List Evt) (x:LN) (ks:List Pt),u=[.d (.list (h.map CC)),.lst ((x.map nD).map T.d),lI ks]/\x.9<64/\(∀n∈x,n<h.9/\DD (pA h n))/\∀y:LN,y.Perm (yG h x ks)->y.Pairwise (·<=·)->Q (.lst ((y.map nD).map T.d)) []
theorem Fd:UD Ψ mF LG CJ aH:=by
 rintro _ Q _ ⟨h,x,ks,rfl,l,a,q⟩;refine kA [bD (.list (h.map CC)),jr (.bor (.lst ((x.map nD).map T.d))),jr (.bor (lI ks))] ?_;delta mF;simp![↓jA];rw[<- gA nD];refine fA (λn=>T.d (nD n)) (λn=>T.d (nD n)) (λn=>!decide (((oH (pA h n)).1,(oH (pA h n)).2)∈ks)) x [] _ (λn u R v=>?_) (by show 0+x.9<=_;omega) ?_;simp![↓pQ (a n u).1,↓Of (a n u).2,↓Nf (a n u).2,↓SZ];refine#[(),?_];split at v;rename_i c;rw[a9 c];exact v;rename_i c;rw[a8 c];exact v;rw[Qf,gA nD];have e:(yG h x ks).map nD=((yG h x ks).map λ(n:Nat)=>(n:Int)).map j1:=by rw[QW];rfl
 have fl:=Qs (λn=>!decide (((oH (pA h n)).1,(oH (pA h n)).2)∈ks)) x;show uM .sorted [(.lst (((yG h x ks).map nD).map T.d),kf)] _;rw[e];refine Og (by rw[QC];unfold yG;omega) λf k w=>?_;let#[y,rfl,i,g]:=ue k w;have j:(y.map λ(n:Nat)=>(n:Int)).map j1=y.map nD:=by rw[QW];rfl
 rw[j];simp![↓jA];exact q y i g
def SV(w:Wd)(h:List Pt)(b m:Str):Bool:=!decide ((b,m)∈h)&&(FL w m++DL w m).any λr=>decide ((b,r)∈h)
def fM(w:Wd)(h ks:List Pt)(n:Nat):List Pt:=match pA w.es n with
 | .tell _ a b m _ _=>if SV w h b m=kf then KS ks (a,b) else ks|_=>ks
def SL(w:Wd)(l:LN):List Pt:=l.foldl (fM w (yB w.es l)) []
def Xi(w:Wd)(x:Str):Prop:=∃p∈w.ps,p.1=x
def Xo(w:Wd):Evt->Prop
 | .see _ p m h=>Xi w p/\m∈w.ms/\OkS h|.tell _ a b m h q=>Xi w a/\Xi w b/\m∈w.ms/\a≠b/\OkS h/\∀x∈q,Xi w x
structure WOk(w:Wd):Prop where
 ag:∀p∈w.ag,OkS p.1/\OkS p.2
 al:w.ag.9<=100
 pl:w.ps.9<=11
 pn:(w.ps.map λp=>p.1).Nodup
 po:∀p∈w.ps,OkS p.1
 ml:w.ms.9<=10
 mo:∀m∈w.ms,OkS m
 mn:w.ms.Nodup
 el:w.es.9<=60
 eo:∀e∈w.es,Xo w e
theorem WOk.ev{w:Wd}(h:WOk w){n:Nat}(x:n<w.es.9):Xo w (pA w.es n):=by unfold pA;rw[Qh x];exact h.eo _ (WL x)
theorem WOk.nm{w:Wd}(h:WOk w){x:Str}(y:Xi w x):OkS x:=by let#[p,u,rfl]:=y;exact h.po p u
end
section
variable{Ψ:PEv}{E:XE}{ρ:xA}{M:List (T×Bool)->xA->Prop}{a z:PX}{md:List Md}{d:D}{n m:Bool}{xs:List (T×Bool)}{C:LT->Prop}{R:T->Prop}{t:Int}{x b h y:Str}{q:LS}
theorem Ou{ks:List Pt}:cb (lI ks) kd Ψ z E md ρ M=uN Ψ z E md (lockA ρ) λxs _=>M xs ρ:=rfl
theorem n5:XA (.d (CC (.tell t x b h y q))) n (.d (.int 2)) m R=R (.d (.str x)):=BA (i:=2) rfl
theorem m5:XA (.d (CC (.tell t x b h y q))) n (.d (.int 3)) m R=R (.d (.str b)):=BA (i:=3) rfl
theorem c5:XA (.d (CC (.tell t x b h y q))) n (.d (.int 4)) m R=R (.d (.str h)):=BA (i:=4) rfl
end
section
variable{Ψ:PEv}{x:Str}{es:List Pt}{sr:LS}{u:Kn}
def yw(w:Wd)(l:LN)(ks:List Pt)(o4 o5:Option Sl):xA:=[bD (wD w),jr (.bor (.lst (l.map λn=>T.d (nD n)))),oW (lI (yB w.es l)),oW (lI ks),o4,o5]
def LF:PSp where
 md:=[.fro,.shal]
 run:=λh Q _=>∃(w:Wd) (l:LN),h=[.d (wD w),.lst ((l.map nD).map T.d)]/\WOk w/\l.9<=100/\(∀n∈l,n<w.es.9)/\Q (lI (SL w l)) []
theorem O7(K:Ψ.sp "seen_among"=JI)(W:Ψ.sp "has_against"=DQ):UD Ψ cE LF XH RF:=by
 rintro _ Q _ ⟨w,l,rfl,k,hl,X,q⟩;refine kA [bD (wD w),jr (.bor (.lst ((l.map nD).map T.d))),kv,kv,kv,kv] ?_;delta cE;simp![↓BL,↓yA (md:=[.fro,.shal]) K rfl rfl,↓lB,↓d0];refine#[_,_,rfl,hl,X,?_];simp![↓jA];rw[<- gA nD];refine LA (λn=>T.d (nD n)) (λr i=>∃h o j,r.foldl (fM w (yB w.es l)) h=SL w l/\h.9+r.9<=100/\(∀n∈r,n<w.es.9)/\i=yw w l h o j) ?_ ?_ l _ #[[],kv,kv,rfl,by simpa using hl,X,rfl];rintro i ⟨h,o,j,e,_,_,rfl⟩;have e:h=SL w l:=e;subst e;delta yw;simp![↓jA];exact q;rintro n r i N f ⟨h,o,j,e,hk,z,rfl⟩;have Y:h.9+(r.9+1)<=100:=hk;have s:=z n QD;have v:=k.ev s;have e:r.foldl (fM w (yB w.es l)) (fM w (yB w.es l) h n)=SL w l:=e;unfold fM at e;delta yw;delta BF;simp![↓BL,↓pQ s,↓RV];cases ev:pA w.es n with|see t p m Z=>rw[ev]at e;refine nK (show decide ((Qc "see")=(Qc "tell"))≠kf by decide) ?_;exact f _ #[h,_,_,e,(),λx y=>z x (QE _ y),rfl]|tell t a b m Z A=>rw[ev]at e v;let#[C,hb,B,_]:=v;simp![T4,↓n5,↓m5,↓c5,↓SZ,↓yA (md:=[.fro,.bor]) W rfl rfl,↓lB,↓d0,↓Ou];refine#[(),?_];unfold SV at e;by_cases c:(b,m)∈yB w.es l;simp![dT c];simp only[dT c,W9,QAX,Qu,if_false]at e;exact f _ #[h,_,_,e,(),λx y=>z x (QE _ y),rfl];simp![dF c];refine#[_,_,_,_,_,rfl,#[Ds _,k.nm hb,k.ag],k.al,?_];simp![↓jA];by_cases g:((FL w m++DL w m).any λr=>decide ((b,r)∈yB w.es l))=kf;simp![g];simp only[dF c,g,wn,WU,if_true]at e;exact#[(),vg (p:=(a,b)) () (f _ #[KS h (a,b),_,_,e,by have:=VV h (a,b);omega,λx y=>z x (QE _ y),rfl])];rw[a8 g];simp only[dF c,wn,WU]at e;rw[a8 g]at e;exact f _ #[h,_,_,e,(),λx y=>z x (QE _ y),rfl]
theorem fZ{y:List Pt}(h:∀p∈y,OkS p.1/\OkS p.2){a b:Str}{L:Bool->Prop}(z:OkS a)(hb:OkS b)(q:L (!decide ((a,b)∈y))):KB .NotIn (.d (.tuple [.str a,.str b])) (.d (.list (y.map pr))) L:=m9 h a b (λc=>L (!c)) z hb q
def KT(w:Wd)(x:Str):Int:=((SK w x)[0]?).getD 0
def GN(w:Wd)(x:Str):Int:=((bG w x)[0]?).getD 0
theorem rc{w:Wd}(h:Xi w x):(SK w x)[0]?=jr (KT w x):=by
 let#[p,z,rfl]:=h;have y:p.2.1∈SK w p.1:=QR.mpr #[p,QZ.mpr #[z,dT rfl],rfl];unfold KT;cases e:SK w p.1 with|nil=>rw[e]at y;cases y|cons x r=>rfl
theorem X9{w:Wd}(h:Xi w x):(bG w x)[0]?=jr (GN w x):=by
 let#[p,z,rfl]:=h;have y:p.2.2.1∈bG w p.1:=QR.mpr #[p,QZ.mpr #[z,dT rfl],rfl];unfold GN;cases e:bG w p.1 with|nil=>rw[e]at y;cases y|cons x r=>rfl
def zw(w:Wd)(wr h:List Pt):Evt->Bool
 | .see _ _ _ _=>kf|.tell _ a b m _ _=>decide ((a,m)∈h)&&!decide ((a,b)∈wr)&&decide (GN w b<=KT w a)&&!((FL w m++DL w m).any λr=>decide ((b,r)∈h))
def Mf(h:List Pt):Prop:=∀p∈h,OkS p.1/\OkS p.2
def XY:PSp where
 md:=[.fro,.fro,.bor,.fro]
 run:=λz Q _=>∃(w:Wd) (e:Evt) (y h:List Pt),z=[.d (wD w),.d (CC e),lI y,.d (.list (h.map pr))]/\WOk w/\Xo w e/\Mf h/\Q (.d (.bool (zw w y h e))) []
theorem cr(Y:Ψ.sp "rank_of"=iQ)(X:Ψ.sp "floor_of"=ZM)(s:Ψ.sp "has_against"=DQ):UD Ψ rF XY oO xL:=by
 rintro _ Q _ ⟨w,e,f,y,rfl,h,o,i,q⟩;refine kA [bD (wD w),bD (CC e),jr (.bor (lI f)),bD (.list (y.map pr)),kv,kv,kv] ?_;cases e with|see t p m l=>delta rF;simp![↓RV,T4];exact q|tell t a b m l Z=>let#[j,hb,n,_]:=o;delta rF;simp![↓RV,T4];refine nK (show decide ((Qc "tell")=(Qc "see"))≠kf by decide) ?_;simp![↓n5,↓m5,↓c5,↓Yu];refine#[(),fZ i (h.nm j) (h.mo _ n) ?_];have q:Q (.d (.bool (decide ((a,m)∈y)&&!decide ((a,b)∈f)&&decide (GN w b<=KT w a)&&!((FL w m++DL w m).any λr=>decide ((b,r)∈y))))) []:=q;by_cases k:(a,m)∈y;simp![dT k,↓vY];rw[dT k]at q;refine#[(),?_];by_cases v:(a,b)∈f;simp![dT v];rw[dT v]at q;exact q;simp![dF v,↓yA (md:=[]) Y rfl rfl,↓yA (md:=[]) X rfl rfl];rw[dF v]at q;have g:w.ps.9<=90:=QV h.pl (by decide);refine#[_,_,_,rfl,g,(rc j),?_];simp![↓jA];refine#[_,_,_,rfl,g,(X9 hb),?_];simp![↓Xn];by_cases z:GN w b<=KT w a;simp![dT z,↓yA (md:=[.fro,.bor]) s rfl rfl,↓lB,↓d0];rw[dT z]at q;refine#[_,_,_,_,_,rfl,#[m9 i,h.nm hb,h.ag],h.al,?_];simp![↓jA];exact q;simp![dF z];rw[dF z]at q;exact q;simp![dF k];rw[dF k]at q;exact q
noncomputable abbrev Kn:=List ((List Pt×LS)×LS)
def U3(u:Kn):List D:=u.map λx=>ID x.1.1 x.1.2
def xm(u:Kn):LT:=u.map λx=>T.d (.list (x.2.map j0))
def R4(u:Kn):T:=.dct kf (U3 u) (xm u)
def aO(w:Wd)(u:Kn):Prop:=∀x∈u,∀y,y∈x.2↔Held x.1.1 x.1.2 (mD w) y
theorem jg:∀l:LS,tDs (l.map NK.s)=l.map j0
 |[]=>rfl|x::l=>by show j0 x::tDs (l.map NK.s)=_;rw[jg l];rfl
theorem yg:∀l:List Pt,tDs (l.map λp=>NK.t [.s p.1,.s p.2])=l.map pr
 |[]=>rfl|x::l=>by show pr x::tDs (l.map λp=>NK.t [.s p.1,.s p.2])=_;rw[yg l];rfl
theorem Jr:∀l:LS,nkds (l.map NK.s)=0
 |[]=>rfl|x::l=>by show max 0 (nkds (l.map NK.s))=0;rw[Jr l];rfl
theorem Yr:∀l:List Pt,nkds (l.map λp=>NK.t [.s p.1,.s p.2])<=1
 |[]=>Qv _|x::l=>by show max 1 (nkds (l.map λp=>NK.t [.s p.1,.s p.2]))<=1;have:=Yr l;omega
theorem DR(es:List Pt)(sr:LS):aD kf (ID es sr):=by refine#[[.t (sr.map NK.s),.t (es.map λp=>NK.t [.s p.1,.s p.2])],?_,?_];show _=PyData.tuple [.tuple (tDs (sr.map NK.s)),.tuple (tDs (es.map λp=>NK.t [.s p.1,.s p.2]))];rw[jg,yg];rfl;show max (nkds (sr.map NK.s)+1) (max (nkds (es.map λp=>NK.t [.s p.1,.s p.2])+1) 0)+1<=6;rw[Jr];have:=Yr es;omega
theorem Gb{v:List Pt}{z:LS}(h:ID es sr=ID v z):es=v/\sr=z:=by injection h with h;injection h with h1 h2;injection h2 with h2 _;injection h1 with h1;injection h2 with h2;refine#[(Wg λx y e=>?_).mp h2,(Wg λx y e=>?_).mp h1];injection e with e;injection e with e1 e2;injection e2 with e2 _;injection e1 with e1;injection e2 with e2;exact QCi e1 e2;injection e
theorem vm{v:LS}{Q:T->Prop}(hl:u.9<kn)(h:cA (U3 u) (ID es sr)=kv)(q:Q (R4 (u++[((es,sr),v)]))):dg (R4 u) (.d (ID es sr)) (.lst ((v.map j0).map T.d)) Q:=by refine#[DR es sr,by unfold U3;rw[QC];exact hl,?_];show Q (xK kf (U3 u) (xm u) (ID es sr) (.d (.list (ersT ((v.map j0).map T.d)))));unfold xK;rw[h,vB];unfold R4 U3 xm at q;rw[QO,QO]at q;exact q
theorem yh{k:Nat}(h:cA (U3 u) (ID es sr)=jr k):∃v,((es,sr),v)∈u/\(xm u)[k]?=jr (T.d (.list (v.map j0))):=by
 have e:=BC h;unfold U3 at e;unfold xm;rw[Qa]at e ⊢;cases z:u[k]? with|none=>rw[z]at e;cases e|some x=>rw[z]at e;let#[w,y]:=Gb (Ql e);let#[#[a,b],v]:=x;cases w;cases y;exact#[v,qN z,rfl]
end
section
variable{Ψ:PEv}{E:XE}{ρ:xA}{K:TK}{M:List (T×Bool)->xA->Prop}{a b c i g:PX}{md:List Md}{m:Bool}{f:Kn}{es:List Pt}{sr:LS}{L:Bool->Prop}{R:T->Prop}
section
variable{u:List (Str×LS)}{w:Str}
theorem af:KB .NotIn (.d (.tuple [.tuple (sr.map j0),.tuple (es.map pr)])) (R4 f) L=L (!(cA (U3 f) (ID es sr)).isSome):=by unfold R4;rw[jO];exact ir #[λh=>h.2,λh=>#[DR es sr,h]]
theorem Tv{v:LS}{k:Nat}(h:cA (U3 f) (ID es sr)=jr k)(hv:(xm f)[k]?=jr (T.d (.list (v.map j0))))(q:R (.d (.list (v.map j0)))):XA (R4 f) kd (.d (.tuple [.tuple (sr.map j0),.tuple (es.map pr)])) m R:=.inr #[kf,_,_,k,_,rfl,DR es sr,h,hv,q]
theorem jAd:ub (R4 f) kd Ψ b E ρ K=oB Ψ b E (lockA ρ) λy m _=>K y m ρ:=rfl
noncomputable def R3(u:List (Str×LS)):T:=.dct kd (u.map λx=>.str x.1) (u.map λx=>T.d (.list (x.2.map j0)))
theorem As{v:LS}{Q:T->Prop}(hl:u.9<kn)(h:w∉u.map λx=>x.1)(q:Q (R3 (u++[(w,v)]))):dg (R3 u) (.d (.str w)) (.d (.list (v.map j0))) Q:=by refine#[#[w,rfl],by rw[QC];exact hl,?_];show Q (xK kd (u.map λx=>.str x.1) (u.map λx=>T.d (.list (x.2.map j0))) (.str w) (.d (.list (v.map j0))));unfold xK;rw[kB.mpr λz=>h (by let#[x,y,e]:=QR.mp z;injection e with e;exact QR.mpr #[x,y,e])];unfold R3 at q;rw[QO,QO]at q;exact q
theorem jt(h:w∈u.map λx=>x.1)(q:∀v,(w,v)∈u->R (.d (.list (v.map j0)))):XA (R3 u) kd (.d (.str w)) m R:=by
 cases e:cA (u.map λx=>j0 x.1) (.str w) with
 |none=>let#[x,l,j]:=QR.mp h;exact im (QR.mpr #[x,l,i3 j0 j]) (kB.mp e)|some k =>
  have j:=BC e;rw[Qa]at j;cases z:u[k]? with|none=>rw[z]at j;cases j|some x=>rw[z]at j;have j:j0 x.1=.str w:=Ql j;injection j with j;let#[y,v]:=x;cases j;exact .inr #[kd,_,_,k,T.d (.list (v.map j0)),rfl,#[_,rfl],e,by rw[Qa,z];rfl,q v (qN z)]
theorem jAe:ub (R3 u) kd Ψ b E ρ K=oB Ψ b E (lockA ρ) λy m _=>K y m ρ:=rfl
theorem oy{v:Bool}{mk:List Bool}{t:Str}{x:T}{z:dy}{R:Option T->Prop}:gG Ψ E (v::mk) [t] (.nm 0) (.cmp z a c) g ρ x R=IQ Ψ (.cmp z a c) E (jr (.bor x)::bC (v::mk) (lockA ρ)) λk h=>if k=kf then oB Ψ g E h λy n _=>oC y n (R (jr y)) else R none:=rfl
end
end
theorem aZ{c a b:Prop}[Decidable c](h:c)(q:a):if c then a else b:=by rw[a9 h];exact q
def UL(w:Wd)(l h:LN)(m x:Str):Prop:=Held (BE w.es h m) (HF w (yB w.es l) m) (mD w) x
open Classical in
def E3(w:Wd)(l h:LN)(x m:Str):Bool:=decide (UL w l h m x)
open Classical in
section
variable{Ψ:PEv}{Z:PEnds}{w:Wd}{l u:LN}{f:Kn}{g:List (Str×LS)}{m:Str}{o8 i o7:Option Sl}
theorem lJ(w:Wd)(l u:LN)(x m:Str):E3 w l u x m=kf↔UL w l u m x:=by unfold E3;exact i0
noncomputable def FP(w:Wd)(l u:LN)(x:Str):List Pt:=(w.ms.filter (E3 w l u x)).map λm=>(x,m)
def UC(w:Wd)(l u:LN):List Pt:=w.ps.flatMap λp=>FP w l u p.1
def D4(w:Wd)(u:LN):Prop:=u.9<=100/\∀n∈u,n<w.es.9/\DD (pA w.es n)
def gz(Q:T->LT->Prop):PEnds:={ nx:=λh=>ZW (HA [3] h) (Q (.d .none)),rt:=λt h=>ZW (HA [3] h) (Q t) }
def A3(w:Wd)(l u:LN)(f:Kn)(g:List (Str×LS))(o6 o7 o8 i:Option Sl):xA:=[bD (wD w),jr (.bor (.lst ((l.map nD).map T.d))),bD (.list (u.map nD)),oW (R4 f),oW (lI (yB w.es l)),oW (R3 g),o6,o7,o8,i]
def Hb(w:Wd)(l u:LN)(m:Str):T:=.d (ID (BE w.es u m) (HF w (yB w.es l) m))
theorem vh{k:Nat}{v:LS}(hl:g.9<kn)(y:m∉g.map λx=>x.1)(h:cA (U3 f) (ID (BE w.es u m) (HF w (yB w.es l) m))=jr k)(hv:(xm f)[k]?=jr (T.d (.list (v.map j0))))(q:Z.nx (A3 w l u f (g++[(m,v)]) (bD (.str m)) (jr (.bor (Hb w l u m))) o8 i)):pF Ψ HC Z (A3 w l u f g (bD (.str m)) (jr (.bor (Hb w l u m))) o8 i):=by delta A3 Hb ID;delta HC;simp![↓jAd];refine Tv h hv ?_;simp![↓jA];exact As hl y q
theorem d6(w:Wd)(ks:List Pt)(m:Str):(HF w ks m).9<=w.ps.length:=by unfold HF;rw[QC];exact Qs _ _
theorem M9(evs:List Evt)(u:LN)(m:Str):(BE evs u m).9<=u.length:=by unfold BE;rw[QC];exact Qs _ _
theorem X5(h:WOk w)(hv:D4 w u)(m:Str):VG (BE w.es u m) (HF w (yB w.es l) m):=by constructor;intro s z;let#[p,v,rfl]:=QR.mp z;exact h.po p (QZ.mp v).1;intro e k;let#[n,y,rfl]:=QR.mp k;have y:=(QZ.mp y).1;let#[a,t,x,b,o,j,q,e]:=hv.2 n y;have:=h.ev a;rw[e]at this ⊢;exact#[h.nm this.1,h.nm this.2.1]
theorem Jx(F:Ψ.sp "seers_of"=JM)(E:Ψ.sp "edges_of"=KM)(r:Ψ.sp "holders_in"=TL)(b:WOk w)(hv:D4 w u)(hk:aO w f)(C:f.9<=20000)(hl:g.9<1000)(p:m∉g.map λx=>x.1)(q:∀h v,aO w h->h.9<=f.9+1->(∀y,y∈v↔UL w l u m y)->Z.nx (A3 w l u h (g++[(m,v)]) (bD (.str m)) (jr (.bor (Hb w l u m))) o8 i)):pF Ψ ZD Z (A3 w l u f g (bD (.str m)) o7 o8 i):=by
 have L:=b.pl;have J:=d6 w (yB w.es l) m;have I:=M9 w.es u m;have G:=hv.1;delta A3;delta ZD;simp![↓BL,↓yA (md:=[.fro,.bor]) F rfl rfl,↓yA (md:=[]) E rfl rfl,↓yA (md:=[]) r rfl rfl,↓lB,↓d0,↓Ou];refine#[_,_,_,_,rfl,#[Ls _,()],?_];simp![↓jA];refine#[_,_,_,rfl,hv.1,hv.2,?_];simp![↓af];refine#[(),?_];cases e:cA (U3 f) (ID (BE w.es u m) (HF w (yB w.es l) m)) with
 |some k=>let#[v,X,s]:=yh e;refine nK (λz=>by cases z) ?_;exact vh () p e s (q f v hk () (hk _ X))|none =>
  refine aZ rfl ?_;simp![↓yA (md:=[]) r rfl rfl];refine#[_,_,_,rfl,#[(),(),X5 b hv m,(),b.pn],λv j B=>?_];simp![↓jA];refine vm () e ?_;have A:cA (U3 (f++[((BE w.es u m,HF w (yB w.es l) m),v)])) (ID (BE w.es u m) (HF w (yB w.es l) m))≠none:=λz=>kB.mp z (QR.mpr #[_,QU _ (QJ.mpr rfl),rfl]);have o:aO w (f++[((BE w.es u m,HF w (yB w.es l) m),v)]):=λx a=>by rcases Qg.mp a with a|a;exact hk x a;rw[QJ.mp a];exact j
  cases n:cA (U3 (f++[((BE w.es u m,HF w (yB w.es l) m),v)])) (ID (BE w.es u m) (HF w (yB w.es l) m)) with|none=>exact im n A|some k=>let#[Y,K,W]:=yh n;exact vh () p n W (q _ Y o (by rw[QI];exact QT _) (o _ K))
theorem V4{b:PT}{p:PSp}{N x:LS}{ds:LT}{Q:T->LT->Prop}(ρ:xA)(h:pF Ψ b (gz Q) ρ)(hl:ds.9=x.length:=by rfl)(hc:XB 0 p.md x.9=[3]:=by rfl)(y:mB N p.md ds=ρ:=by rfl):ds.9=x.9/\pF Ψ b (PC p x.9 Q) (mB N p.md ds):=by
 have e:PC p x.9 Q=gz Q:=by unfold PC;rw[hc];rfl
 rw[e,y];exact#[hl,h]
def GD:PSp where
 md:=[.fro,.shal,.fro,.chg]
 run:=λx Q _=>∃(w:Wd) (l u:LN) (f:Kn),x=[.d (wD w),.lst ((l.map nD).map T.d),.d (.list (u.map nD)),R4 f]/\(WOk w/\l.9<=100/\∀n∈l,n<w.es.9)/\D4 w u/\(aO w f/\f.9<=10000)/\∀h,aO w h->h.9<=f.9+10->Q (.lst (((UC w l u).map pr).map T.d)) [R4 h]
theorem ZZ(h:WOk w)(l u:LN)(x:Str):(FP w l u x).9<=10:=by unfold FP;rw[QC];exact QV (Qs _ _) h.ml
theorem sx{h:List Pt}{o6:Option Sl}{p:Str×Int×Int×Int}(k:WOk w)(n:g.map (λx=>x.1)=w.ms)(j:∀x∈g,∀y,y∈x.2↔UL w l u x.1 y)(hl:h.9<=1000)(q:Z.nx (A3 w l u f g o6 o7 (oW (.lst (((h++FP w l u p.1).map pr).map T.d))) (bD (TJ p)))):pF Ψ YD Z (A3 w l u f g o6 o7 (oW (.lst ((h.map pr).map T.d))) (bD (TJ p))):=by
 have o:=k.ml;have a:=ZZ k l u p.1;delta A3;delta YD;simp![↓u5];rw[<- gA j0];refine fA (λm=>T.d (.str m)) (λm=>T.d (pr (p.1,m))) (E3 w l u p.1) w.ms [] _ (λm b R z=>?_) (by show 0+w.ms.9<=_;omega) ?_;simp![↓oy,↓K0,↓jAe];refine jt (n▸b) λv hv=>?_;have e:decide (p.1∈v)=E3 w l u p.1 m:=by rw[qA,i0];exact(j _ hv p.1).trans (lJ w l u p.1 m).symm
 simp![bH,VE,aB,true_or,e];split at z;rename_i c;rw[a9 c];exact#[(),z];rename_i c;rw[a8 c];exact z;rw[Qf,gA λm=>pr (p.1,m)];have e:((w.ms.filter (E3 w l u p.1)).map λm=>pr (p.1,m))=(FP w l u p.1).map pr:=by unfold FP;rw[QW];rfl
 rw[e,<- QO,<- QO];exact#[by rw[QC,QC,QC,QC];omega,q]
theorem Hd(L:Ψ.sp "seen_among"=JI)(J:Ψ.sp "seers_of"=JM)(I:Ψ.sp "edges_of"=KM)(G:Ψ.sp "holders_in"=TL):UD Ψ tF GD FJ JH:=by
 rintro _ Q _ ⟨w,l,u,f,rfl,⟨n,hl,E⟩,hv,⟨hk,F⟩,q⟩;have R:=n.ml;have P:=n.pl;refine V4 [bD (wD w),jr (.bor (.lst ((l.map nD).map T.d))),bD (.list (u.map nD)),oW (R4 f),kv,kv,kv,kv,kv,kv] ?_;delta tF;simp![↓BL,↓u5,↓yA (md:=[.fro,.shal]) L rfl rfl,↓lB,↓d0];refine#[_,_,rfl,hl,E,?_];simp![↓u5];rw[<- gA j0];refine LA (λm=>T.d (.str m)) (λr b=>∃h g a o7,g.map (λx=>x.1)++r=w.ms/\(aO w h/\h.9+r.9<=f.9+w.ms.9)/\(∀x∈g,∀y,y∈x.2↔UL w l u x.1 y)/\b=A3 w l u h g a o7 kv kv) ?_ ?_ w.ms _ #[f,[],kv,kv,rfl,#[hk,QT _],(λx j=>by cases j),rfl];rintro b ⟨h,g,a,o7,e,⟨Y,o⟩,K,rfl⟩;have e:g.map (λx=>x.1)=w.ms:=by rw[<- e,qJ]
 have o:h.9<=f.9+w.ms.length:=o;delta A3;simp![↓PV];rw[<- gA TJ];refine#[(),?_];refine LA (λp=>T.d (TJ p)) (λr b=>∃k a o7 i,k++r.flatMap (λp=>FP w l u p.1)=UC w l u/\k.9+10 * r.9<=200/\b=A3 w l u h g a o7 (oW (.lst ((k.map pr).map T.d))) i) ?_ ?_ w.ps _ #[[],_,_,kv,rfl,by show 0+10 * w.ps.9<=200;omega,rfl];rintro b ⟨k,a,o7,i,s,_,rfl⟩;have s:k=UC w l u:=by rw[<- s];exact(qJ k).symm
 subst s;delta A3;simp![↓jA];exact q h Y ();rintro p r b N W ⟨k,a,o7,i,s,A,rfl⟩;have A:k.9+10 * (r.9+1)<=200:=A;have B:=ZZ n l u p.1;refine sx n e K () (W _ #[k++FP w l u p.1,a,o7,_,?_,by rw[QI];omega,rfl]);rw[Q8];exact s;rintro m r b N W ⟨h,g,a,o7,e,⟨Y,o⟩,K,rfl⟩;have o:h.9+(r.9+1)<=f.9+w.ms.length:=o;have C:g.9+(r.9+1)=w.ms.length:=by rw[<- e,QI,QC];rfl
 have nd:=n.mn;rw[<- e]at nd;refine Jx J I G n hv Y () () (λz=>(qZ.mp nd).2.2 m z m QD rfl) λX v O S M=>W _ #[X,g++[(m,v)],_,_,?_,#[O,()],?_,rfl];rw[QO,Q8];exact e;intro x j;rcases Qg.mp j with j|j;exact K x j;rw[QJ.mp j];exact M
end
end L2.L3.K48
namespace L2.L3
open PySem PySem.Spec PyProof.Rows PySem.W
def dI{α:Type}(n:Nat)(lt:Nat->Nat->Bool)(P:α->Prop):KasT α->Prop
 | .ret a=>P a|.ask i j k=>(i<n/\j<n/\i≠j)/\dI n lt P (k (lt i j))
theorem dI.bnd{α x:Type}{n:Nat}{lt:Nat->Nat->Bool}{P:α->Prop}{R:x->Prop}{f:α->KasT x}(y:∀a,P a->dI n lt R (f a)):∀{t:KasT α},dI n lt P t->dI n lt R (t.bind f)
 | .ret a,h=>y a h|.ask _ _ _,#[h1,h]=>#[h1,dI.bnd y h]
theorem dI.imp{α:Type}{n:Nat}{lt:Nat->Nat->Bool}{P R:α->Prop}(x:∀a,P a->R a):∀{t:KasT α},dI n lt P t->dI n lt R t
 | .ret a,h=>x a h|.ask _ _ _,#[h1,h]=>#[h1,dI.imp x h]
theorem dI.wp{α:Type}{n:Nat}{lt:Nat->Nat->Bool}{P:α->Prop}{x:Nat->Nat->(Bool->kt->Prop)->kt->Prop}{Q:α->kt->Prop}{s:kt}(y:∀i j,i<n->j<n->i≠j->∀C:Bool->kt->Prop,C (lt i j) s->x i j C s)(z:∀a,P a->Q a s):∀{t:KasT α},dI n lt P t->t.kasWp x Q s
 | .ret a,h=>z a h|.ask i j _,#[#[h1,h2,h3],h]=>y i j h1 h2 h3 _ (dI.wp y z h)
def cJ(lt:Nat->Nat->Bool)(a b:Nat):Prop:=lt b a=kd
structure Ord(lt:Nat->Nat->Bool):Prop where
 asy:∀a b,lt a b=kf->lt b a=kd
 tr:∀a b c,cJ lt a b->cJ lt b c->cJ lt a c
def gD(p:Array Nat)(i:Nat):Nat:=p.getD i 0
theorem HU{p q:Array Nat}{i j:Nat}(h:p[i]?=q[j]?):gD p i=gD q j:=by unfold gD;rw[QAL,QAL,h]
def Up(lt:Nat->Nat->Bool)(p:Array Nat)(k:Nat):Prop:=∀i j,i<=j->j<k->cJ lt (gD p i) (gD p j)
def Dn(lt:Nat->Nat->Bool)(p:Array Nat)(k:Nat):Prop:=∀i j,i<=j->j<k->cJ lt (gD p j) (gD p i)
theorem Pm.two{n:Nat}{p:Array Nat}(h:Pm n p){a b:Nat}(w:a<n)(hb:b<n)(z:a≠b):p.getD a 0<n/\p.getD b 0<n/\p.getD a 0≠p.getD b 0:=by
 have u:p.size=n:=by have:=h.size_eq;simpa using this
 have x:0<n:=()
 refine#[h.lt x a,h.lt x b,λe=>?_];have nd:p.toList.Nodup:=(qH.mp h).nodup_iff.mpr (by simpa using QCT);have y:∀i,i<n->p.toList[i]?=jr (p.getD i 0):=λi v=>by rw[wx,QAg ()];simp[QB8,u,v]
 exact z ((QCC (by rw[Qz];omega) nd).mp ((y a w).trans ((i3 jr e).trans (y b hb).symm)))
section
variable{lt:Nat->Nat->Bool}{p:Array Nat}
theorem OQ{i j:Nat}(h:j<=p.size)(k:Nat):gD (kas_rev p i j) k=if i<=k/\k<j then gD p (i+j - 1 - k) else gD p k:=by have:=getElem?_mirror_all (xs:=p) (i:=i) h k;split;rename_i c;rw[a9 c]at this;exact HU this;rename_i c;rw[a8 c]at this;exact HU this
theorem VX{a b k:Nat}(hb:b<=p.size)(hk:Dn lt p k)(e:∀x y,a<=x->x<b->a<=y->y<b->cJ lt (gD p x) (gD p y))(w:b<=k):Dn lt (kas_rev p a b) k:=λi j v z=>by rw[OQ hb,OQ hb];by_cases u:a<=i/\i<b;rw[a9 u];by_cases h:a<=j/\j<b;rw[a9 h];exact e _ _ () () () ();rw[a8 h];exact hk _ _ () z;rw[a8 u];by_cases h:a<=j/\j<b;rw[a9 h];exact hk _ _ () ();rw[a8 h];exact hk _ _ v z
theorem bj{k:Nat}(hk:k<=p.size)(h:Dn lt p k):Up lt (kas_rev p 0 k) k:=λi j y x=>by rw[OQ hk,OQ hk,a9 (),a9 ()];exact h _ _ () ()
theorem Ja{k d:Nat}(h:k<p.size)(x:d<=k)(i:Nat):gD (bubble p k d) i=if i=k - d then gD p k else if k - d<i/\i<=k then gD p (i - 1) else gD p i:=by have:=getElem?_bubble h d x i;split;rename_i c;rw[a9 c]at this;exact HU this;rename_i c;rw[a8 c]at this;split;rename_i c2;rw[a9 c2]at this;exact HU this;rename_i c2;rw[a8 c2]at this;exact HU this
end
section
variable{n:Nat}{lt:Nat->Nat->Bool}(o:Ord lt){p:Array Nat}
include o
theorem Ord.re(a:Nat):cJ lt a a:=by
 unfold cJ;cases h:lt a a with|false=>rfl|true=>exact(o.asy a a h).symm.trans h |>.symm▸rfl
theorem Ord.le{a b:Nat}(h:lt a b=kf):cJ lt a b:=o.asy a b h
theorem L5:Up lt p 1:=λi j x h=>by
 obtain rfl:i=j:=()
 exact o.re _
theorem Rb{k:Nat}(z:1<=k)(h:Up lt p k)(l:cJ lt (gD p (k - 1)) (gD p k)):Up lt p (k+1):=λi j x y=>by
 by_cases e:j<k;exact h i j x e;obtain rfl:j=k:=()
 by_cases e:i=j;subst e;exact o.re _;exact o.tr _ _ _ (h i (j - 1) () ()) l
theorem aJ{k:Nat}(z:1<=k)(h:Dn lt p k)(l:cJ lt (gD p k) (gD p (k - 1))):Dn lt p (k+1):=λi j x y=>by
 by_cases e:j<k;exact h i j x e;obtain rfl:j=k:=()
 by_cases e:i=j;subst e;exact o.re _;exact o.tr _ _ _ l (h i (j - 1) () ())
theorem FW(h:Pm n p)(v:0<n):∀(f m:Nat),1<=m->m+f<=n->Up lt p m->dI n lt (λr=>m<=r/\r<=m+f/\Up lt p r/\(r<m+f->lt (gD p r) (gD p (r - 1))=kf)) (kas_asc p f m)
 |0,m,h1,h2,u=>#[QT _,QT _,u,λz=>im z ()]|f+1,m,h1,h2,u=>by
  refine#[h.two () () (),?_];cases c:lt (p.getD m 0) (p.getD (m - 1) 0) with|true=>exact#[QT _,(),u,λ_=>c]|false=>have y:=FW h v f (m+1) () () (Rb o h1 u c);show dI n lt _ (kas_asc p f (m+1));rw[show m+1+f=m+(f+1) by omega]at y;exact dI.imp (λr x=>#[(),x.2.1,x.2.2.1,x.2.2.2]) y
theorem jM(w:0<n):∀(f:Nat) {p:Array Nat}(m q:Nat),Pm n p->q+1<=m->m+f<=n->Dn lt p m->(∀x y,m - (q+1)<=x->x<m->m - (q+1)<=y->y<m->cJ lt (gD p x) (gD p y)) ->
  dI n lt (λr=>Pm n r.1/\r.2.2+1<=r.2.1/\r.2.1<=n/\Dn lt r.1 r.2.1/\∀x y,r.2.1 - (r.2.2+1)<=x->x<r.2.1->r.2.1 - (r.2.2+1)<=y->y<r.2.1->cJ lt (gD r.1 x) (gD r.1 y)) (kas_desc f p m q)
 |0,p,m,q,h,hq,hm,d,al=>#[h,hq,(),d,al]|f+1,p,m,q,h,hq,hm,d,al=>by
  have s:p.size=n:=by have:=h.size_eq;simpa using this
  refine#[h.two () () (),?_];cases c:lt (p.getD m 0) (p.getD (m - 1) 0) with
  |true =>
   have l:cJ lt (gD p m) (gD p (m - 1)):=o.le c;show dI n lt _ (if q > 0 then kas_desc f (kas_rev p (m - (q+1)) m) (m+1) 0 else kas_desc f p (m+1) 0);have one:∀{p:Array Nat}(x y:Nat),m+1 - (0+1)<=x->x<m+1->m+1 - (0+1)<=y->y<m+1->cJ lt (gD p x) (gD p y):=λx y a v k u=>by
    obtain rfl:x=y:=()
    exact o.re _
   split;refine jM w f (m+1) 0 (h.rev _ _) () () ?_ one;exact VX () (aJ o () d l) (λx y a v k u=>al x y a v k u) ();exact jM w f (m+1) 0 h () () (aJ o () d l) one
  |false =>
   refine#[h.two () () (),?_];cases e:lt (p.getD (m - 1) 0) (p.getD m 0) with
   |true=>exact#[h,hq,show m<=n by omega,d,al]|false =>
    have j:cJ lt (gD p (m - 1)) (gD p m):=c;have g:cJ lt (gD p m) (gD p (m - 1)):=e;refine jM w f (m+1) (q+1) h () () (aJ o () d g) λx y a v k u=>?_;have b:∀x,m - (q+1)<=x->x<m+1->cJ lt (gD p x) (gD p m)/\cJ lt (gD p m) (gD p x):=λx i X=>by by_cases z:x=m;subst z;exact#[o.re _,o.re _];exact#[o.tr _ _ _ (al x (m - 1) i () () ()) j,o.tr _ _ _ g (al (m - 1) x () () i ())]
    exact o.tr _ _ _ (b x () v).1 (b y () u).2
theorem MT(h:Pm n p)(z:0<n){a:Nat}(y:1<=a)(v:a<=n)(d:Dn lt p a):dI n lt (λr=>Pm n r.2/\r.1<=n/\Up lt r.2 r.1) (kas_tail3 a n p):=by
 have u:p.size=n:=by have:=h.size_eq;simpa using this
 refine dI.bnd (f:=λm=>.ret (m,kas_rev p 0 a)) (λm x=>?_) (FW o (h.rev 0 a) z (n - a) a y () (bj () d));exact#[h.rev _ _,(),x.2.2.1]
theorem gL(h:Pm n p)(z:0<n){a:Nat}(g:1<=a)(f:a+1<=n)(d:Dn lt p (a+1)):dI n lt (λr=>Pm n r.2/\r.1<=n/\Up lt r.2 r.1) (kas_descPart a n p):=by
 refine dI.bnd (λr k=>?_) (jM o z (n - (a+1)) (a+1) 0 h () () d λx y q m l j=>?_);let#[u,i,w,v,b]:=k;have e:r.1.size=n:=by have:=u.size_eq;simpa using this
 split;exact MT o (u.rev _ _) z () w (VX () v b (QT _));exact MT o u z () w v;obtain rfl:x=y:=()
 exact o.re _
theorem y8(h:Pm n p)(z:0<n):dI n lt (λr=>Pm n r.2/\r.1<=n/\Up lt r.2 r.1) (kas_count n p):=by
 have Y:p.size=n:=by have:=h.size_eq;simpa using this
 refine dI.bnd (λm f=>?_) (FW o h z (n - 1) 1 (QT _) () (L5 o));let#[w,s,u,st]:=f;split;exact#[h,(),u];rename_i v;have v:m≠n:=λe=>v (by rw[e];exact beq_self_eq_true _);have st:=st ();have l:cJ lt (gD p m) (gD p (m - 1)):=o.le st;split;rename_i g1;refine#[h.two () () (),?_];cases c:lt (p.getD 0 0) (p.getD (m - 1) 0) with|true=>exact#[h,(),u]|false=>have c:cJ lt (gD p (m - 1)) (gD p 0):=c;have a:∀x y,x<m->y<m->cJ lt (gD p x) (gD p y):=λx y X b=>o.tr _ _ _ (u x (m - 1) () ()) (o.tr _ _ _ c (u 0 y () b));refine gL o (h.rev _ _) z w () (VX () (aJ o w (λi j _ k=>a j i k ()) l) (λx y _ q _ g=>a x y q g) ())
 obtain rfl:m=1:=()
 refine gL o h z (QT _) () (aJ o (QT _) (λi j Z k=>?_) l);obtain rfl:i=j:=()
 exact o.re _
theorem pN(h:Pm n p){k:Nat}(hk:k<n)(u:Up lt p k):∀(f l r:Nat),l<=r->r<=k->r - l<=f->(∀i,i<l->cJ lt (gD p i) (gD p k))->(∀i,r<=i->i<k->cJ lt (gD p k) (gD p i))->dI n lt (λl=>l<=k/\(∀i,i<l->cJ lt (gD p i) (gD p k))/\∀i,l<=i->i<k->cJ lt (gD p k) (gD p i)) (kas_place p k f l r)
 |0,l,r,h1,h2,h3,h4,h5=>#[(),h4,λi x hk=>h5 i () hk]|f+1,l,r,h1,h2,h3,h4,h5=>by
  show dI n lt _ (if l ≥ r then _ else _);split;exact#[(),h4,λi x hk=>h5 i () hk];refine#[h.two hk () (),?_];cases c:lt (p.getD k 0) (p.getD ((l+r) / 2) 0) with|true=>exact pN h hk u f _ _ () () () h4 λi x hk=>o.tr _ _ _ (o.le c) (u _ _ x hk)|false=>exact pN h hk u f _ _ () () () (λi x=>o.tr _ _ _ (u i ((l+r) / 2) () ()) c) h5
theorem DW(e:0<n):∀(f:Nat) {p:Array Nat}(k:Nat),Pm n p->k+f=n->Up lt p k->dI n lt (λr=>Pm n r/\Up lt r n) (kas_bin f p k)
 |0,p,k,h,hk,u=>#[h,by rw[<- hk];exact u]|f+1,p,k,h,hk,u=>by
  have m:p.size=n:=by have:=h.size_eq;simpa using this
  refine dI.bnd (λl hl=>?_) (pN o h () u k 0 k (Qv _) (QT _) () (λi y=>im y ()) λi y hk=>im hk ());let#[g,b,a]:=hl;refine DW e f (k+1) ((bubble_perm _ _ _).trans h) () λi j y q=>?_;rw[Ja () (),Ja () (),show k - (k - l)=l by omega];by_cases w:i=l;rw[a9 w];by_cases x:j=l;rw[a9 x];exact o.re _;rw[a8 x,a9 ()];exact a _ () ();rw[a8 w];by_cases x:j=l;rw[a9 x,a8 ()];exact b _ ();rw[a8 x];by_cases v:l<i/\i<=k;rw[a9 v,a9 ()];exact u _ _ () ();rw[a8 v];by_cases z:l<j/\j<=k;rw[a9 z];exact u _ _ () ();rw[a8 z];exact u _ _ y ()
theorem Xd(y:0<n):dI n lt (λr=>Pm n r/\Up lt r n) (kas_sort n):=by
 refine dI.bnd (λr z=>?_) (y8 o (QBK _) y);let#[x,u,h]:=z;split;by_cases c:1<=r.1
 ·rw[Nat.max_eq_left c]
  exact DW o y _ _ x () h
 rw[Nat.max_eq_right ()];exact DW o y _ _ x () (L5 o);rw[show r.1=n by omega]at h;exact#[x,h]
end
open PySem.SeqAt
noncomputable def Y3(ks:List (Int×Int))(i j:Nat):Bool:=decide ((ks.getD i (0,0)).1<(ks.getD j (0,0)).1∨(ks.getD i (0,0)).1=(ks.getD j (0,0)).1/\(ks.getD i (0,0)).2<(ks.getD j (0,0)).2)
theorem Je(ks:List (Int×Int)):Ord (Y3 ks):=by refine#[λa b h=>?_,λa b c y x=>?_];unfold Y3 at h ⊢;have:=ii h;exact dF ();unfold cJ Y3 at *;have y:=of_decide_eq_false y;have x:=of_decide_eq_false x;exact dF ()
def CD(h:vu)(v:kb)(p:Int×Int):Prop:=∃a o n t u,v=.ref a/\h.get? a=jr o/\o.cls=.type "tuple"/\o.data=.seq (qG [Value.int p.1 t,Value.int p.2 u]) n
theorem CD.keep{h h':vu}{v:kb}{x:Int×Int}{c:ko}{u:Obj}(e:h.get? c=jr u)(hc:u.cls≠.type "tuple")(k:∀b o,b≠c->h.get? b=jr o->h'.get? b=jr o)(t:CD h v x):CD h' v x:=by let#[a,o,n,t,r,f,y,w,d]:=t;exact#[a,o,n,t,r,f,k _ _ (λz=>by rw[z,e]at y;cases y;exact hc w) y,w,d]
section
variable{prog:k5}{w:xb}{A:x2}{E:mC}{s:kt}
section
variable{vs:LW}{r f:ko}{a b c:Int}{t u v:Tok}{n:Nat}{kz:List (Int×Int)}
theorem Pl{v u:kb}{x y:Int×Int}{Q:Bool->kt->Prop}(hv:CD s.1 v x)(z:CD s.1 u y)(q:Q (decide (x.1<y.1∨x.1=y.1/\x.2<y.2)) s):ku (k0 prog w) A (keyLt' (tuples' kf) v u) Q E s:=by let#[a,o,n,t,r,rfl,g,_,j]:=hv;let#[b,p,X,l,m,rfl,k,_,i]:=z;refine kat_lt g j k i (kat_cons (QA2 ?_));by_cases e:x.1=y.1;rw[e,beq_self_eq_true];refine kat_yes (kat_cons (QA2 ?_));by_cases h:x.2=y.2;rw[h,beq_self_eq_true];refine kat_yes (kat_nil ?_);rw[show decide (x.1<y.1∨x.1=y.1/\x.2<y.2)=kd from dF ()]at q;exact q;rw[beq_false_of_ne h];refine kat_no (kat_one _ _ (PyProof.Rows.lt_int ?_));rw[show decide (x.1<y.1∨x.1=y.1/\x.2<y.2)=decide (x.2<y.2) from decide_eq_decide.mpr ()]at q;exact q;rw[beq_false_of_ne e];refine kat_no (oneLt_int ?_);rw[show decide (x.1<y.1∨x.1=y.1/\x.2<y.2)=decide (x.1<y.1) from decide_eq_decide.mpr ()]at q;exact q
theorem z9{ns:List (Int×Int)}{Q:SortKind->kt->Prop}(l:x0 (CD s.1) vs ns)(K:2<=vs.9)(q:Q (tuples' kf) s):ku (k0 prog w) A (keyKind' vs.toArray) Q E s:=by
 have key:∀{vs:LW}{ns:List (Int×Int)},x0 (CD s.1) vs ns->∃fs,KatTups s.1 vs fs/\fs.9=vs.9/\∀f∈fs,∃x t,f=.int x t:=by
  intro vs ns h;induction h with
  |nil=>exact#[[],.nil,rfl,λ_ z=>(nomatch z)]
  |@cons v x Z Y h _ e=>let#[fs,j,i,g]:=e;let#[a,o,n,t,r,rfl,p,hc,X]:=h;refine#[.int x.1 t::fs,.cons (f:=.int x.1 t) p hc X (by simp) j,by rw[QM,QM,i],λf m=>?_];rcases QK.mp m with rfl|z;exact#[_,_,rfl];exact g f z
 let#[fs,k,W,y]:=key l;exact kat_kind (T:=.type "int") k () (λv hv=>by let#[x,t,rfl]:=y v hv;exact .of_pure rfl) (by decide) q
theorem NH{α x:Type}{R:α->x->Prop}{d:α}{e:x}:∀{l:List α}{m:List x},x0 R l m->∀i,i<l.9->R (l.getD i d) (m.getD i e)
 |_,_,.nil,i,h=>im h (Nat.not_lt_zero _)|_,_,.cons r _,0,_=>r|_,_,.cons _ t,i+1,h=>NH t i (wq h)
theorem dL{α x:Type}{R:α->x->Prop}:∀{l z:List α}{m y:List x},x0 R l m->x0 R z y->x0 R (l++z) (m++y)
 |_,_,_,_,.nil,h=>h|_,_,_,_,.cons r t,h=>.cons r (dL t h)
theorem FO{Q:LW->kt->Prop}(Y:A.handled=kv)(q:ro s.1 r a b c t u v)(x:QBh a b c=kf)
  (X:WW a b c=n) (z:n<=2 ^ 24)
  (h:∀h' g y,(∀b o,s.1.get? b=jr o->h'.get? b=jr o)->s.1.1.size<h'.1.size->ItemsOf (λi v=>∃t,v=.int (a+i * c) t) y n->Q y.toList { s with heap:=h',toks:=g }) :
  ku (k0 prog w) A (collect (.ref r)) Q E s:=by
 unfold collect;refine QF (wpAny_runValue (QAG F.entry_proto_collect ?_));rw[WE F.plain_proto_collect _];show ku _ A.in1 (newList [] >>= λl=>again (.builtin "list.__iadd__" #[[l,.ref r],[]])) _ _ s;refine QF (qM ?_);refine QL #[QAv QCD _,QAG F.entry_list_iadd ?_];rw[WE QCD _];have Z:(s.1.push { cls:=.type "list",data:=.seq ([]:LW).toArray }).get? s.1.1.size=jr { cls:=.type "list",data:=.seq #[] }:=QS _ rfl;show ku _ A.in1 (w9 (.ref s.1.1.size) (.ref r) (.ref s.1.1.size)) _ _ _;refine wpAny_extend_range (R:=λr j=>match r with | .ok (.ret v)=>ku (k0 prog w) A (match v with | .ref a=>(do let o <- load a;match o.data with | .seq m _=>tv m.toList|_=>unsupported "internal:collect")|_=>unsupported "internal:collect") Q E j | .ok _=>False | .error e=>E e j) (s:={ s with heap:=s.1.push { cls:=.type "list",data:=.seq ([]:LW).toArray } }) Y (QH _ q) x X z _ _ _ Z λh' g y W p k it=>?_;show ku _ A (load s.1.1.size >>= _) _ _ _;refine QF (wpAny_load k ?_);exact QL (h h' g y (λb o e=>p b o (Qm (QY e)) (QH _ e)) (QY k) it)
theorem Al{a:ko}{P:PySem.Fin->kt->Prop}(ho:s.1.get? a=jr (th "list" vs.toArray n))(h64:vs.9<64)(hl:kz.9=vs.9)
  (hf:∀(h:vu) (g:Nat),(∀b o,b≠a->s.1.get? b=jr o->h.get? b=jr o)->∀(i:Nat) (x:kb) (p:Int×Int),vs[i]?=jr x->kz[i]?=jr p->∀C:kb->kt->Prop,
   (∀W m k,(∀b o,h.get? b=jr o->W.get? b=jr o)->CD W k p->C k { s with heap:=W,toks:=m })->ku (k0 prog w) A (Er (.ref f) [x]) C (λ_ _=>False) { s with heap:=h,toks:=g })
  (k:∀(p:Array Nat) (h':vu) (g c:Nat),Pm vs.9 p->Up (Y3 kz) p vs.9->(∀b o,b≠a->s.1.get? b=jr o->h'.get? b=jr o)->h'.get? a=jr (th "list" (p.toList.map λi=>vs.getD i j2).toArray c)->P (.done (.ret .none)) { s with heap:=h',toks:=g }) :
  ku (k0 prog w) A (ksk_tree a (.ref f) kd) P E s:=by
 have ha:a<s.1.1.size:=QY ho;have s1:=Q5 s.1 a (Q3 λ_=>(#[]:Array kb));obtain⟨G,ho1⟩:∃G,(s.1.update a (Q3 λ_=>(#[]:Array kb))).get? a=jr (th "list" #[] G):=#[_,QAH ho λ_=>#[]]
 generalize hH:((s.1.update a (Q3 λ_=>(#[]:Array kb))).push (th "tuple" vs.toArray 0))=hT;have S:hT.1.size=s.1.1.size+1:=by rw[<- hH,size_push',QCS]
 have kS0:(hT.push (th "list" #[] 0)).get? hT.1.size=jr (th "list" #[] 0):=QS _ rfl;have a0:(hT.push (th "list" #[] 0)).get? a=jr (th "list" #[] G):=QH _ (by rw[<- hH];exact QH _ ho1);have kp0:∀b o,b≠a->s.1.get? b=jr o->(hT.push (th "list" #[] 0)).get? b=jr o:=λb o hb e=>QH _ (by rw[<- hH];exact QH _ ((s1.2 b hb).trans e));have naK:a≠hT.1.size:=by rw[S];exact Qm (WC ha)
 unfold ksk_tree;refine QF (QCJ ho rfl (QF (WZ ho rfl ?_ (by rw[QN];omega) (Qv _))));refine QF (QBg ho1 rfl (QF (QBZ ?_ (by show vs.9<=_;omega))));refine QF (QAw (qm ?_) (Qv _));rw[hH];generalize hK:hT.1.size=kS at *;have fin:∀(y:LW) (e:Nat) (h:vu) (g:Nat) (st:SortSt) (p:Array Nat),y.9=vs.9->h.get? kS=jr (th "list" (qG y) e)->h.get? a=jr (th "list" #[] G)->(∀b o,b≠a->s.1.get? b=jr o->h.get? b=jr o)->Pm vs.9 p->Up (Y3 kz) p vs.9 ->
   (arrOf st).map (·.2)=qG (p.toList.map λi=>vs.getD i j2)->ai st=kv->ku (k0 prog w) A (ksk_tail a kd G (.ref kS) st) P E { s with heap:=h,toks:=g }:=by
  intro y e h g st p Z hk l I pm H hout N;have t1:=Q5 h kS (Q3 λ_=>(#[]:Array kb));have R:=(t1.2 a naK).trans l;have t2:=Q5 (h.update kS (Q3 λ_=>(#[]:Array kb))) a (Q3 λ_=>qG (p.toList.map λi=>vs.getD i j2));have hps:(p.toList.map λi=>vs.getD i j2).9=vs.length:=by rw[QC,(qH.mp pm).length_eq];simp
  unfold ksk_tail;dsimp only;rw[hout];refine QF (WZ hk rfl ?_ (by rw[QN,Q6];omega) (Qv _));refine QF (QCa (QF (QBg R rfl (QF (WZ R rfl ?_ (Qv _) (by simp only[Qu,if_false];rw[QN,Q6];omega))))));rw[N];simp only[bne_self_eq_false,Qu,if_false];refine QL (k p _ g _ pm H (λb o hb e=>?_) (QAH R λ_=>qG (p.toList.map λi=>vs.getD i j2)));have O:b≠kS:=λz=>by have:=QY e;rw[z,S]at this;exact im this (Nat.not_lt.mpr (wI _))
  exact(t2.2 b hb).trans ((t1.2 b O).trans (I b o hb e))
 have L:∀(y:LW) (e:Nat) (h:vu) (g:Nat),x0 (CD h) y kz->h.get? kS=jr (th "list" (qG y) e)->h.get? a=jr (th "list" #[] G)->(∀b o,b≠a->s.1.get? b=jr o->h.get? b=jr o) ->
   ku (k0 prog w) A (ksk_end a kd vs.toArray G (.ref kS) (qG y)) P E { s with heap:=h,toks:=g }:=by
  intro y e h g Y hk l I;have Z:y.9=vs.length:=(qI Y).trans hl;unfold ksk_end;dsimp only;simp only[Qu,if_false];by_cases h2:vs.9<2;have F:vs.toArray.size<2:=by rw[QN];exact h2
  rw[a9 F,a9 F];refine QF (QL ?_);rw[QCc];refine QF (QL ?_);refine fin y e h g _ (qG (Qo vs.9)) Z hk l I (QBK _) (λi j hi hj=>?_) ?_ rfl;have e:i=j:=()
  subst e;unfold cJ Y3;exact dF ();show((qG y).zip vs.toArray).map (·.2)=_;rw[pP];apply WH.mp;simp[WJ,Z];have F:¬ vs.toArray.size<2:=by rw[QN];exact h2
  rw[a8 F,a8 F];refine QF (z9 (s:={ s with heap:=h,toks:=g }) Y () ?_);have tree:(kas_sort vs.9).kasWp (kas_ask prog w A (tuples' kf) y) (λp K=>K={ s with heap:=h,toks:=g }/\Pm vs.9 p/\Up (Y3 kz) p vs.9) { s with heap:=h,toks:=g } :=
   dI.wp (lt:=Y3 kz) (λi j hi hj _ C hC=>Pl (s:={ s with heap:=h,toks:=g }) (NH Y i ()) (NH Y j ()) hC) (λp Y=>#[rfl,Y]) (Xd (Je kz) ())
  refine QF (qw (kat_run (Q:=λB K=>∃p:Array Nat,arrOf B=p.map (kas_item ((qG y).zip vs.toArray))/\ai B=kv/\K={ s with heap:=h,toks:=g }/\Pm vs.9 p/\Up (Y3 kz) p vs.9) Z () h64 (λp B K _ a2 a3 a4=>#[p,a2,a3,a4]) tree) ?_ λ_ _ x=>x);rintro⟨⟨⟩,B⟩ K ⟨p,har,N,rfl,pm,H⟩;exact fin y e h g B p Z hk l I pm H (kat_snds Z har) N
 unfold ksk_rest;refine QF (QB6 ?_);rw[List.forIn_toArray];refine QF (ksk_fold (λj K=>∃(y:LW) (e:Nat) (h:vu) (g:Nat),K={ s with heap:=h,toks:=g }/\x0 (CD h) y (kz.take j)/\h.get? kS=jr (th "list" (qG y) e)/\h.get? a=jr (th "list" #[] G)/\(∀b o,b≠a->s.1.get? b=jr o->h.get? b=jr o)/\j<=vs.9) vs 0 _ #[[],0,_,s.toks,rfl,.nil,kS0,a0,kp0,Qv _] (λj x K hx hI=>?_) λK hI=>?_);let#[y,e,h,g,rfl,Y,hk,l,I,jl]:=hI;rw[Wr]at Y jl ⊢;have jv:j<vs.length:=(Qi.mp hx).1;have hkl:y.9=j:=by rw[qI Y,qK];omega
 have hzj:kz[j]?=jr (kz[j]'()):=Qh _;refine QF (QAB (qw (hf h g I j x _ hx hzj (λJ K=>∃W m,K={ s with heap:=W,toks:=m }/\(∀b o,h.get? b=jr o->W.get? b=jr o)/\CD W J (kz[j]'())) λW m J X ka=>#[W,m,rfl,X,ka]) (λJ K hc=>?_) λ_ _ z=>z.elim));let#[W,m,rfl,X,ka]:=hc;have ea:(qG y).push J=qG (y++[J]):=by simp
 have s5:=Q5 W kS (Q3 (·.push J));have M:=X _ _ hk;dsimp only;refine QF (WZ M rfl ?_ (by rw[QN,Q6];omega) (QV (wy (Array.size_push ..)) (by rw[QN,Q6];omega)));refine QL #[rfl,y++[J],_,_,m,rfl,?_,by rw[<- ea];exact QAH M (·.push J),(s5.2 a naK).trans (X _ _ l),λb o hb q=>?_,jv];have H:∀{v:kb}{x:Int×Int},CD W v x->CD (W.update kS (Q3 (·.push J))) v x:=λt=>t.keep M (by show Value.type "list"≠Value.type "tuple";decide) λb o hb q=>(s5.2 b hb).trans q;rw[List.take_succ,hzj];exact dL (L2.Paired.mapP Y λ_ _ #[a1,o1,n1,t1,r1,G,g1,c1,d1]=>H #[a1,o1,n1,t1,r1,G,X _ _ g1,c1,d1]) (.cons (H ka) .nil);have O:b≠kS:=λz=>by have:=QY q;rw[z,S]at this;exact im this (Nat.not_lt.mpr (wI _))
 exact(s5.2 b O).trans (X _ _ (I b o hb q));let#[y,e,h,g,rfl,Y,hk,l,I,_]:=hI;rw[Wr,<- hl,List.take_length]at Y;exact QF (QCJ hk rfl (L y e h g Y hk l I))
theorem kc{Q:mC}(R:A.handled=kv)(M:ro s.1 r a b c t u v)(y:QBh a b c=kf)
  (P:WW a b c=n) (h64:n<64) (hl:kz.9=n)
  (S:∀(X:vu) (z:Nat),(∀b o,s.1.get? b=jr o->X.get? b=jr o)->∀(i:Nat) (Y:Tok) (p:Int×Int),kz[i]?=jr p->∀C:kb->kt->Prop,
   (∀G Z k,(∀b o,X.get? b=jr o->G.get? b=jr o)->CD G k p->C k { s with heap:=G,toks:=Z })->ku (k0 prog w) A.in1.in1 (Er (.ref f) [Value.int (a+i * c) Y]) C (λ_ _=>False) { s with heap:=X,toks:=z })
  (k:∀(p:Array Nat) (vs:LW) (D:ko) (h':vu) (z e:Nat),Pm n p->Up (Y3 kz) p n->(∀b o,s.1.get? b=jr o->h'.get? b=jr o)->s.1.1.size<=D->vs.9=n->(∀(i:Nat) x,vs[i]?=jr x->∃t,x=Value.int (a+i * c) t) ->
   h'.get? D=jr (th "list" (p.toList.map λi=>vs.getD i j2).toArray e)->Q (.ref D) { s with heap:=h',toks:=z }) :
  ku (k0 prog w) A (Er (.builtin "sorted") [.ref r] [(Qc "key",.ref f)]) Q E s:=by
 refine call_function_entry_kw kind_sorted plain_sorted entry_sorted (ksk_s1 _ _) ?_;unfold Builtin.«sorted»;refine QF (m:=checkCount "sorted" 1 1 _) (QL ?_);refine QF (FO R M y P () λg W h j F it=>?_);have L:h.toList.9=n:=by rw[Qz];exact it.1
 refine QF (QAw ?_ (by rw[Q6];omega));have l:(g.push (th "list" h.toList.toArray 0)).get? g.1.size=jr (th "list" h.toList.toArray 0):=QS _ rfl;have kpL:∀b o,s.1.get? b=jr o->(g.push (th "list" h.toList.toArray 0)).get? b=jr o:=λb o q=>QH _ (j b o q);refine QF (qm (wpAny_call_entry_kw ab #[_,l,rfl] ah ?body (ksk_l1 _ _)))
 case body =>
  show ku (k0 prog w) A.in1.in1 (Builtin.«list.sort» #[[.ref g.1.size],[(Qc "key",.ref f)]]) _ _ _;rw[ksk_t1];have nD:∀b o,s.1.get? b=jr o->b≠g.1.size:=λb o q=>Qm (QY (j b o q));refine Al (s:={ s with heap:=g.push (th "list" h.toList.toArray 0),toks:=W }) (kz:=kz) l () () (λX z K i x p B N C H=>?_) λp h' z c J I K O=>#[_,rfl,QL #[_,rfl,?_]]
  let#[Y,rfl]:=it.2 i x (by rw[<- B,wx]);exact S X z (λb o q=>K b o (nD b o q) (kpL b o q)) i Y p N C H;rw[L]at J I;exact k p h.toList _ h' z c J I (λb o q=>K b o (nD b o q) (kpL b o q)) (WR F) L (λi x B=>it.2 i x (by rw[<- B,wx])) O
end
end
section
variable{U Z p2 W V Y X K:Pos}
noncomputable abbrev A8(U Z p2 W V Y X:Pos):Expr:=.Tuple [.Subscript (.Subscript (.Name "events" U) (.Name "number" Z) p2) (.Constant (.int 1) 0 W) V,.Name "number" Y] 0 X
noncomputable abbrev Ve(K:Pos):Arguments:={ posonlyargs:=[],args:=[{ arg:="number",annotation:=kv,pos:=K }],vararg:=kv,kwonlyargs:=[],kw_defaults:=[],kwarg:=kv,defaults:=[] }
noncomputable abbrev bX:Scope:={ kind:=.function,names:=[(Qc "number",.local),(Qc "events",.free)],isGenerator:=kd,isCoroutine:=kd,more:=[] }
variable{prog:k5}{w:xb}{A:x2}{E:mC}{s:kt}
section
variable{h h':vu}{y n:ko}{i:Nat}{g:Int}{l:Tok}
def zP(h:vu)(y:ko)(i:Nat)(g:Int):Prop:=∃(x z:Array kb) (t:ko) (u:Tok),(h.IsList y x∨ac h y x)/\x[i]?=jr (.ref t)/\i<2 ^ 62/\x.size<2 ^ 62/\ac h t z/\z[1]?=jr (.int g u)/\z.size<2 ^ 62
theorem zP.keepB{P:ko}{m:Array kb}(p:h.get? P=jr (tabObj m))(k:∀b o,b≠P->h.get? b=jr o->h'.get? b=jr o)(x:zP h y i g):zP h' y i g:=by
 let#[f,j,t,u,a,b,c,q,#[o,d],e]:=x;have v:∀{b:ko}{o:Obj}{T:String},h.get? b=jr o->o.cls=.type T->b≠P:=λe c z=>by rw[z,p]at e;cases e;cases c
 refine#[f,j,t,u,?_,b,c,q,#[o,k _ _ (v d.1 d.2.1) d.1,d.2],e];rcases a with⟨o,a⟩| ⟨o,a⟩
 exact .inl #[o,k _ _ (v a.1 a.2.1) a.1,a.2];exact .inr #[o,k _ _ (v a.1 a.2.1) a.1,a.2]
theorem zP.keep(z:∀b o,h.get? b=jr o->h'.get? b=jr o)(x:zP h y i g):zP h' y i g:=by
 let#[v,k,t,u,a,b,c,f,#[o,d],e]:=x;refine#[v,k,t,u,?_,b,c,f,#[o,z _ _ d.1,d.2],e];rcases a with⟨o,a⟩| ⟨o,a⟩
 exact .inl #[o,z _ _ a.1,a.2];exact .inr #[o,z _ _ a.1,a.2]
theorem S8{env:Env}{L:ko}{m:Str->Option kb}{Q:mC}(hk:env.scope=bX)(G:env.cells.lookup (Qc "events")=jr n)(hc:s.1.IsCell n (jr (.ref y)))
  (S:env.locals=L) (P:s.1.Ns L m) (R:m "number"=jr (.int i l)) (F:zP s.1 y i g)
  (q:∀J u,Q (.ref s.1.1.size) { s with heap:=s.1.push { cls:=.type "tuple",data:=.seq (qG [Value.int g u,Value.int i l]) },toks:=J }) :
  ku (k0 prog w) A (g7 (A8 U Z p2 W V Y X) env) Q E s:=by
 have N:env.kindOf "number"=jr .local:=by show env.scope.names.lookup _=_;rw[hk];rfl
 have O:env.kindOf "events"=jr .free:=by show env.scope.names.lookup _=_;rw[hk];rfl
 have k:env.scope.kind=.function:=by rw[hk]
 let#[C,B,t,u,a,b,c,c2,d,e,c3]:=F;subst S;have v:∀{p:Pos}{Q:mC}(z:kt),z.1=s.1->Q (.int i l) z->ku (k0 prog w) A (g7 (.Name "number" p) env) Q E z:=λz I q=>QBQ (QBR k N (by rw[I];exact P) R q) (by decide);refine QBd ?_;show ku _ _ (lv ((kd,g7 (.Subscript (.Subscript (.Name "events" U) (.Name "number" Z) p2) (.Constant (.int 1) 0 W) V) env)::fb X (xk [.Name "number" Y] env))) _ _ s;refine wL (QB2 (QB2 (QBQ (QBc k O G hc (v _ rfl ?_) (by decide)) (by decide))));have o:(0:Int)<=(i:Int):=QBz i;have f:(i:Int)<2 ^ 63:=by omega (config:={})
 have M:∀{Q:mC},Q (.ref t) s->ku (k0 prog w) A (ax (.Name "events" U) (.Name "number" Z) (.ref y) (.int i l)) Q E s:=λ{Q} q=>by rcases a with a|a;exact item_listR a o f (by simpa using b) q;have I:i<C.size:=(QAR.mp b).1;exact qh (x:=.ref t) a.typeIs QAS.lookup (QBt (j:=i) (Q:=λr z=>r=.ref t/\Q r z) a (by omega (config:={})) f (by rw[QAt o (by omega (config:={}))];simp) b #[rfl,q])
 refine M (QBq ?_);have H:1<B.size:=(QAR.mp e).1;refine qh (x:=.int g u) (s:={ s with toks:=s.toks+1 }) (show ac s.1 t B from d).typeIs QAS.lookup (QBt (j:=1) (show ac s.1 t B from d) (by decide) (by decide) (by rw[QAt (by decide) (by omega (config:={}))];rfl) e #[rfl,?_]);show ku _ _ (lv ((kd,g7 (.Name "number" Y) env)::fb X (xk [] env))) _ _ _;exact wL (v _ rfl (WA #[by rw[Q6];show 2<=_;decide,q _ _]))
theorem T8{f L:ko}{z:Str}{N I:kb}{C:mC}(j:A.depth<bb)(P:s.1.get? f=jr (kla_obj "<lambda>" z (Ve K) (A8 U Z p2 W V Y X) bX [(Qc "events",n)] N L I))
  (F:s.1.CodeRec (.ref L) z) (r:s.1.NoLimit) (hc:s.1.IsCell n (jr (.ref y))) (B:zP s.1 y i g)
  (k:∀G p v,(∀b o,s.1.get? b=jr o->G.get? b=jr o)->CD G v (g,(i:Int))->C v { s with heap:=G,toks:=p }) :
  ku (k0 prog w) A (Er (.ref f) [.int i l]) C E s:=by
 refine wpAny_call (kla_callFunE j P rfl rfl rfl rfl F ?_);show ku _ _ (tv [(Qc "number",Value.int i l)]) _ _ _;refine QL (QBS (show ∀x∈bX.names,x.2≠NameKind.cell by decide) (by intro x O;rcases QJ.mp O with rfl;rfl) (λJ q m=>#[r.fresh _ m,kla_codeExpr ?_]) rfl);have a:∀b o,s.1.get? b=jr o->J.get? b=jr o:=λb o e=>m.extBut b o (Qm (QY e)) (QH _ e);refine S8 (s:={ s with heap:=J,toks:=s.toks+1 }) rfl rfl (hc.keeps a) rfl q rfl (B.keep a) λM u=>?_;exact k _ M _ (λb o e=>QH _ (a b o e)) #[_,_,_,_,_,rfl,QS _ rfl,rfl,rfl]
end
end
theorem fY{pos:Pos}{a b:Int}{c y:kb}(l:LW)(h:mx l)(g:f5 pos (l++[h7 a,h7 b,c])=jr y):f5 pos l=jr y∨y=c:=by
 fun_induction mx l with
 |case1=>right;have g:f5 pos [h7 a,h7 b,c]=jr y:=g;unfold h7 f5 at g;split at g;exact(Ql g).symm;cases g|case2 i t f u x v w=>simp only[QAz,f5]at g ⊢;split at g;rename_i z;rw[a9 z];exact .inl g;rename_i z;rw[a8 z];exact w h g|case3 l e k=>exact h.elim
section
variable{X:Cx}{h:TB}{σ:St}{H:Hp}{s:kt}
theorem _root_.L2.Inv.tabbed{P x:ko}{q:Str}{y:Array kb}{K W:Int}{h':vu}{t':Nat}(I:Inv X h σ H s)(m:H P=jr (.tbl q))(N:s.1.get? P=jr (tabObj y))(A:mx y.toList)(p:∀pos l,f5 pos y.toList=jr l->∃c,l=.ref c/\H c=jr (.own P)/\s.1.CodeRec l q)
  (a:QAF P s.1 h') (i:s.1.1.size<=x) (B:h'.CodeRec (.ref x) q) (f:h'.get? P=jr (tabObj (y++(qG [h7 K,h7 W,.ref x])))):H x=kv/\Inv X h σ (CA H x (.own P)) { s with heap:=h',toks:=t' }:=by
 have C:H x=none:=I.hok.fresh i;have w:∀b o,H b=jr o->b≠x:=λb o e z=>by rw[z,C]at e;cases e
 have Z:∀b,H b=kv->b≠P:=λb e z=>by rw[z,m]at e;cases e
 refine#[C,I.un #[λb o e n _ _=>a b o (Z b n) e,λb o e n _ _=>#[o.slots,a b o (Z b n) e],λb o e n _=>?_,λb o e _=>?_,λb F e=>?_,λb o u e=>?_,λb q e=>?_] λb u e=>?_];rw[uA (Qm (Qp (QY e) i))];exact n;by_cases hb:b=P
 ·exact#[_,hb▸f]
 exact#[o,a b o hb e];rw[uA (w b _ e)];exact e;rw[uA (w b _ e)];exact e;rw[uA (w b _ e)];exact e;by_cases hb:b=x
 ·subst hb
  rw[YA]at e;cases e;let#[c,o,Y,t,M,L,_]:=B;cases M;exact#[o,L]
 rw[uA hb]at e;by_cases j:b=P;subst j;rw[m]at e;cases e;refine#[_,f,?_,λpos l g=>?_];simpa using TriplesOk_snoc K W _ y.toList A;rcases fY y.toList A (by simpa using g) with g|rfl
 ·let#[c,rfl,o,O,ob,Y,G,E,J,r]:=p pos l g
  cases E;refine#[c,rfl,by rw[uA (w c _ o)];exact o,c,ob,Y,G,rfl,a _ _ (λz=>?_) J,r];rw[z,m]at o;cases o
 exact#[x,rfl,YA,B];refine(I.hok b u e).stay (λd v k g=>a d v (λz=>?_) g) (λd g=>by rw[uA (w d _ g)];exact g) λd F g=>by rw[uA (w d _ g)];exact g
 rcases k with k|k;exact j (k.symm.trans z);rw[z,m]at k;cases k
end
def xz(K:QA)(H:Hp)(xs:LV)(kz:List (Int×Int)):Prop:=kz.9=xs.9/\∀(j:Nat) p,kz[j]?=jr p->p.2=j/\∃t h,xs[j]?=jr (.ref t)/\ED K H t h/\h[1]?=jr (.int p.1)
def jz(K:QA)(P:ko)(i:Nat):TE:=λz H Q=>∃ev h y,z[i]?=jr (jr (.ref ev))/\(nC K H ev h∨ED K H ev h)/\xz K H h y/\h.9<64 /\
 ∀(p:Array Nat) x l,Pm h.9 p->Up (Y3 y) p h.9->(x=H∨∃c,H c=kv/\x=CA H c (.own P))->x l=kv->Q (.ref l) (CA x l (.lst (p.toList.map λ(i:Nat)=>V.int i)))
section
variable{X:Cx}{J G p2 F E B W U Z S M Y g d a O L:Pos}
section
variable{x:TB}{σ:St}{H:Hp}{s:kt}{y:ko}{kz:List (Int×Int)}{i:Nat}{q:Str}
theorem bt{xs:LV}(I:Inv X x σ H s)(k:nC X.K H y xs∨ED X.K H y xs)(C:xz X.K H xs kz):∀(j:Nat) p,kz[j]?=jr p->zP s.1 y j p.1:=λj p N=>by let#[_,t,ys,f,Q,P]:=C.2 j p N;have hz:=Q6;let#[h,n,w,R]:=I.tuple Q;let#[u2,o,A]:=n.get P;let#[m,rfl]:=A;have l2:=n.9;have jl:j<xs.length:=(Qi.mp f).1;rcases k with k|k;let#[v,r,b,z]:=I.list k;let#[u,e,q]:=r.get f;cases q;have l:=r.9;exact#[v.toArray,h.toArray,t,m,.inl b.isList,by simpa using e,(),by rw[QN];omega,w,by simpa using o,by rw[QN];omega];let#[v,r,b,z]:=I.tuple k;let#[u,e,q]:=r.get f;cases q;have l:=r.9;exact#[v.toArray,h.toArray,t,m,.inr b,by simpa using e,(),by rw[QN];omega,w,by simpa using o,by rw[QN];omega]
theorem gf(I:Inv X x σ H s)(w:X.N[i]?=jr (Qc "events"))(h:X.env.scope.names.lookup (Qc "events")=jr .cell)(hv:σ[i]?=jr (jr (.ref y))):∃v,X.env.cells.lookup (Qc "events")=jr v/\s.1.IsCell v (jr (.ref y)):=by
 let#[m,_,hl]:=I.loc;let#[u,r,l]:=hl i "events" _ w hv (.inr (.inl h));cases r;rcases l with⟨k,_⟩| ⟨_,c,e,z⟩
 have k:X.env.scope.names.lookup (Qc "events")=jr .local:=k;rw[h]at k;cases k;exact#[c,e,z]
theorem RK{n:Nat}{vs:LW}(hv:∀i,i<n->∃t,vs.getD i j2=.int (i:Int) t):∀l:LN,(∀i∈l,i<n)->oA (l.map λ(i:Nat)=>V.int i) (l.map λi=>vs.getD i j2)
 |[],_=>.nil|i::l,h=>.cons (hv i (h i QD)) (RK hv l λj z=>h j (QE _ z))
theorem FU{R f ce c':ko}{b ctv:kb}{t u v:Tok}{Q:VK}{n:Nat}(I:Inv X x σ H s)(hh:X.A.handled=kv)(z:X.A.in1.in1.depth<bb)
  (ho:s.1.get? f=jr (kla_obj "<lambda>" q (Ve U) (A8 J G p2 F E B W) bX [(Qc "events",ce)] b c' ctv)) (m:s.1.CodeRec (.ref c') q) (hc:s.1.IsCell ce (jr (.ref y))) (hev:∀(j:Nat) p,kz[j]?=jr p->p.2=j/\zP s.1 y j p.1)
  (hl:kz.9=n) (h64:n<64) (hr:ro s.1 R 0 n 1 t u v) (k:∀(p:Array Nat) l,Pm n p->Up (Y3 kz) p n->H l=kv->Q (.ref l) (CA H l (.lst (p.toList.map λ(i:Nat)=>V.int i)))) :
  ku (k0 X.prog X.w) X.A (Er (.builtin "sorted") [.ref R] [(Qc "key",.ref f)]) (EP X x σ Q) X.xe s:=by
 refine kc (n:=n) hh hr (small_one (by decide) (by decide) () ()) (by rw[pd];split<;>omega) h64 hl (λh3 P h j tx p hj C hC=>?_) λp K D h' P e b up h r vl hvs ho'=>?_;let#[e2,ev']:=hev j p hj;have e3:(0:Int)+(j:Int) * 1=(j:Int):=()
 rw[e3];refine T8 (s:={ s with heap:=h3,toks:=P }) z (h _ _ ho) (m.keeps h) (I.nolimit.keeps h) (hc.keeps h) (ev'.keep h) λh4 N v kp4 ka=>hC h4 N v kp4 ?_;rw[<- e2]at ka;exact ka;have pl:∀i∈p.toList,i<n:=λi hi=>by simpa using(qH.mp b).mem_iff.mp hi
 have ps:p.toList.9=n:=by rw[(qH.mp b).length_eq];simp
 refine#[.ref D,CA H D (.lst (p.toList.map λ(i:Nat)=>V.int i)),I.laid (t':=P) h r #[by rw[QC,ps,Q6];omega,_,e,RK (λi hi=>?_) p.toList pl,ho'],rfl,k p D b up (I.hok.fresh r)];have o:i<K.length:=()
 let#[t,e]:=hvs i (K[i]) (Qh o);refine#[t,?_];have:K.getD i j2=K[i]:=by simp[o]
 rw[this,e,show(0:Int)+(i:Int) * 1=(i:Int) by omega]
theorem Nc{c P:ko}(hN:X.N[i]?=jr (Qc "events"))(hs:X.env.scope.names.lookup (Qc "events")=jr .cell)(n:X.env.code=.ref c)(hC:CodeHd X.base c P)(hT:zQ X.mg X.base P q)(hq:q=X.env.qual++"<lambda>")(hb:X.base.BuiltinsAt X.mg P)(hgP:k4≠P)
  (g1:Gl X "sorted") (m1:X.mg "sorted"=kv) (g2:Gl X "range") (m2:X.mg "range"=kv) (g3:Gl X "len") (m3:X.mg "len"=kv) (hh:X.A.handled=kv) (f:X.A.in1.in1.depth<bb) :
  PE X (.Call (.Name "sorted" S) [.Call (.Name "range" M) [.Call (.Name "len" Y) [.Name "events" g] [] d] [] a] [#[jr "key",.Lambda (Ve U) (A8 J G p2 F E B W) bX Z,O]] L) (jz X.K P i):=by
 rintro x s σ H Q I ⟨y,xs,kz,hv,hsq,m,h64,k⟩;refine qy (kF I g1 m1 boot_sorted ?_);refine callWith_kw ?_;show ku _ _ (lv ((kd,g7 (.Call (.Name "range" M) [.Call (.Name "len" Y) [.Name "events" g] [] d] [] a) X.env)::fb L (xk [] X.env))) _ _ s;have paL:PA X [.Call (.Name "len" Y) [.Name "events" g] [] d] _:=jR (XT YJ g3 m3 boot_len (jR (l7 hN (.inr (.inl hs))) YW)) YW;refine wL (Call_ (kF I g2 m2 boot_range (callWith_type1 (GB (paL a x s σ H (λvs H1=>vs=[.int xs.9]/\H1=H) I ?_) λus h #[vs,H1,I1,r1,q1]=>?_) rfl rfl)));exact#[_,hv,y,xs,rfl,hsq,rfl,rfl];let#[rfl,rfl]:=q1;cases r1 with
 |cons r rr =>
 cases rr;let#[t,rfl]:=r;refine call_range_1 (WA (kws_cons (kla_eval rfl ?_)));have w:Inv X x σ H1 { h with heap:=h.1.push { cls:=.type "range",data:=.fields (qG [.int 0 h.toks,.int xs.9 t,.int 1 (h.toks+1)]) },toks:=h.toks+1+1 }:=I1.kept λb o e=>QH _ e;have hr2:ro (h.1.push { cls:=.type "range",data:=.fields (qG [.int 0 h.toks,.int xs.9 t,.int 1 (h.toks+1)]) }) h.1.1.size 0 xs.9 1 h.toks t (h.toks+1):=QS _ rfl;have hP:=w.tb P q hT;let#[ps,hp,ht,hps]:=w.hok P _ hP;let#[ce,hce,hcl]:=gf w hN hs hv;have R:li bX X.env=tv [(Qc "events",ce)]:=by unfold li cellOf;simp[hce]
 let#[bm,ob,b1,b2,b3,b4,b5,b6]:=hb;have hb2:=And.intro b1 (And.intro b2 (And.intro b3 (And.intro b4 (And.intro (w.bk _ _ b5) b6))));have evs:=bt w hsq m;subst hq;cases e:f5 Z ps.toList with|none=>refine kla_makeFunction (mg:=X.mg) R I.ok.glob (w.mod.glob.keeps w.bk) n (hC.keeps w.bk) hp ht e hgP #[bm,ob,hb2] λc' ctv h' tk hx hge hlt v htb=>evalAll_nil ?_;let#[hn,I3]:=w.tabbed (t':=tk) hP hp ht hps hx hge v htb;have C:∀{oN:Obj}(b:ko) (o:Obj),h'.get? b=jr o->(h'.push oN).get? b=jr o:=λb o e=>QH _ e;let#[oc,c1,c2]:=hcl;show ku _ _ (Er (.builtin "sorted") [.ref h.1.1.size] [(Qc "key",.ref h'.1.size)]) _ _ _;refine FU (I3.kept C) hh f (QS _ rfl) (v.push _) #[oc,C _ _ (hx _ _ (λz=>?_) c1),c2] (λj p hj=>#[(m.2 j p hj).1,((evs j p hj).keepB hp hx).keep C]) m.1 h64 (C _ _ (hx _ _ (λz=>?_) hr2)) λp l pm u hl=>k p _ l pm u (.inr #[c',hn,rfl]) hl;rw[z,hp]at c1;cases c1;cases c2;have z2:=hp.symm.trans (z▸hr2);cases z2|some cv=>let#[c',rfl,_,v]:=hps _ _ e;refine kla_makeFunctionHit (mg:=X.mg) R I.ok.glob (w.mod.glob.keeps w.bk) n (hC.keeps w.bk) hp ht e #[bm,ob,hb2] λctv h' tk kp hge=>evalAll_nil ?_;have C:∀{oN:Obj}(b:ko) (o:Obj),(h.1.push { cls:=.type "range",data:=.fields (qG [.int 0 h.toks,.int xs.9 t,.int 1 (h.toks+1)]) }).get? b=jr o->(h'.push oN).get? b=jr o:=λb o e=>QH _ (kp b o e);show ku _ _ (Er (.builtin "sorted") [.ref h.1.1.size] [(Qc "key",.ref h'.1.size)]) _ _ _;exact FU (w.kept C) hh f (QS _ rfl) (v.keeps C) (hcl.keeps C) (λj p hj=>#[(m.2 j p hj).1,(evs j p hj).keep C]) m.1 h64 (C _ _ hr2) λp l pm u hl=>k p _ l pm u (.inl rfl) hl
end
end
noncomputable def sK:D->Option Int
 | .tuple h=>(match h[1]? with|some (j1 t)=>jr t|_=>kv)
 |_=>kv
def dG(evs:List D):List (Int×Int):=(Qo evs.9).map λ(i:Nat)=>(((evs[i]?).bind sK).getD 0,(i:Int))
theorem z4{evs:List D}{j:Nat}{p:Int×Int}(h:(dG evs)[j]?=jr p):j<evs.9/\p=(((evs[j]?).bind sK).getD 0,(j:Int)):=by unfold dG at h;rw[Qa]at h;by_cases c:j<evs.9;rw[ql c]at h;exact#[c,(Ql h).symm];rw[Qk (by simpa using c)]at h;cases h
def Pu(evs:List D)(ns:LN):Prop:=ns.Perm (Qo evs.9)/\ns.Pairwise λa b=>Y3 (dG evs) b a=kd
def Aq:PSp where
 run:=λy Q _=>∃h:List D,y=[.d (.list h)]/\h.9<64/\(∀e∈h,∃t,sK e=jr t)/\∀x,Pu h x->Q (.lst (x.map λ(i:Nat)=>.d (.int i))) []
theorem D6{K:QA}{H x:Hp}{a:ko}{xs:LV}(e:Same H x)(h:ED K H a xs):ED K x a xs:=by rcases h with(h|⟨o,h⟩)|h;exact .inl (.inl (e _ _ h));exact .inl (.inr #[o,e _ _ h]);exact .inr h
theorem G5{lt:Nat->Nat->Bool}{p:Array Nat}(h:Up lt p p.size):p.toList.Pairwise λa b=>lt b a=false:=by
 rw[QAi];intro i j x u y;have e:∀i (x:i<p.toList.9),gD p i=p.toList[i]:=λi x=>by
  have z:i<p.size:=by simpa using x
  unfold gD;simp[QB8,z]
 have:=h i j (WR y) (by simpa using u);unfold cJ at this;rw[e i x,e j u]at this;exact this
section
variable{P:k5}{w:xb}{K:QA}{mg:Str->Option kb}{base:vu}{Ψ:PEv}{D C p2 B W U n m g a0 a1 R O N L J I y:Pos}
noncomputable abbrev Yx:Scope:={ kind:=.function,names:=[(Qc "events",.cell),(Qc "sorted",.globalImplicit),(Qc "range",.globalImplicit),(Qc "len",.globalImplicit)],isGenerator:=kd,isCoroutine:=kd,more:=[] }
noncomputable abbrev bz(D C p2 B W U n m g a0 a1 R O N L J I y:Pos):List Stmt:=[.Return (jr (.Call (.Name "sorted" a0) [.Call (.Name "range" a1) [.Call (.Name "len" R) [.Name "events" O] [] N] [] L] [#[jr "key",.Lambda (Ve m) (A8 D C p2 B W U n) bX g,J]] I)) y]
theorem KZ{H F:Hp}{vs:LV}{Q:VK}{E:XK}{T:ko}(h:lift K Aq vs H Q E):vs.9=1/\jz K T 0 (dD [Qc "events"] vs) H λv H'=>Q v H':=by
 let#[F,ts,M,Y,h1,h2,h3,h4,x,rfl,h64,he,q]:=h;cases h2 with
 |chg hm=>cases hm|@rd _ v vs' _ _ Z _ hr _ r =>
 cases r;refine#[rfl,?_];cases hr with
 |d rp hz =>
 cases rp with
 |@lst a xs _ hq rs =>
 have A:xs.9=x.length:=rs.9;have kl:(dG x).9=xs.length:=by unfold dG;rw[QC,Qw,A]
 refine#[a,xs,dG x,rfl,.inl (h1.seq hq),#[kl,λj p hj=>?_],by rw[A];exact h64,λp H1 l pm up hH hl=>?_];let#[jl,rfl]:=z4 hj;have G:x[j]?=jr (x[j]'jl):=Qh jl;let#[t,k]:=he _ (WL jl);let#[v,v1,v2]:=rs.get G;refine#[rfl,?_];rw[G];show ∃t ys,_/\_/\ys[1]?=jr (V.int ((sK x[j]).getD 0));rw[k];generalize x[j]=e at *;cases v2 with
 |@tup b ys ds sq rs2 =>
  have k:(match ds[1]? with|some (j1 t)=>jr t|_=>kv)=jr t:=k;cases hd:ds[1]? with
  |none=>rw[hd]at k;cases k|some d =>
   rw[hd]at k;let#[u,u1,u2]:=rs2.get hd;cases u2 with|int i=>cases k;exact#[b,ys,v1,D6 h1 sq,u1]|_=>cases k
 |_=>cases k
 have pn:p.size=x.length:=by have:=pm.size_eq;simpa[A]using this
 have f:H l=none:=by
  rcases hH with rfl|⟨c,hc,rfl⟩
  exact hl;by_cases z:l=c
  ·rw[z];exact hc
  rw[uA z]at hl;exact hl
 have hs:Same H H1:=by
  rcases hH with rfl|⟨c,hc,rfl⟩
  exact λ_ _ e=>e;exact λb o e=>by rw[uA (iA e hc)];exact e
 have s:Same H (CA H1 l (.lst (p.toList.map λ(i:Nat)=>V.int i))):=λb o e=>by rw[uA (iA e f)];exact hs b o e
 have fl:F l=none:=by
  cases z:F l with|none=>rfl|some o=>rw[h1 l o z]at f;cases f
 have X:∀S:LN,Trs K F (CA H1 l (.lst (p.toList.map λ(i:Nat)=>V.int i))) kf (S.map λ(i:Nat)=>V.int i) (S.map λ(i:Nat)=>.d (.int i)) λ_=>False:=λS=>by
  induction S with|nil=>exact .nil λ_ z=>z|cons i r ih=>exact .cons (.d (.int _) λ_ (z:False)=>z) ih (λ_ z=>z.elim) λb=>#[Qd,λz=>z.elim id id]
 refine q p.toList #[?_,?_] (.ref l) F (CA H1 l (.lst (p.toList.map λ(i:Nat)=>V.int i))) (λb=>b=l) (λ_=>False) #[λ_ _ e=>e,λb o e=>s b o (h1 b o e),λb u e _=>s b u e,λb e=>?_,λb e z=>im e z] (.lst YA fl (X _) (λz=>z) λb=>#[.inl,λz=>z.elim id Qd]) (.nil λ_ z=>z) (λ_ _ z=>z) λb z=>.inr (z.elim (λz=>z▸f) Qd);rw[A]at pm;exact qH.mp pm;rw[A,<- pn]at up;exact G5 up;cases z:H b with|none=>rfl|some o=>rw[s b o z]at e;cases e
theorem He{f c T:ko}{oc kV v l ct:kb}{M Y:Option ko}{b:Array (Option kb)}{z:p6}{k:Nat}(X:K.In base)(G:base.Ns k4 mg)(p:mg "going_order"=jr (.ref f))
  (lk:K.lookup f=jr #[oc,M,.func (fnOf "going_order" "going_order" z (bz D C p2 B W U n m g a0 a1 R O N L J I y) Yx .none kV v l Y (.ref c) ct),b])
  (j:codeIn K (.ref c) "going_order"=kf) (e:keepIn K (.ref f)=kf) (r:CodeHd base c T) (hb:base.BuiltinsAt mg T) (i:k4≠T) (m1:mg "sorted"=kv) (m2:mg "range"=kv) (m3:mg "len"=kv)
  (u:∀us:LW,us.9=1->ew (fnOf "going_order" "going_order" z (bz D C p2 B W U n m g a0 a1 R O N L J I y) Yx .none kV v l Y (.ref c) ct) #[us,[]]=tv ([Qc "events"].zip us)) (hR:Ψ.sp "going_order"=Aq):DG P w K mg base Ψ (k+1) "going_order":=by
 have S:FnScope [Qc "events"] [Qc "events"] Yx:=#[rfl,rfl,rfl,by decide,rfl,by intro x hx;rcases QJ.mp hx with rfl;exact .inr rfl,by decide]
 refine#[f,_,[Qc "events"],?_,p,e,.all u];rw[hR];refine xh lk j S (λZ H Q E h=>(KZ (T:=T) (F:=H) h).1) λA a s H Z Q E o h=>#[_,RY (v7 (Nc (q:=(Qc "going_order")++(Qc ".<locals>.<lambda>")) rfl rfl rfl r ?_ ?_ hb i rfl m1 rfl m2 rfl m3 o.hd ?_)),(KZ (F:=H) h).2]
 exact#[f,_,_,c,p,X _ _ lk,rfl,rfl,r,rfl];show Qc "going_order"++Qc ".<locals>.<lambda>"=(Qc "going_order"++Qc ".<locals>.")++Qc "<lambda>";decide;exact WV (QV (QA4 _ (3 * k)) (QA4 _ 5)) o.dp
end
end L2.L3
namespace L2.L3.K48
open PySem PySem.Spec PyProof.Rows L2 L2.L3
def UO(a b:Nat):Bool:=decide (a<=b)
def srt(l:LN):LN:=l.mergeSort UO
theorem Ys(a b c:Nat)(x:UO a b=kf)(y:UO b c=kf):UO a c=true:=dT (QV (ii x) (ii y))
theorem Zs(a b:Nat):(UO a b||UO b a)=true:=by rcases Nat.le_total a b with z|z;rw[show UO a b=kf from dT z];rfl;rw[show UO b a=kf from dT z,QCE]
theorem u6(l:LN):(srt l).Pairwise λa b=>a<=b:=(List.pairwise_mergeSort Ys Zs l).imp λz=>ii z
theorem c6{z l:LN}(h:z.Perm l)(u:z.Pairwise (·<=·)):z=srt l:=QAo (λa b _ _ x y=>Nat.le_antisymm x y) u (u6 l) (h.trans (QBi l UO).symm)
theorem eM(l:LN):(srt l).Perm l:=QBi l UO
noncomputable abbrev Stp:=Nat×Bool×LN×List Pt
structure Gs where
 past:LN
 taken:LN
 held:List Pt
 steps:List Stp
def N0(w:Wd)(g:Gs)(n:Nat):Bool:=zw w (SL w g.past) g.held (pA w.es n)
def zT(w:Wd)(g:Gs)(n:Nat):LN:=if(N0 w g n&&decide (T4 (pA w.es n)="tell"))=kf then g.taken++[n] else g.taken
def P4(w:Wd)(g:Gs)(n:Nat):LN:=srt (yG w.es (zT w g n) (SL w (g.past++[n])))
def Ge(w:Wd)(g:Gs)(n:Nat):List Pt:=UC w (g.past++[n]) (P4 w g n)
def EB(w:Wd)(g:Gs)(n:Nat):Gs:=#[g.past++[n],zT w g n,Ge w g n,g.steps++[(n,N0 w g n,P4 w g n,Ge w g n)]]
def FA(w:Wd)(ns:LN):Gs:=ns.foldl (EB w) #[[],[],[],[]]
noncomputable def SJ(s:Stp):D:=.tuple [nD s.1,.bool s.2.1,.list (s.2.2.1.map nD),.list (s.2.2.2.map pr)]
def gb(l:LN):T:=.lst ((l.map nD).map T.d)
def Pe(w:Wd)(past taken:LN)(wr held:List Pt)(x:Kn)(st:List Stp)(o8 h o10:Option Sl):xA:=[bD (wD w),bD (.list (w.es.map CC)),oW (gb past),oW (gb taken),oW (lI wr),bD (.list (held.map pr)),oW (R4 x),oW (.lst ((st.map SJ).map T.d)),o8,h,o10]
theorem J8(l:LN)(n:Nat):gb (l++[n])=.lst ((l.map nD).map T.d++[T.d (nD n)]):=by unfold gb;rw[QO,QO];rfl
theorem sj(l:List Stp)(n:Stp):((l++[n]).map SJ).map T.d=(l.map SJ).map T.d++[T.d (SJ n)]:=by rw[QO,QO];rfl
theorem F6{evs:List Evt}{h:LN}{ks:List Pt}{K:T->LT->Prop}{E:XE}(l:h.9<64)(a:∀n∈h,n<evs.9/\DD (pA evs n))(q:K (.lst (((srt (yG evs h ks)).map nD).map T.d)) []):DM LG [.d (.list (evs.map CC)),.lst ((h.map nD).map T.d),lI ks] K E:=#[evs,h,ks,rfl,l,a,λz y x=>by rw[c6 y x];exact q]
section
variable{Ψ:PEv}{E:XE}{K:TK}{y x:D}{u:List D}{k:T}{g f e c b w v:Option Sl}
theorem Oe(h:Ψ.sp "held_among"=GD)(q:DM GD [.d y,.lst (u.map T.d),.d x,k] (λr j=>∃n,j=[n]/\K r kf [bD y,g,oW (.lst (u.map T.d)),f,e,c,oW n,b,w,v,bD x]) E):oB Ψ (.call "held_among" %[.var 0,.var 2,.var 10,.var 6|1]) E [bD y,g,oW (.lst (u.map T.d)),f,e,c,oW k,b,w,v,bD x] K:=by show ∃j,HA (bA (Ψ.sp "held_among").md %[.var 0,.var 2,.var 10,.var 6|1]) [bD y,g,oW (.lst (u.map T.d)),f,e,c,oW k,b,w,v,bD x]=jr j/\(bA (Ψ.sp "held_among").md %[.var 0,.var 2,.var 10,.var 6|1]).Nodup/\(pe Ψ %[.var 0,.var 2,.var 10,.var 6|1] E).a (Ψ.sp "held_among").md (clear (bA (Ψ.sp "held_among").md %[.var 0,.var 2,.var 10,.var 6|1]) [bD y,g,oW (.lst (u.map T.d)),f,e,c,oW k,b,w,v,bD x]) λp l=>∃o,sA (Ψ.sp "held_among").md p j=jr o/\(Ψ.sp "held_among").run o (λr m=>∃i,yC (bA (Ψ.sp "held_among").md %[.var 0,.var 2,.var 10,.var 6|1]) m l=jr i/\K r kf i) E;rw[h];refine#[[k],rfl,Qj.mpr #[WM,Qq],?_];refine#[rfl,?_];refine#[[.d y,.lst (u.map T.d),.d x,k],?_,?_];show(match rE (T.lst (u.map T.d)) with|some t=>(jr [T.d x,k]).map (t::·)|none=>kv).map (T.d y::·)=_;rw[V6];rfl;refine GD.mono (λr j z=>?_) (λ_ z=>z) q;let#[n,rfl,z]:=z;exact#[_,rfl,z]
end
section
variable{Ψ:PEv}{Z:PEnds}{w:Wd}{y:Kn}{n:Nat}{o10:Option Sl}{g:Gs}{ns:LN}
theorem yt(m:Ψ.sp "wrong_among"=LF)(k:Ψ.sp "live_among"=LG)(l:Ψ.sp "held_among"=GD){past taken:LN}{wr held:List Pt}{st:List Stp}{b:Bool}(z:WOk w)(r:past.9<=60)(v:∀n∈past,n<w.es.9)(o:taken.9<=60)(u:∀n∈taken,n<w.es.9/\DD (pA w.es n))(hk:aO w y)(e:y.9<=10000)(p:st.9<=60)
  (q:∀h,aO w h->h.9<=y.9+10->Z.nx (Pe w past taken (SL w past) (UC w past (srt (yG w.es taken (SL w past)))) h (st++[(n,b,srt (yG w.es taken (SL w past)),UC w past (srt (yG w.es taken (SL w past))))]) (bD (nD n)) (bD (.bool b)) (bD (.list ((srt (yG w.es taken (SL w past))).map nD))))) :
  pF Ψ MK Z (Pe w past taken wr held y st (bD (nD n)) (bD (.bool b)) o10):=by
 have x:=eM (yG w.es taken (SL w past));have fl:=Qs (λn=>!decide (((oH (pA w.es n)).1,(oH (pA w.es n)).2)∈SL w past)) taken;have a:D4 w (srt (yG w.es taken (SL w past))):=#[by rw[x.length_eq];unfold yG;omega,λn j=>u n (QZ.mp (x.mem_iff.mp j)).1]
 delta Pe gb;delta MK;simp![↓yA (md:=[.fro,.shal]) m rfl rfl,↓yA (md:=[.fro,.shal,.bor]) k rfl rfl,↓lB,↓d0,↓Ou];refine#[_,_,rfl,z,(),v,?_];simp![↓yA (md:=[.fro,.shal,.bor]) k rfl rfl,↓lB,↓d0,↓Ou];refine F6 () u ?_;simp![↓jA];refine Oe l (#[_,_,_,_,rfl,#[z,(),v],a,#[hk,e],λh i f=>#[_,rfl,?_]]);simp![↓jA];rw[QC,QC];refine#[(),(),?_];have q:=q h i f;unfold Pe gb at q;rw[sj]at q;exact q
structure GsOk(w:Wd)(g:Gs):Prop where
 p:∀n∈g.past,n<w.es.9
 tl:g.taken.9<=g.past.9
 t:∀n∈g.taken,n<w.es.9/\DD (pA w.es n)
 h:Mf g.held
 s:g.steps.9=g.past.9
theorem YZ(z:WOk w)(l u:LN):Mf (UC w l u):=by intro p h;let#[x,v,h]:=wm.mp h;let#[m,k,rfl]:=QR.mp h;exact#[z.po x v,z.mo m (QZ.mp k).1]
theorem Tb{e:Evt}(h:T4 e="tell"):DD e:=by
 cases e with|see t p m x=>exact im (show Qc "see"=Qc "tell" from h) (by decide)|tell t a b m x q=>exact#[t,a,b,m,x,q,rfl]
theorem Ef(h:GsOk w g)(x:n<w.es.9):(zT w g n).9<=g.past.9+1/\∀k∈zT w g n,k<w.es.9/\DD (pA w.es k):=by have:=h.tl;unfold zT;split;rename_i c;rw[Qb,i0]at c;refine#[by rw[QI];exact QCQ this,λk hk=>?_];rcases Qg.mp hk with hk|hk;exact h.t k hk;rw[QJ.mp hk];exact#[x,Tb c.2];exact#[(),h.t]
theorem TR(v:WOk w)(h:GsOk w g)(x:n<w.es.9):GsOk w (EB w g n):=by
 let#[u,z]:=Ef h x;refine#[λk hk=>?_,?_,z,YZ v _ _,?_];rcases Qg.mp hk with hk|hk
 ·exact h.p k hk
 rw[QJ.mp hk];exact x;show(zT w g n).9<=(g.past++[n]).9;rw[QI];exact u;show(g.steps++_).9=(g.past++[n]).9;rw[QI,QI,h.s];rfl
theorem Kx(C:Ψ.sp "is_taken"=XY)(B:Ψ.sp "wrong_among"=LF)(A:Ψ.sp "live_among"=LG)(K:Ψ.sp "held_among"=GD){j:Option Sl}(i:WOk w)(a:GsOk w g)(E:g.past.9<60)(v:n<w.es.9)(hk:aO w y)(X:y.9<=10000)
  (q:∀x j o10,aO w x->x.9<=y.9+10->Z.nx (Pe w (g.past++[n]) (zT w g n) (SL w (g.past++[n])) (Ge w g n) x (EB w g n).steps (bD (nD n)) j o10)) :
  pF Ψ vO Z (Pe w g.past g.taken (SL w g.past) g.held y g.steps (bD (nD n)) j o10):=by
 have F:=a.tl;have I:=a.s;let#[G,m]:=Ef a v;have o:∀k∈g.past++[n],k<w.es.length:=(TR i a v).p;have r:=λ{o10}=>yt (Z:=Z) (wr:=SL w g.past) (held:=g.held) (st:=g.steps) (n:=n) (b:=N0 w g n) (o10:=o10) B A K i (past:=g.past++[n]) (by rw[QI];exact E) o (taken:=zT w g n) () m hk X () λx W Y=>q x _ _ W Y;delta Pe gb;delta vO;simp![↓pQ v,↓yA (md:=[.fro,.fro,.bor,.fro]) C rfl rfl,↓lB,↓d0,↓Ou];refine#[_,_,_,_,rfl,i,(i.ev v),a.h,?_];simp![↓pQ v,↓RV];rw[QC,QC,<- J8];refine#[(),?_];have e:zw w (SL w g.past) g.held (pA w.es n)=N0 w g n:=rfl;rw[e];cases u:N0 w g n with
 |false=>have f:zT w g n=g.taken:=a8 (by rw[u];exact λz=>by cases z);rw[f,u]at r;exact r|true =>
  cases l:decide (T4 (pA w.es n)="tell") with|false=>have f:zT w g n=g.taken:=a8 (by rw[u,l];exact λz=>by cases z);rw[f,u]at r;exact r|true=>have f:zT w g n=g.taken++[n]:=a9 (by rw[u,l];rfl);rw[f,u]at r;simp![↓jA];rw[QC,QC,<- J8];exact#[(),r]
theorem Ae(e:Evt):∃t,sK (CC e)=jr t:=by
 cases e with|see t p m h=>exact#[t,rfl]|tell t a b m h q=>exact#[t,rfl]
def BD(w:Wd)(ns:LN):Prop:=Pu (w.es.map CC) ns
theorem uZ(h:BD w ns):∀n∈ns,n<w.es.length:=λn x=>by
 have:=qU.mp (h.1.mem_iff.mp x)
 rwa [QC]at this
theorem f8(h:BD w ns):ns.9=w.es.length:=by rw[h.1.length_eq,Qw,QC]
theorem Cj{K:T->LT->Prop}{E:XE}(x:WOk w)(q:∀ns,BD w ns->K (gb ns) []):DM Aq [.d (.list (w.es.map CC))] K E:=#[_,rfl,by rw[QC];exact WV x.el (by decide),λe z=>by
 let#[v,_,rfl]:=QR.mp z;exact Ae v,λns h=>by
 have:=q ns h;unfold gb at this;rw[QW]at this;exact this]
def AL:PSp where
 run:=λh Q _=>∃w:Wd,h=[.d (wD w)]/\WOk w/\∀ns,BD w ns->Q (.lst (((FA w ns).steps.map SJ).map T.d)) []
theorem Hy{E:XE}{r:PT}{i:Nat}{ρ:xA}:UI Ψ E r Z i (.lst []) kf ρ=iB Ψ E r Z (ρ.set i (bD (.list []))):=Nu (ds:=[])
theorem Ld(l:Ψ.sp "going_order"=Aq)(C:Ψ.sp "is_taken"=XY)(B:Ψ.sp "wrong_among"=LF)(A:Ψ.sp "live_among"=LG)(K:Ψ.sp "held_among"=GD):UD Ψ bY AL Ra SY:=by rintro _ Q _ ⟨w,rfl,k,q⟩;have I:=k.el;refine kA [bD (wD w),kv,kv,kv,kv,kv,kv,kv,kv,kv,kv] ?_;delta bY;simp![↓BL,↓yA (md:=[]) l rfl rfl];refine#[(),(),(),?_];simp![↓Hy,↓yA (md:=[]) l rfl rfl];refine#[(),Cj k λns u=>?_];delta gb;simp![↓jA];rw[<- gA nD];have E:=f8 u;refine LA (λn=>T.d (nD n)) (λr a=>∃g y i f o10,r.foldl (EB w) g=FA w ns/\(GsOk w g/\g.past.9+r.9<=60/\∀n∈r,n<w.es.9)/\(aO w y/\y.9<=10 * g.past.9)/\a=Pe w g.past g.taken (SL w g.past) g.held y g.steps i f o10) ?_ ?_ ns _ #[#[[],[],[],[]],[],kv,kv,kv,rfl,#[#[λ_ z=>(by cases z),QT _,λ_ z=>(by cases z),λ_ z=>(by cases z),rfl],by show 0+ns.9<=60;omega,uZ u],#[λ_ z=>(by cases z),QT _],rfl];rintro a ⟨g,y,i,f,o10,e,_,_,rfl⟩;have e:g=FA w ns:=e;subst e;delta Pe;simp![↓jA];exact q ns u;rintro n r a N W ⟨g,y,i,f,o10,e,⟨p,o,m⟩,⟨s,F⟩,rfl⟩;have o:g.past.9+(r.9+1)<=60:=o;have j:=m n QD;refine Kx C B A K k p () j s () λh b v X G=>W _ #[EB w g n,h,_,b,v,e,#[TR k p j,?_,λx Y=>m x (QE _ Y)],#[X,?_],rfl];show(g.past++[n]).9+r.9<=60;rw[QI];show g.past.9+1+r.9<=60;omega;show h.9<=10 * (g.past++[n]).9;rw[QI];show h.9<=10 * (g.past.9+1);omega
def R0(w:Wd):Gs->LN->List Stp
 |_,[]=>[]|g,n::r=>(n,N0 w g n,P4 w g n,Ge w g n)::R0 w (EB w g n) r
theorem cT(w:Wd):∀(ns:LN) (g:Gs),(ns.foldl (EB w) g).steps=g.steps++R0 w g ns
 |[],g=>(qJ _).symm|n::r,g=>by show(r.foldl (EB w) (EB w g n)).steps=_;rw[cT w r];show(g.steps++[_])++_=g.steps++(_::_);rw[Q8];rfl
def g0:Gs:=#[[],[],[],[]]
theorem mJ(w:Wd)(ns:LN):(FA w ns).steps=R0 w g0 ns:=cT w ns g0
theorem jAc(w:Wd):GsOk w g0:=#[λ_ z=>(by cases z),QT _,λ_ z=>(by cases z),λ_ z=>(by cases z),rfl]
theorem VY(w:Wd):∀(k:Nat) (ns:LN) (g:Gs),(R0 w g ns).take k=R0 w g (ns.take k)
 |0,ns,g=>rfl|k+1,[],g=>rfl|k+1,n::r,g=>i3 (_::·) (VY w k r _)
def wU(w:Wd)(es:List Evt):Wd:=#[w.ps,w.ms,w.ag,es]
noncomputable def oe(f:Nat->Nat)(s:Stp):Stp:=(f s.1,s.2.1,s.2.2.1.map f,s.2.2.2)
end
section
variable{w:Wd}{es:List Evt}{f:Nat->Nat}(y:∀n,pA es n=pA w.es (f n))
include y
theorem eT(l:LN):yB es l=yB w.es (l.map f):=by unfold yB;rw[List.foldl_map];congr 1;funext ks n;unfold sE;rw[y]
theorem Z5(l:LN):SL (wU w es) l=SL w (l.map f):=by unfold SL;rw[List.foldl_map,<- eT y];congr 1;funext ks n;show(match pA es n with | .tell _ a b m _ _=>if SV w (yB es l) b m=kf then KS ks (a,b) else ks|_=>ks)=_;rw[y];rfl
theorem Sm(h:LN)(m:Str):BE es h m=BE w.es (h.map f) m:=by unfold BE;rw[QAM,QW];simp only[y];rfl
theorem Um(l h:LN):UC (wU w es) l h=UC w (l.map f) (h.map f):=by
 have e:∀x,E3 (wU w es) l h x=E3 w (l.map f) (h.map f) x:=λx=>funext λm=>by
  have e:UL (wU w es) l h m x=UL w (l.map f) (h.map f) m x:=by show Held (BE es h m) (HF w (yB es l) m) (mD w) x=_;rw[Sm y,eT y];rfl
  exact qA.mpr (by rw[lJ,lJ,e])
 show(w.ps.flatMap λp=>(w.ms.filter (E3 (wU w es) l h p.1)).map λm=>(p.1,m))=_;simp only[e];rfl
theorem v6(z:∀a b,a<=b->f a<=f b):∀(ns:LN) (g' g:Gs),g.past=g'.past.map f->g.taken=g'.taken.map f->g.held=g'.held->(R0 (wU w es) g' ns).map (oe f)=R0 w g (ns.map f)
 |[],_,_,_,_,_=>rfl|n::r,g',g,hp,ht,hh=>by
  have x:g.past++[f n]=(g'.past++[n]).map f:=by rw[hp,QO];rfl
  have e:N0 w g (f n)=N0 (wU w es) g' n:=by unfold N0;rw[hp,hh,<- Z5 y,<- y];rfl
  have k:zT w g (f n)=(zT (wU w es) g' n).map f:=by show(if(N0 w g (f n)&&decide (T4 (pA w.es (f n))="tell"))=kf then _ else _)=(if(N0 (wU w es) g' n&&decide (T4 (pA es n)="tell"))=kf then _ else _:LN).map f;rw[e,ht,<- y];split;rw[QO];rfl;rfl
  have v:P4 w g (f n)=(P4 (wU w es) g' n).map f:=by unfold P4;rw[k,x,<- Z5 y];refine(c6 (((eM _).map f).trans (QCg ?_)) (Wo.mpr ((u6 _).imp λh=>z _ _ h))).symm;unfold yG;rw[QAM];show(List.filter (λn=>!decide (((oH (pA es n)).1,(oH (pA es n)).2)∈_)) _).map f=_;simp only[y];rfl
  have u:Ge w g (f n)=Ge (wU w es) g' n:=by unfold Ge;rw[Um y,x,v]
  have i:=v6 z r (EB (wU w es) g' n) (EB w g (f n)) x k u;show oe f (n,N0 (wU w es) g' n,P4 (wU w es) g' n,Ge (wU w es) g' n)::(R0 (wU w es) (EB (wU w es) g' n) r).map (oe f)=(f n,N0 w g (f n),P4 w g (f n),Ge w g (f n))::R0 w (EB w g (f n)) (r.map f);rw[i,e,v,u];rfl
end
def EJ:Evt->Int
 | .see t _ _ _=>t|.tell t _ _ _ _ _=>t
def N8(es:List Evt)(a b:Nat):Prop:=EJ (pA es a)<EJ (pA es b)∨EJ (pA es a)=EJ (pA es b)/\a<=b
theorem C9{es:List Evt}{n:Nat}(h:n<es.9):(dG (es.map CC)).getD n (0,0)=(EJ (pA es n),(n:Int)):=by
 have e:sK (CC (es[n]'h))=jr (EJ (es[n]'h)):=by cases es[n]'h<;>rfl
 unfold dG pA;rw[QC,qf,Qa,ql h];simp only[Q1,Wz];rw[Qa,Qh h];simp only[Q1,Option.bind_some,Wz,e]
theorem rN{w:Wd}{ns:LN}(h:BD w ns):ns.Pairwise (N8 w.es):=by refine h.2.imp_of_mem λ{a b} x hb z=>?_;have z:=of_decide_eq_false z;rw[C9 (uZ h a x),C9 (uZ h b hb)]at z;unfold N8;dsimp only at z;omega
theorem B7{es:List Evt}{l z:LN}(p:l.Perm z)(h:l.Pairwise (N8 es))(h':z.Pairwise (N8 es)):l=z:=QAo (λa b _ _ x y=>by unfold N8 at x y;omega) h h' p
theorem Ul{w:Wd}{ns x:LN}(h:BD w ns)(h':BD w x):ns=x:=B7 (h.1.trans h'.1.symm) (rN h) (rN h')
def N4(es:List Evt)(t:Int)(n:Nat):Bool:=decide (EJ (pA es n)<=t)
def kpL(es:List Evt)(t:Int):LN:=(Qo es.9).filter (N4 es t)
def wT(w:Wd)(t:Int):Wd:=wU w ((kpL w.es t).map (pA w.es))
def BO(es:List Evt)(t:Int)(n:Nat):Nat:=(kpL es t).getD n es.9
section
variable{w:Wd}{es:List Evt}{t:Int}
theorem Ig{n:Nat}(h:n∈kpL es t):n<es.length:=qU.mp (QZ.mp h).1
theorem iU{n:Nat}(h:n<(kpL es t).9):(kpL es t)[n]?=jr (BO es t n):=by unfold BO;rw[qf,Qh h];rfl
theorem jh(a b:Nat)(h:a<=b):BO es t a<=BO es t b:=by
 by_cases hb:b<(kpL es t).9;have s:(kpL es t).Pairwise (· < ·):=List.pairwise_lt_range.filter _;rcases Nat.lt_or_eq_of_le h with h|rfl;have z:=iU (wz h hb);have y:=iU hb;rw[Qh (wz h hb)]at z;rw[Qh hb]at y;have:=QAi.mp s a b (wz h hb) hb h;rw[Ql z,Ql y]at this;exact WR this;exact QT _;have e:BO es t b=es.length:=by unfold BO;rw[qf,Qk (WG hb)];rfl
 rw[e];by_cases x:a<(kpL es t).9;exact WR (Ig (qN (iU x)));unfold BO;rw[qf,Qk (WG x)];exact QT _
theorem y9(n:Nat):pA ((kpL es t).map (pA es)) n=pA es (BO es t n):=by
 by_cases h:n<(kpL es t).9;have e:=iU h;unfold pA at *;rw[Qa,e];rfl;have e:BO es t n=es.length:=by unfold BO;rw[qf,Qk (WG h)];rfl
 rw[e];unfold pA;rw[Qk (by rw[QC];exact WG h),Qk (QT _)]
theorem km:(Qo (kpL es t).9).map (BO es t)=kpL es t:=by apply qX;intro i;rw[Qa];by_cases h:i<(kpL es t).9;rw[ql h,iU h];rfl;rw[Qk (by rw[Qw];omega),Qk ()];rfl
theorem J5(h:WOk w):WOk (wT w t):=by
 refine#[h.ag,h.al,h.pl,h.pn,h.po,h.ml,h.mo,h.mn,?_,λe y=>?_];show((kpL w.es t).map (pA w.es)).9<=60;have:=Qs (N4 w.es t) (Qo w.es.9);rw[Qw]at this;rw[QC];exact QV this h.el;let#[n,x,rfl]:=QR.mp (show e∈(kpL w.es t).map (pA w.es) from y);have:=h.ev (Ig x);cases z:pA w.es n with|see _ _ _ _=>rw[z]at this;exact this|tell _ _ _ _ _ _=>rw[z]at this;exact this
theorem YY:∀{l:LN},l.Pairwise (N8 es)->l.filter (N4 es t)=l.take (l.filter (N4 es t)).9
 |[],_=>rfl|a::l,h=>by
  let#[y,x]:=wu.mp h;cases c:N4 es t a with
  |true=>rw[List.filter_cons_of_pos c];exact i3 (a::·) (YY x)|false =>
   have e:(a::l).filter (N4 es t)=[]:=Wl.mpr λb hb z=>by have c:=of_decide_eq_false c;have z:=ii z;rcases QK.mp hb with rfl|hb;exact c z;have:=y b hb;unfold N8 at this;omega
   rw[e];rfl
theorem d8{ns x:LN}(h:BD w ns)(h':BD (wT w t) x):x.map (BO w.es t)=ns.take (kpL w.es t).length:=by
 have o:=rN h;have u:(x.map (BO w.es t)).Perm (kpL w.es t):=by have:=h'.1.map (BO w.es t);rw[QC,show(wT w t).es.9=(kpL w.es t).9 from QC _,km]at this;exact this
 have y:(ns.filter (N4 w.es t)).Perm (kpL w.es t):=by have:=h.1.filter (N4 w.es t);rw[QC]at this;exact this
 have e:x.map (BO w.es t)=ns.filter (N4 w.es t):=B7 (es:=w.es) (u.trans y.symm) (Wo.mpr ((rN h').imp λ{a b} z=>by have f:=y9 (es:=w.es) (t:=t) a;have k:=y9 (es:=w.es) (t:=t) b;have v:=jh (es:=w.es) (t:=t) a b;unfold N8 at *;rw[<- f,<- k];exact z.imp id λz=>#[z.1,v z.2])) (o.filter _);rw[e,YY o,y.length_eq]
theorem z6{ns x:LN}(h:BD w ns)(h':BD (wT w t) x):(FA (wT w t) x).steps.map (oe (BO w.es t))=(FA w ns).steps.take (kpL w.es t).length:=by rw[mJ,mJ,VY,<- d8 h h'];exact v6 (λn=>y9 n) jh x g0 g0 rfl rfl rfl
end
structure StK(w:Wd)(s:Stp):Prop where
 n:s.1<w.es.9
 l:D4 w s.2.2.1
 h:Mf s.2.2.2
theorem ug{w:Wd}(z:WOk w):∀(ns:LN) (g:Gs),GsOk w g->g.past.9+ns.9<=60->(∀n∈ns,n<w.es.9)->∀s∈R0 w g ns,StK w s
 |[],_,_,_,_,s,h=>by cases h|n::r,g,hg,hl,hn,s,h=>by have v:=hn n QD;have u:=TR z hg v;have hl:g.past.9+(r.9+1)<=60:=hl;have b:(EB w g n).past.9=g.past.9+1:=QI;rcases QK.mp h with rfl|h;have k:=eM (yG w.es (zT w g n) (SL w (g.past++[n])));have fl:(yG w.es (zT w g n) (SL w (g.past++[n]))).9<=(zT w g n).length:=Qs _ _;have a:(zT w g n).9<=(EB w g n).past.length:=u.tl;refine#[v,#[?_,λx y=>u.t x (QZ.mp (k.mem_iff.mp y)).1],YZ z _ _];show(P4 w g n).9<=100;unfold P4;rw[k.length_eq];omega;exact ug z r _ u () (λx y=>hn x (QE _ y)) s h
theorem x6{w:Wd}:∀(ns:LN) (g:Gs),(R0 w g ns).map (λs=>s.1)=ns
 |[],_=>rfl|n::r,g=>i3 (n::·) (x6 r _)
theorem CN{w:Wd}{ns:LN}(h:WOk w)(x:BD w ns):(FA w ns).steps.map (λs=>s.1)=ns/\(FA w ns).steps.9<=60/\∀s∈(FA w ns).steps,StK w s:=by have z:=h.el;have y:=f8 x;have e:=x6 (w:=w) ns g0;have l:=i3 qO e;rw[QC]at l;rw[mJ];exact#[e,(),ug h ns g0 (jAc _) (by show 0+_<=_;omega) (uZ x)]
noncomputable def ae(st:List Stp):LN:=match st.getLast? with
 |some s=>s.2.2.1|none=>[]
theorem UR(l:List Stp)(s:Stp):ae (l++[s])=s.2.2.1:=by unfold ae;rw[List.getLast?_concat]
theorem cW(st:List Stp):st=[]∨∃l s,st=l++[s]:=by
 rcases QBN st with h|⟨l,s,h⟩
 exact .inl h;exact .inr #[l,s,by rw[h,QBO]]
theorem F8{w:Wd}{st:List Stp}(h:∀s∈st,StK w s):D4 w (ae st):=by
 rcases cW st with rfl|⟨l,s,rfl⟩
 exact#[Qv _,λ_ z=>by cases z];rw[UR];exact(h s (QU _ QD)).l
theorem Xf{α:Type}(l:List α)(x:α):uD (l++[x]) (-1)=jr x:=by unfold uD HS;rw[a8 (by decide),QI,a9 (by show -(((l.9+1:Nat)):Int)<=-1;omega)];show(l++[x])[((-1:Int)+((l.9+1:Nat):Int)).toNat]?=_;rw[show((-1:Int)+((l.9+1:Nat):Int)).toNat=l.9 by omega,Qy (QT _),QBM];rfl
def dU(w:Wd)(st:List Stp):D:=.tuple [wD w,.list (st.map SJ)]
def Hr(w:Wd)(st:List Stp):T:=.tup [.d (wD w),.lst ((st.map SJ).map T.d)]
theorem Kt(w:Wd)(st:List Stp):(Hr w st).er=dU w st:=by show PyData.tuple [wD w,.list (ersT ((st.map SJ).map T.d))]=_;rw[vB];rfl
def ZQ:PSp where
 run:=λx Q _=>∃w:Wd,x=[.d (wD w)]/\WOk w/\∀h,BD w h->Q (Hr w (FA w h).steps) []
theorem Pr{a:D}{l:LT}:pD [.d a,.lst l]=.tup [.d a,.lst l]:=rfl
theorem Rk{Ψ:PEv}(z:Ψ.sp "gone"=AL):UD Ψ gE ZQ BH TF:=by rintro _ Q _ ⟨w,rfl,x,q⟩;refine kA [bD (wD w)] ?_;delta gE;simp![↓yA (md:=[]) z rfl rfl];refine#[_,rfl,x,λh y=>?_];simp![↓Pr];exact#[(),q h y]
section
variable{w:Wd}{st:List Stp}{n m:Bool}{R:T->Prop}{xs:List (T×Bool)}{C:LT->Prop}{s:Stp}
theorem NS:XA (.d (dU w st)) n (.d (.int 0)) m R=R (.d (wD w)):=BA (i:=0) rfl
theorem i5:XA (.d (dU w st)) n (.d (.int 1)) m R=R (.d (.list (st.map SJ))):=BA (i:=1) rfl
theorem Uu:DA [] ((Hr w st,kf)::xs) C=DA [] xs λts=>C (.d (dU w st)::ts):=by have e:sA [] ((Hr w st,kf)::xs) []=(sA [] xs []).map (.d (Hr w st).er::·):=rfl;unfold DA;rw[e,Kt,GC]
theorem bp:XA (.d (SJ s)) n (.d (.int 0)) m R=R (.d (nD s.1)):=BA (i:=0) rfl
theorem Hv:XA (.d (SJ s)) n (.d (.int 2)) m R=R (.d (.list (s.2.2.1.map nD))):=BA (i:=2) rfl
theorem xp:XA (.d (SJ s)) n (.d (.int 3)) m R=R (.d (.list (s.2.2.2.map pr))):=BA (i:=3) rfl
end
def gI{α:Type}(l:List α)(i:Int)(d:α):α:=(uD l i).getD d
theorem PD{α:Type}{l:List α}{i:Int}{d:α}(z:0<=i)(y:i<l.9):uD l i=jr (gI l i d)/\gI l i d∈l:=by let#[v,x,h]:=bM z y;unfold gI;rw[x];exact#[rfl,qN h]
theorem uC{α:Type}{f:α->D}{l:List α}{i:Int}(d:α){K:D->Prop}(x:0<=i)(h:i<l.9)(q:K (f (gI l i d))):AE (uD (l.map f) i) K:=by rw[JF,(PD (d:=d) x h).1];exact#[_,rfl,q]
theorem VA(a:Int){m:Int}(h:0<m):0<=a % m/\a % m<m:=#[Int.emod_nonneg _ (),Int.emod_lt_of_pos _ h]
noncomputable def Om{α:Type}(f:α->D)(p:α×Nat):T:=.d (.tuple [.int (p.2:Int),f p.1])
theorem ZX{α:Type}(f:α->D)(l:List α):((l.map f).zipIdx.map λp=>T.d (.tuple [.int (p.2:Int),p.1]))=l.zipIdx.map (Om f):=by rw[List.zipIdx_map,QW];rfl
theorem lY{Ψ:PEv}{E:XE}{c:PX}{s y r:PT}{Z:PEnds}{o:Option Sl}{σ:xA}:iB Ψ E (.seq (.ife c s y) r) Z (o::σ)=IQ Ψ c E (o::σ) λk x=>if k=kf then iB Ψ E s { Z with nx:=λh=>iB Ψ E r Z h } x else iB Ψ E y { Z with nx:=λh=>iB Ψ E r Z h } x:=rfl
section
variable{Ψ:PEv}{E:XE}{ρ:xA}{K:TK}{a h y g b c d:PX}{x:D}{n:Bool}{f:Str}{w:hZ}{i:Int}{j:Nat}
def Y6(x:T)(n:Bool)(Ψ:PEv)(h y:PX)(E:XE)(p:xA)(K:TK):Prop:=sq (α:=Option Int) (nA x n) p (if isNop h=kf then λρ (R:Option Int->xA->Prop)=>R kv ρ else λρ R=>(pe Ψ h E).e ρ λl _ m=>EF l.er λo=>R o m) λl m =>
   sq (α:=Option Int) (nA x n) m (if isNop y=kf then λρ (R:Option Int->xA->Prop)=>R kv ρ else λρ R=>(pe Ψ y E).e ρ λu _ v=>EF u.er λo=>R o v) λu v=>kK (nA x n).vw l u λz k=>K z k v
theorem XS:oB Ψ (.slc a h y) E ρ K=oB Ψ a E ρ λx n z=>Y6 x n Ψ h y E z K:=rfl
theorem zt:Y6 (.d x) n Ψ .nop (.bin w a b) E ρ K=oB Ψ (.bin w a b) E ρ λu _ v=>tP u λo=>CL (.d x) n kv o λz k=>K z k v:=by cases n<;>rfl
theorem Fx:Y6 (.d x) n Ψ .nop (.var j) E ρ K=oB Ψ (.var j) E ρ λu _ v=>tP u λo=>CL (.d x) n kv o λz k=>K z k v:=by cases n<;>rfl
theorem Gx:Y6 (.d x) n Ψ .nop (.ng i) E ρ K=CL (.d x) n kv (jr (-i)) λz k=>K z k ρ:=by cases n<;>rfl
theorem Hx:Y6 (.d x) n Ψ (.bin w a b) (.var j) E ρ K=oB Ψ (.bin w a b) E ρ λu _ l=>tP u λo=>oB Ψ (.var j) E l λv _ e=>tP v λp=>CL (.d x) n o p λz k=>K z k e:=by cases n<;>rfl
end
section
variable{k c m:Int}{K:T->LT->Prop}{E:XE}{Ψ:PEv}{a b l:LN}{n:Bool}{R:T->Prop}{s:Stp}{i j:Nat}{o:Option Int}{Z:PEnds}{ws:LS}{o10:Option Sl}
def MA(h:LJ)(k:Int):Int:=if k<h.9 then gI h k 0 else 0
def KI:PSp where
 md:=[.shal]
 run:=λx Q _=>∃(h:LJ) (k:Int),x=[.lst ((h.map j1).map T.d),.d (.int k)]/\0<=k/\Q (.d (.int (MA h k))) []
theorem l9{a b:LJ}(h:(a.map j1).map T.d=(b.map j1).map T.d):a=b:=(Wg λx y e=>by injection e).mp ((Wg λx y e=>by injection e).mp h)
theorem CI{h:LJ}:DM KI [.lst ((h.map j1).map T.d),.d (.int k)] K E=(0<=k/\K (.d (.int (MA h k))) []):=ir #[λ#[x,_,e,a,q]=>by injection e with e1 e2;injection e1 with e1;cases l9 e1;cases e2;exact#[a,q],λq=>#[h,k,rfl,q]]
theorem Od:UD Ψ tG KI JL SI:=by rintro _ Q _ ⟨h,k,rfl,x,q⟩;refine kA [jr (.bor (.lst ((h.map j1).map T.d))),bD (.int k)] ?_;delta tG;simp![QC];unfold MA at q;by_cases c:k<h.9;rw[a9 c]at q;rw[a9 (dT c)];exact uC 0 x c q;rw[a8 c]at q;rw[a8 (λz=>c (ii z))];exact q
noncomputable def nI(c k:Int):Int:=c % 2147483647 * (69621+1511 * k * k) % 2147483629
def dA(c k:Int):Int:=(nI c k+k) * (nI c k+5 * k+1) % 2147483587
theorem Ol(c k:Int):0<=dA c k/\dA c k<2147483587:=VA _ (by decide)
def OF:PSp where
 run:=λh Q _=>∃c k:Int,h=[.d (.int c),.d (.int k)]/\(0<=k/\k<=1000)/\Q (.d (.int (dA c k))) []
theorem RG:DM OF [.d (.int c),.d (.int k)] K E=((0<=k/\k<=1000)/\K (.d (.int (dA c k))) []):=ir #[λ#[_,_,e,a,q]=>by cases e;exact#[a,q],λq=>#[c,k,rfl,q]]
theorem Sk:UD Ψ HK OF lQ zN:=by rintro _ Q _ ⟨c,k,rfl,⟨x,h⟩,q⟩;refine kA [bD (.int c),bD (.int k),kv] ?_;delta HK;simp![↓jA];have a:=VA c (show(0:Int)<2147483647 by decide);have b:0<=nI c k/\nI c k<2147483629:=VA _ (by decide);unfold nI at b;exact#[BS.ok (.inl #[by decide,by decide]),BS.ok (.inr #[(),()]),BS.ok (.inl #[(),()]),BS.ok (.inl #[by decide,by decide]),BS.ok (.inl #[(),()]),q]
def sS(l:LN):Str:=#[l.toArray]
theorem UM(a b:LN):sS a++sS b=sS (a++b):=by show(#[a.toArray++b.toArray]:Str)=#[(a++b).toArray];rw[List.append_toArray]
theorem yE(l:LN):(sS l).9=l.length:=QN
theorem rW(l:LN):(sS l).cps.toList=l:=rfl
theorem Uj(h:sS a=sS b):a=b:=i3 (λs:Str=>s.cps.toList) h
def NV(l:LN):Prop:=∀c∈l,c<128
theorem Fg(h:NV l):OkS (sS l):=by show(l.toArray).all _=kf;rw[<- Array.all_toList,Q9];intro c hc;exact dT (wz (h c hc) (by decide))
noncomputable abbrev gH:Str:="abcdefghijklmnopqrstuvwxyz"
def SB(n:Int):Nat:=97+(n % 26).toNat
theorem YN:gH.cps.toList=(Qo 26).map (·+97):=by decide +kernel
theorem uX(n:Int):SB n<128:=by have:=VA n (show(0:Int)<26 by decide);unfold SB;omega
theorem Ze(n:Int):uD gH.cps.toList (n % 26)=jr (SB n):=by
 have m:=VA n (show(0:Int)<26 by decide);have hl:gH.cps.toList.9=26:=by rw[YN];rfl
 let#[v,x,h]:=bM (xs:=gH.cps.toList) m.1 (by rw[hl];exact m.2);rw[x];rw[YN,Qa,ql ()]at h;have h:(n % 26).toNat+97=v:=Ql h;unfold SB;rw[<- h,Nat.add_comm]
theorem L8{P:Nat->Prop}(q:P (SB m)):gH.length<=kn/\AE (uD gH.cps.toList (m % 26)) P:=by rw[Ze,zB];exact#[by rw[show gH.length=26 from rfl];omega,q]
theorem oV{P:Str->Prop}(h:a.9+b.9<=1000)(q:P (sS (a++b))):(sS a).9+(sS b).9<=kn/\P (sS a++sS b):=by rw[yE,yE,UM];exact#[(),q]
def lH:Int->Nat->LN
 |_,0=>[]|n,k+1=>SB n::lH (n / 26) k
theorem cC:∀(n:Int) (k:Nat),(lH n k).9=k
 |_,0=>rfl|n,k+1=>i3 (·+1) (cC _ k)
theorem zH:∀(n:Int) (k:Nat),NV (lH n k)
 |_,0,c,h=>by cases h|n,k+1,c,h=>by rcases QK.mp h with rfl|h;exact uX n;exact zH _ k c h
noncomputable def IJ:PSp where
 run:=λh Q _=>∃n k:Int,h=[.d (.int n),.d (.int k)]/\(0<=k/\k<=100)/\Q (.d (.str (sS (lH n k.toNat)))) []
theorem MQ{n:Int}:DM IJ [.d (.int n),.d (.int k)] K E=((0<=k/\k<=100)/\K (.d (.str (sS (lH n k.toNat)))) []):=ir #[λ#[_,_,e,a,q]=>by cases e;exact#[a,q],λq=>#[n,k,rfl,q]]
theorem Ak:UD Ψ rG IJ eL OI:=by
 rintro _ Q _ ⟨n,k,rfl,⟨u,z⟩,q⟩;refine kA [bD (.int n),bD (.int k),kv,kv,kv] ?_;delta rG;simp![↓jA];refine#[(),(),?_];refine LA (λ(i:Nat)=>T.d (.int (i:Int))) (λr h=>∃m l x,l++lH m r.9=lH n k.toNat/\h=[bD (.int m),bD (.int k),bD (.str gH),bD (.str (sS l)),x]) ?_ ?_ _ _ #[n,[],kv,by rw[Qw];rfl,rfl];rintro h ⟨m,l,x,e,rfl⟩;have e:l=lH n k.toNat:=by rw[<- e];exact(qJ _).symm
 subst e;simp![↓jA];exact q;rintro i r h N y ⟨m,l,x,e,rfl⟩;have hl:=i3 qO e;rw[QI,cC,cC]at hl;delta VH;simp![↓jA];refine L8 (oV (a:=l) (b:=[SB m]) (P:=λs=>N [bD (.int (m / 26)),bD (.int k),bD (.str gH),bD (.str s),bD (.int (i:Int))]) (by show _+1<=_;omega) (y _ #[m / 26,l++[SB m],_,?_,rfl]));rw[Q8];exact e
theorem Bb{e:Evt}{m:Bool}:XA (.d (CC e)) n (.d (.int 1)) m R=R (.d (.int (EJ e))):=by
 cases e with|see t p h w=>exact BA (i:=1) rfl|tell t a b h w q=>exact BA (i:=1) rfl
theorem Oy{ρ:xA}{k l:Nat}{P:xA->Prop}:TZ (.tp [i,j,k,l]) (.d (SJ s)) ρ P=P ((((ρ.set i (bD (nD s.1))).set j (bD (.bool s.2.1))).set k (bD (.list (s.2.2.1.map nD)))).set l (bD (.list (s.2.2.2.map pr)))):=zB
def oI:Option Int->D
 |none=>.none|some t=>.int t
def uc(w:Wd)(p:Pt)(o:Option Int)(s:Stp):Option Int:=if p∈s.2.2.2 then(if o=kv then jr (EJ (pA w.es s.1)) else o) else kv
def K6(w:Wd)(st:List Stp)(p:Pt):Option Int:=st.foldl (uc w p) kv
def lW:PSp where
 run:=λh Q _=>∃(w:Wd) (st:List Stp) (p:Pt),h=[.d (dU w st),.d (.str p.1),.d (.str p.2)]/\((∀s∈st,StK w s)/\OkS p.1/\OkS p.2)/\Q (.d (oI (K6 w st p))) []
def Go(w:Wd)(st:List Stp)(p:Pt)(o:Option Int)(o4 o5 o6 o7:Option Sl):xA:=[bD (dU w st),bD (.str p.1),bD (.str p.2),bD (oI o),o4,o5,o6,o7]
theorem Tt{L:Bool->Prop}:KB .Is (.d (oI o)) (.d .none) L=L o.isNone:=by cases o<;>rfl
theorem Yw{w:Wd}{st:List Stp}{p:Pt}{o5 o6:Option Sl}(x:StK w s)(y:OkS p.1/\OkS p.2)(q:Z.nx (Go w st p (uc w p o s) (bD (nD s.1)) o5 o6 (bD (.list (s.2.2.2.map pr))))):pF Ψ cF Z (Go w st p o (bD (nD s.1)) o5 o6 (bD (.list (s.2.2.2.map pr)))):=by
 unfold uc at q;delta Go;delta cF;simp![↓lY];refine#[(),fZ x.h y.1 y.2 ?_];by_cases c:p∈s.2.2.2;rw[a9 c]at q;rw[dT c];simp![↓Tt,↓NS,↓BL,↓pQ x.n,↓Bb];cases o with|none=>exact q|some t=>exact q
 rw[a8 c]at q;rw[dF c];exact q
theorem Lk:UD Ψ jI lW dO IK:=by rintro _ Q _ ⟨w,st,p,rfl,⟨X,Y⟩,q⟩;refine kA [bD (dU w st),bD (.str p.1),bD (.str p.2),kv,kv,kv,kv,kv] ?_;delta jI;simp![↓i5];rw[<- gA SJ];refine LA (λs=>T.d (SJ s)) (λr h=>∃o v u z y,r.foldl (uc w p) o=K6 w st p/\(∀s∈r,StK w s)/\h=Go w st p o v u z y) ?_ ?_ _ _ #[kv,kv,kv,kv,kv,rfl,X,rfl];rintro h ⟨o,v,u,z,y,e,_,rfl⟩;have e:o=K6 w st p:=e;subst e;delta Go;simp![↓jA];exact q;rintro s r h N W ⟨o,v,u,z,y,e,g,rfl⟩;delta Go;rw[aa,Oy];exact Yw (g s QD) Y (W _ #[_,_,_,_,_,e,λx f=>g x (QE _ f),rfl])
def fW:PSp where
 run:=λx Q _=>∃(w:Wd) (p:Pt),x=[.d (wD w),.d (.str p.1),.d (.str p.2)]/\(WOk w/\OkS p.1/\OkS p.2)/\∀h,BD w h->Q (.d (oI (K6 w (FA w h).steps p))) []
theorem Gk(v:Ψ.sp "since_in"=lW)(u:Ψ.sp "last_moment"=ZQ):UD Ψ IH fW cO AK:=by rintro _ Q _ ⟨w,p,rfl,⟨h,z⟩,q⟩;refine kA [bD (wD w),bD (.str p.1),bD (.str p.2)] ?_;delta IH;simp![↓yA (md:=[]) v rfl rfl,↓yA (md:=[]) u rfl rfl];refine#[_,rfl,h,λy x=>?_];simp![↓Uu];refine#[_,_,_,rfl,#[(CN h x).2.2,z],?_];simp![↓jA];exact q y x
noncomputable def Xs:LS:=["person","matter","against","see","tell","by","at","who","what","since","tellers"]
noncomputable def Vs:LS:=["wordings","apart","leans","hidden","strike","quote","ground","cut"]
def lst(z:Str):Nat:=z.cps.toList.getLast?.getD 0
def ux(z:Str):Bool:=decide (1<=z.9)&&decide (z.9<=10)&&decide (97<=lst z)&&decide (lst z<=122)&&(qB gH (sS [lst z]) 0 gH.length 1).head?==jr (lst z - 97)
theorem j9:((Xs++Vs).all ux)=true:=by decide +kernel
def JO(l:LN):LN:=if sS l∈Xs++Vs then l.dropLast++[SB ((lst (sS l) - 97:Nat)+13)] else l
theorem pj(h:NV l):NV (JO l):=by unfold JO;split;intro c hc;rcases Qg.mp hc with hc|hc;exact h c (List.dropLast_subset l hc);rw[QJ.mp hc];exact uX _;exact h
theorem KY(l:LN):(JO l).9=l.length:=by unfold JO;split;rename_i c;have k:=Q9.mp j9 _ c;unfold ux at k;rw[Qb,Qb,Qb,Qb,i0,yE]at k;have:=k.1.1.1.1;rw[QI,wR];show l.9 - 1+1=_;omega;rfl
theorem j6{p:Nat}(h:l[p]?=jr (SB m)):∃u:Int,(JO l)[p]?=jr (SB (m+13 * u)):=by
 unfold JO;split;have y:p<l.length:=(Qi.mp h).1;by_cases c:p<l.9 - 1;refine#[0,?_];rw[show m+13 * 0=m from Int.add_zero m,qL (by rw[wR];exact c),List.getElem?_dropLast,a9 c];exact h;refine#[1,?_];have e:p=l.9 - 1:=()
 rw[Qy (by rw[wR];omega),wR,e,QBM];have x:lst (sS l)=SB m:=by unfold lst;rw[rW,QAj,<- e,h];rfl
 rw[x];show jr (SB (((97+(m % 26).toNat - 97:Nat):Int)+13))=jr (SB (m+13));rw[Nat.add_sub_cancel_left,Int.toNat_of_nonneg (VA m (by decide)).1];unfold SB;rw[Int.emod_add_emod];exact#[0,(show m+13 * 0=m from Int.add_zero m).symm▸h]
def MF:PSp where
 run:=λh Q _=>∃l:LN,h=[.d (.str (sS l))]/\l.9<=100/\Q (.d (.str (sS (JO l)))) []
theorem oZ(ks:LS):(ks.map j0).all aB=true:=by rw[Q9];intro y h;let#[x,_,rfl]:=QR.mp h;rfl
theorem E8(ks:LS)(z:Str):((ks.map j0).any λy=>Qt y (.str z))=decide (z∈ks):=by rw[qA,WK,i0];constructor;rintro⟨y,u,h⟩;let#[x,v,rfl]:=QR.mp u;rw[tK,i0]at h;exact h▸v;exact λh=>#[_,QR.mpr #[z,h,rfl],by rw[tK];exact dT rfl]
theorem i6(h:1<=l.9):w6 (sS l) kv (jr (-1))=sS l.dropLast:=by show QAp (sS l) kv (jr (-1))=_;rw[StrLaws.sliceText_to_neg (by decide) (by rw[yE];omega),List.drop_zero,yE,rW,List.dropLast_eq_take];unfold sS;congr 3;omega
theorem Pv{m:Bool}(h:1<=l.9)(y:l.9<=10):XA (.d (.str (sS l))) n (.d (.int (-1))) m R=R (.d (.str (sS [lst (sS l)]))):=by
 have x:uD (sS l).cps.toList (-1)=jr (lst (sS l)):=by unfold lst uD HS;rw[rW,a8 (by decide),a9 ()];show l[_]?=_;rw[show((-1:Int)+l.9).toNat=l.9 - 1 by omega,QAj,Qh ()];rfl
 rw[Lv,x,zB,yE];exact ir #[λh=>h.2,λh=>#[(),h]]
theorem n6{Q:T->LT->Prop}{z:Str}{w:Option Sl}(hk:z∈Xs++Vs)(q:Q (.d (.str (sS (JO z.cps.toList)))) []):FD Ψ (λ_=>False) (eZ Q).rt (.bin .Add (.slc (.var 0) .nop (.ng 1)) (.idx (.var 1) (.bin .Mod (.bin .Add (.mt .index (.var 1) %[.idx (.var 0) (.ng 1)|1]) (.int 13)) (.int 26)))) [bD (.str z),bD (.str gH),w]:=by
 have k:=Q9.mp j9 z hk;unfold ux at k;rw[Qb,Qb,Qb,Qb,i0,i0,i0,i0,beq_iff_eq]at k;let#[#[#[#[x,v],g],f],h]:=k;have e:z=sS z.cps.toList:=rfl;generalize hl:z.cps.toList=l at *;subst e;rw[yE]at x v;cases y:qB gH (sS [lst (sS l)]) 0 gH.length 1 with|nil=>rw[y]at h;cases h|cons i u=>rw[y]at h;have h:i=lst (sS l) - 97:=Ql h;unfold JO at q;rw[a9 hk,<- h]at q;rw[Pa,jb,XS];simp![↓Gx];refine#[by rw[yE];omega,?_];rw[i6 x];refine Ny y (λK=>rfl) (λK=>?_) ?_;exact Pv x v;simp![↓jA];exact L8 (oV (a:=l.dropLast) (b:=[SB ((i:Int)+13)]) (P:=λs=>Q (.d (.str s)) []) (by rw[wR];show _+1<=_;omega) q)
theorem T7:UD Ψ FK MF fQ jN:=by rintro _ Q _ ⟨l,rfl,hl,q⟩;refine kA [bD (.str (sS l)),kv,kv] ?_;delta FK;simp_arith![↓jA];refine#[(),?_];show UI Ψ (λ_=>False) _ (eZ Q) 2 (.lst ((Xs.map j0).map T.d)) kf [bD (.str (sS l)),bD (.str gH),kv];rw[Nu];simp![↓Yu];rw[E8];refine#[.inl #[rfl,oZ _],?_];by_cases x:sS l∈Xs;rw[dT x];exact n6 (Qn _ x) q;rw[dF x];refine#[(),?_];show KB .In (.d (.str (sS l))) (.d (.list (Vs.map j0))) _;rw[da,E8];refine#[.inl #[rfl,oZ _],?_];by_cases h:sS l∈Vs;rw[dT h];exact n6 (QU _ h) q;rw[dF h];unfold JO at q;rw[a8 λz=>(Qg.mp z).elim x h]at q;exact q
def ZF(n:Int):LN:=lH (n * n+n) 8
def pH(n:Int):Int:=1+n / 3 % 8
def C5(n:Int):Int:=n / 24 % pH n
def BB(c:Int)(k:Nat):LN :=
 if dA c 1 % 3=0 then(ZF (dA c 1)).take (C5 (dA c 1)).toNat++[SB (dA c 1 / 192+k)]++((ZF (dA c 1)).drop (C5 (dA c 1)+1).toNat).take (pH (dA c 1) - (C5 (dA c 1)+1)).toNat
 else if dA c 1 % 3=1 then(ZF (dA c 1)).take (1+(dA c 1 / 24+k) % 8).toNat
 else([SB (dA c 1 / 192+k)]++lH (dA c (k+2)) 7).take (1+dA c (k+40) % 8).toNat
theorem Y5(n:Int):(1<=pH n/\pH n<=8)/\0<=C5 n/\C5 n<pH n:=by
 have a:=VA (n / 3) (show(0:Int)<8 by decide);have b:1<=pH n/\pH n<=8:=by unfold pH;omega
 exact#[b,VA _ ()]
theorem NV.take(h:NV l)(n:Nat):NV (l.take n):=λc hc=>h c (List.mem_of_mem_take hc)
theorem NV.drop(h:NV l)(n:Nat):NV (l.drop n):=λc hc=>h c (List.mem_of_mem_drop hc)
theorem NV.app(h:NV a)(g:NV b):NV (a++b):=λc hc=>(Qg.mp hc).elim (h c) (g c)
theorem G8(n:Int):NV [SB n]:=λc hc=>by rw[QJ.mp hc];exact uX n
theorem Fb(c:Int)(k:Nat):NV (BB c k):=by
 unfold BB;split;exact(((zH _ _).take _).app (G8 _)).app (((zH _ _).drop _).take _);split
 ·exact(zH _ _).take _
 exact((G8 _).app (zH _ _)).take _
theorem uz(a b c:Nat):min a 8+1+min b (8 - c)<=17:=Nat.add_le_add (Nat.add_le_add_right (W5 _ _) 1) (QV (W5 _ _) (Nat.sub_le _ _))
theorem V5(c:Int)(k:Nat):(BB c k).9<=20:=by
 have b:(ZF (dA c 1)).9=8:=cC _ _;unfold BB;split;rw[QI,QI,qK,qK,QA3,b];exact QV (uz _ _ _) (by decide);split
 ·rw[qK,b];exact QV (W5 _ _) (by decide)
 rw[qK,QI,cC];exact QV (W5 _ (1+7)) (by decide)
theorem Db(X:i<6)(r:j<6)(h:JO (BB c i)=JO (BB c j)):i=j:=by
 have key:∀(p:Nat) (a:Int),(∀k,(BB c k)[p]?=jr (SB (a+k)))->i=j:=λp a e=>by
  let#[u,f]:=j6 (e i);let#[v,q]:=j6 (e j);rw[h]at f;have l:∀{x y:Int},SB x=SB y->x % 26=y % 26:=λ{x y} e=>by have:=VA x (show(0:Int)<26 by decide);have:=VA y (show(0:Int)<26 by decide);unfold SB at e;omega
  have:=l (Ql (f.symm.trans q));omega
 have b:(ZF (dA c 1)).9=8:=cC _ _;have ws:=Y5 (dA c 1);by_cases z:dA c 1 % 3=0;refine key (C5 (dA c 1)).toNat (dA c 1 / 192) λk=>?_;unfold BB;have g:((ZF (dA c 1)).take (C5 (dA c 1)).toNat).9=(C5 (dA c 1)).toNat:=by rw[qK,b];omega
 rw[a9 z,Q8,Qy (),g,QBM];rfl;by_cases w:dA c 1 % 3=1
 ·have e:=i3 qO h
  rw[KY,KY]at e;have a:∀k,(BB c k).9=(1+(dA c 1 / 24+k) % 8).toNat:=λk=>by have:=VA (dA c 1 / 24+k) (show(0:Int)<8 by decide);unfold BB;rw[a8 z,a9 w,qK,b];omega
  rw[a,a]at e;have:=VA (dA c 1 / 24+i) (show(0:Int)<8 by decide);have:=VA (dA c 1 / 24+j) (show(0:Int)<8 by decide);omega
 refine key 0 (dA c 1 / 192) λk=>?_;have m:=VA (dA c (k+40)) (show(0:Int)<8 by decide);unfold BB;rw[a8 z,a8 w];obtain⟨t,e⟩:∃t,(1+dA c (k+40) % 8).toNat=t+1:=#[(dA c (k+40) % 8).toNat,()]
 rw[e];rfl
def OE(c:Int)(m:Nat):LS:=if dA c 1 / 5000 % 2=1 then((Qo m).map λk=>sS (JO (BB c k))).reverse else(Qo m).map λk=>sS (JO (BB c k))
theorem RS(c:Int){m:Nat}(h:m<=6):(OE c m).Nodup/\(OE c m).9=m/\∀x∈OE c m,OkS x:=by
 have nd:((Qo m).map λk=>sS (JO (BB c k))).Nodup:=by refine Wo.mpr (wb (λ{i j} v u z e=>z ?_) QCT);have:=qU.mp v;have:=qU.mp u;exact Db () () (Uj e)
 have ok:∀x∈(Qo m).map λk=>sS (JO (BB c k)),OkS x:=λx y=>by let#[k,_,rfl]:=QR.mp y;exact Fg (pj (Fb c k))
 unfold OE;split;exact#[(List.reverse_perm _).nodup_iff.mpr nd,by rw[wf,QC,Qw],λx y=>ok x (QCU.mp y)];exact#[nd,by rw[QC,Qw],ok]
def eI:PSp where
 run:=λh Q _=>∃(c:Int) (m:Nat),h=[.d (.int c),.d (.int (m:Int)),.d (.int 8)]/\m<=10/\Q (.lst (((OE c m).map j0).map T.d)) []
theorem VM{j:Int}(x:0<=j)(h:j<=l.9):w6 (sS l) kv (jr j)=sS (l.take j.toNat):=by show QAp (sS l) kv (jr j)=_;rw[StrLaws.sliceText_to #[x,h],List.drop_zero,Int.sub_zero];rfl
theorem T0{i j:Int}(y:0<=i)(x:i<=j)(h:j<=l.9):w6 (sS l) (jr i) (jr j)=sS ((l.drop i.toNat).take (j - i).toNat):=by show QAp (sS l) (jr i) (jr j)=_;rw[StrLaws.sliceText_plain #[y,x,h]];rfl
def U5(c:Int)(m:Int)(ws:LS)(x o10 h:Option Sl):xA:=[bD (.int c),bD (.int m),bD (.int 8),bD (.str gH),bD (.int (dA c 1)),bD (.str (sS (ZF (dA c 1)))),bD (.int (pH (dA c 1))),bD (.int (C5 (dA c 1))),oW (.lst ((ws.map j0).map T.d)),x,o10,h]
theorem Dp(x:Ψ.sp "_law_spelt"=MF){h:Option Sl}(hl:l.9<=20)(y:ws.length<=100)(q:Z.nx (U5 c m (ws++[sS (JO l)]) h o10 (bD (.str (sS l))))):pF Ψ yD Z (U5 c m ws h o10 (bD (.str (sS l)))):=by unfold U5 at q;rw[QO,QO]at q;delta U5;delta yD;simp![↓yA (md:=[]) x rfl rfl];refine#[_,rfl,(),?_];simp![QC];exact#[(),q]
theorem Iv(A:Ψ.sp "_law_spelt"=MF)(W:Ψ.sp "_law_mixed"=OF)(Y:Ψ.sp "_law_letters"=IJ){k:Nat}{h:Option Sl}(hk:k<=100)(f:ws.length<=100)(q:∀o10 h,Z.nx (U5 c m (ws++[sS (JO (BB c k))]) (bD (.int (k:Int))) o10 h)):pF Ψ pG Z (U5 c m ws (bD (.int (k:Int))) o10 h):=by
 have v:(ZF (dA c 1)).9=8:=cC _ _;have g:=Y5 (dA c 1);have r:∀(l:LN) (o10:Option Sl),l=BB c k->pF Ψ yD Z (U5 c m ws (bD (.int (k:Int))) o10 (bD (.str (sS l)))):=by rintro l o10 rfl;exact Dp A (V5 c k) f (q _ _)
 delta U5;delta pG;simp![↓lY];refine L8 ?_;have w:(sS (ZF (dA c 1))).9<=sizeLine:=by rw[yE,v];omega
 by_cases y:dA c 1 % 3=0;have x:w6 (sS (ZF (dA c 1))) kv (jr (C5 (dA c 1)))=_:=VM g.2.1 ();have p:w6 (sS (ZF (dA c 1))) (jr (C5 (dA c 1)+1)) (jr (pH (dA c 1)))=_:=T0 () () ();have r:=r _ (bD (.str (sS [SB (dA c 1 / 192+k)]))) (show _=BB c k from(a9 y).symm);rw[<- UM,<- UM]at r;rw[a9 (dT y)];simp![↓XS,↓Fx,↓Hx,↓Vc,x,p];refine#[w,(oV (P:=λ_=>True) (b:=[SB (dA c 1 / 192+k)]) (by rw[qK,v];show _+1<=_;omega) trivial).1,w,?_,r];rw[show(#[(qG [SB (dA c 1 / 192+k)])]:Str)=sS [SB (dA c 1 / 192+k)] from rfl,UM];refine(oV (P:=λ_=>True) ?_ trivial).1;rw[QI,qK,qK,QA3,v];exact QV (uz _ _ _) (by decide);rw[a8 λz=>y (ii z)];by_cases u:dA c 1 % 3=1;have m:=VA (dA c 1 / 24+k) (show(0:Int)<8 by decide);have x:w6 (sS (ZF (dA c 1))) kv (jr (1+(dA c 1 / 24+k) % 8))=_:=VM () ();have r:=r _ (bD (.str (sS [SB (dA c 1 / 192+k)]))) (show _=BB c k from((a8 y).trans (a9 u)).symm);rw[a9 (dT u)];simp![↓XS,↓zt,↓Vc,x];exact#[w,r];have m:=VA (dA c (k+40)) (show(0:Int)<8 by decide);have X:([SB (dA c 1 / 192+k)]++lH (dA c (k+2)) 7).9=8:=by rw[QI,cC];rfl
 have x:w6 (sS ([SB (dA c 1 / 192+k)]++lH (dA c (k+2)) 7)) kv (jr (1+dA c (k+40) % 8))=_:=VM () ();have r:=r _ (bD (.str (sS [SB (dA c 1 / 192+k)]))) (show _=BB c k from((a8 y).trans (a8 u)).symm);rw[a8 λz=>u (ii z)];simp_arith![↓XS,↓zt,↓Vc,↓yA (md:=[]) W rfl rfl,↓yA (md:=[]) Y rfl rfl,↓RG,↓MQ];have e:(#[(qG [SB (dA c 1 / 192+k)])]:Str)++sS (lH (dA c (k+2)) (QCf 7))=sS ([SB (dA c 1 / 192+k)]++lH (dA c (k+2)) 7):=UM _ _;rw[e,x];refine#[(),(),(oV (a:=[SB (dA c 1 / 192+k)]) (b:=lH (dA c (k+2)) 7) (P:=λ_=>True) (by rw[cC];show 1+7<=_;omega) trivial).1,(),(),by rw[yE,X];omega,r]
theorem Cw{ds:List D}{Q:T->Bool->Prop}(q:Q (.lst (ds.reverse.map T.d)) kf):gc (nA (.lst (ds.map T.d)) n).vw Q:=by rw[rD];exact#[_,ds,rfl,KA ds,q]
theorem R7(Y:Ψ.sp "_law_spelt"=MF)(f:Ψ.sp "_law_mixed"=OF)(w:Ψ.sp "_law_letters"=IJ):UD Ψ CK eI cQ EM:=by rintro _ Q _ ⟨c,m,rfl,B,q⟩;have W:=Y5 (dA c 1);have A:=Ol c 1;refine kA [bD (.int c),bD (.int (m:Int)),bD (.int 8),kv,kv,kv,kv,kv,kv,kv,kv,kv] ?_;delta CK;simp![↓yA (md:=[]) f rfl rfl,↓yA (md:=[]) w rfl rfl,↓RG,↓MQ];refine#[BS.ok (.inl #[(),()]),(),(),(),(),?_];rw[qa];refine LA (λ(i:Nat)=>T.d (.int (i:Int))) (λr u=>∃ws v o10 h,ws++r.map (λk=>sS (JO (BB c k)))=(Qo m).map (λk=>sS (JO (BB c k)))/\(∀k∈r,k<=100)/\u=U5 c m ws v o10 h) ?_ ?_ _ _ #[[],kv,kv,kv,rfl,λk hk=>by have:=qU.mp hk;omega,rfl];rintro u ⟨ws,v,o10,h,e,_,rfl⟩;rw[ww,qJ]at e;subst e;delta U5;unfold OE at q;simp![↓jA];by_cases y:dA c 1 / 5000 % 2=1;rw[a9 y]at q;rw[a9 (dT y)];show gc (nA (T.lst ((((Qo m).map λk=>sS (JO (BB c k))).map j0).map T.d)) kd).vw λz k=>KH z k=kf/\Q z [];refine Cw ?_;rw[<- W4];exact#[rfl,q];rw[a8 y]at q;rw[a8 λz=>y (ii z)];exact q;rintro k r u N X ⟨ws,v,o10,h,e,g,rfl⟩;have hl:=i3 qO e;rw[QI,QC,QC,Qw]at hl;delta U5;refine Iv Y f w (g k QD) () λo10 h=>X _ #[_,_,o10,h,?_,λx p=>g x (QE _ p),rfl];rw[Q8];exact e
def f7(x:Str)(m:Int):Str×Int×Int×Int:=(x,gI [99,50,20,99,0,50,99,21] (m / 6 % 8) 0,gI [0,0,0,20,50,99] (m % 6) 0,gI [1,1,1,2,2,3] (m / 48 % 6) 0)
def mW:PSp where
 run:=λh Q _=>∃(x:Str) (m:Int),h=[.d (.str x),.d (.int m)]/\Q (.d (TJ (f7 x m))) []
end
section
variable{a b c d e f g h:D}{n m:Bool}{t:T}{R:T->Prop}
theorem Sv:XA (.lst [.d a,.d b,.d c,.d d,.d e,.d f]) n t m R=XA (.lst ([a,b,c,d,e,f].map T.d)) n t m R:=rfl
theorem Rv:XA (.lst [.d a,.d b,.d c,.d d,.d e,.d f,.d g,.d h]) n t m R=XA (.lst ([a,b,c,d,e,f,g,h].map T.d)) n t m R:=rfl
end
section
variable{Ψ:PEv}{k j:Nat}{ms ns:LS}{m X i x:Int}{Z:PEnds}{s:Int×List Pt}{Y:Str}{n:Bool}{evs:List Evt}
theorem Nk:UD Ψ kI mW mO kL:=by rintro _ Q _ ⟨x,m,rfl,q⟩;have z:=VA m (show(0:Int)<6 by decide);have y:=VA (m / 6) (show(0:Int)<8 by decide);have h:=VA (m / 48) (show(0:Int)<6 by decide);refine kA [bD (.str x),bD (.int m),kv,kv] ?_;delta kI;simp_arith![↓Sv,↓Rv];refine#[(),uC (f:=j1) (l:=[0,0,0,20,50,99]) 0 z.1 z.2 ?_];refine#[(),uC (f:=j1) (l:=[99,50,20,99,0,50,99,21]) 0 y.1 y.2 ?_];refine#[(),uC (f:=j1) (l:=[1,1,1,2,2,3]) 0 h.1 h.2 ?_];exact#[(),q]
def zo(ms:LS)(m:Int)(j k:Nat):List Pt:=if m % 3=0 then[(gI ms (j:Int) "",gI ms (k:Int) "")] else if m % 3=1 then[(gI ms (k:Int) "",gI ms (j:Int) "")] else[]
def Cf(ms:LS)(j:Nat)(s:Int×List Pt)(k:Nat):Int×List Pt:=(s.1 / 3,s.2++zo ms (s.1 / 3) j k)
def Df(ms:LS)(s:Int×List Pt)(j:Nat):Int×List Pt:=(Qo j).foldl (Cf ms j) s
def ou(ms:LS)(m:Int):List Pt:=((Qo ms.9).foldl (Df ms) (m,[])).2
theorem IR{α:Type}{l:List α}{d:α}(h:k<l.9):uD l (k:Int)=jr (gI l (k:Int) d)/\gI l (k:Int) d∈l:=PD (QBz k) ()
def FV(ms:LS)(l:List Pt):Prop:=∀p∈l,p.1∈ms/\p.2∈ms
theorem Da(y:j<ms.9)(hk:k<ms.9):FV ms (zo ms m j k)/\(zo ms m j k).9<=1:=by
 have a:=(IR (d:=("":Str)) y).2;have b:=(IR (d:=("":Str)) hk).2;unfold zo;split;exact#[λp h=>by rw[QJ.mp h];exact#[a,b],QT _];split
 ·exact#[λp h=>by rw[QJ.mp h];exact#[b,a],QT _]
 exact#[λp h=>(by cases h),Qv _]
theorem gY{ms:LS}{j:Nat}(y:j<ms.9):∀(l:LN) (s:Int×List Pt),(∀k∈l,k<ms.9)->FV ms s.2->FV ms (l.foldl (Cf ms j) s).2/\(l.foldl (Cf ms j) s).2.length<=s.2.9+l.9
 |[],s,_,h=>#[h,QT _]|k::l,s,hl,h=>by let#[a,b]:=Da (m:=s.1 / 3) y (hl k QD);let#[c,d]:=gY y l (Cf ms j s k) (λx z=>hl x (QE _ z)) λp u=>(Qg.mp u).elim (h p) (a p);refine#[c,QV d ?_];show(s.2++zo ms (s.1 / 3) j k).9+l.9<=s.2.9+(l.9+1);rw[QI];omega
theorem Fa{ms:LS}(u:ms.9<=10):∀(l:LN) (s:Int×List Pt),(∀k∈l,k<ms.9)->FV ms s.2->FV ms (l.foldl (Df ms) s).2/\(l.foldl (Df ms) s).2.length<=s.2.9+10 * l.9
 |[],s,_,h=>#[h,QT _]|j::l,s,hl,h=>by have y:=hl j QD;let#[a,b]:=gY y (Qo j) s (λk hk=>wz (qU.mp hk) y) h;let#[c,d]:=Fa u l (Df ms s j) (λx z=>hl x (QE _ z)) a;rw[Qw]at b;refine#[c,QV d ?_];show((Qo j).foldl (Cf ms j) s).2.length+_<=s.2.9+10 * (l.9+1);omega
theorem vo(y:ms.9<=10)(m:Int):FV ms (ou ms m)/\(ou ms m).9<=100:=by
 let#[a,b]:=Fa y (Qo ms.9) (m,[]) (λk hk=>qU.mp hk) λp h=>by cases h
 rw[Qw]at b;exact#[a,QV b (by show 0+_<=_;omega)]
def CQ:PSp where
 run:=λh Q _=>∃(ms:LS) (m:Int),h=[.d (.list (ms.map j0)),.d (.int m)]/\ms.9<=10/\Q (.lst (((ou ms m).map pr).map T.d)) []
noncomputable def Ca(ms:LS)(s:Int×List Pt)(o3 o4:Option Sl):xA:=[bD (.list (ms.map j0)),bD (.int s.1),oW (.lst ((s.2.map pr).map T.d)),o3,o4]
theorem ny(w:j<ms.9)(hk:k<ms.9)(a:s.2.9<=1000)(q:Z.nx (Ca ms (Cf ms j s k) (bD (.int (j:Int))) (bD (.int (k:Int))))):pF Ψ nE Z (Ca ms s (bD (.int (j:Int))) (bD (.int (k:Int)))):=by
 have u:uD (ms.map j0) (k:Int)=jr (.str (gI ms (k:Int) "")):=by rw[JF,(IR (d:=("":Str)) hk).1];rfl
 have v:uD (ms.map j0) (j:Int)=jr (.str (gI ms (j:Int) "")):=by rw[JF,(IR (d:=("":Str)) w).1];rfl
 unfold Ca Cf zo at q;delta Ca;delta nE;simp![↓lY];by_cases y:s.1 / 3 % 3=0;rw[a9 y,QO,QO]at q;rw[a9 (dT y)];simp![u,v,QC];exact#[(),(),q];rw[a8 y]at q;rw[a8 λz=>y (ii z)];by_cases h:s.1 / 3 % 3=1;rw[a9 h,QO,QO]at q;rw[a9 (dT h)];simp![u,v,QC];exact#[(),(),q];rw[a8 h,qJ]at q;rw[a8 λz=>h (ii z)];exact q
theorem my{o4:Option Sl}(z:j<ms.9)(g:ms.9<=10)(f:FV ms s.2)(b:s.2.9<=100)(q:∀o4,Z.nx (Ca ms (Df ms s j) (bD (.int (j:Int))) o4)):pF Ψ mE Z (Ca ms s (bD (.int (j:Int))) o4):=by delta Ca;delta mE;simp![qa];refine#[(),(),?_];refine LA (λ(i:Nat)=>T.d (.int (i:Int))) (λr y=>∃h o4,r.foldl (Cf ms j) h=Df ms s j/\(h.2.9+r.9<=200/\∀k∈r,k<ms.9)/\y=Ca ms h (bD (.int (j:Int))) o4) ?_ ?_ _ _ #[s,o4,rfl,#[by rw[Qw];omega,λk hk=>wz (qU.mp hk) z],rfl];rintro y ⟨h,o4,e,_,rfl⟩;have e:h=Df ms s j:=e;subst e;delta Ca;simp![↓jA];exact q _;rintro k r y N a ⟨h,o4,e,⟨v,u⟩,rfl⟩;have v:h.2.9+(r.9+1)<=200:=v;have hk:=u k QD;refine ny z hk () (a _ #[_,_,e,#[?_,λx w=>u x (QE _ w)],rfl]);have:=(Da (ms:=ms) (m:=h.1 / 3) z hk).2;show(h.2++zo ms (h.1 / 3) j k).9+r.9<=200;rw[QI];omega
theorem Pd:UD Ψ aG CQ YL AI:=by rintro _ Q _ ⟨ms,m,rfl,W,q⟩;refine kA [bD (.list (ms.map j0)),bD (.int m),kv,kv,kv] ?_;delta aG;simp![QC,qa];refine#[(),(),(),?_];refine LA (λ(i:Nat)=>T.d (.int (i:Int))) (λr z=>∃h u y,r.foldl (Df ms) h=(Qo ms.9).foldl (Df ms) (m,[])/\(h.2.9+10 * r.9<=100/\FV ms h.2/\∀k∈r,k<ms.9)/\z=Ca ms h u y) ?_ ?_ _ _ #[(m,[]),kv,kv,rfl,#[by rw[Qw];show 0+_<=_;omega,(λp o=>by cases o),λk hk=>qU.mp hk],rfl];rintro z ⟨h,u,y,e,_,rfl⟩;have e:h.2=ou ms m:=i3 QCV e;delta Ca;simp![↓jA];rw[e];exact q;rintro j r z N K ⟨h,u,y,e,⟨g,f,w⟩,rfl⟩;have g:h.2.9+10 * (r.9+1)<=100:=g;have v:=w j QD;let#[a,b]:=gY v (Qo j) h (λk hk=>wz (qU.mp hk) v) f;rw[Qw]at b;refine my v W f () λy=>K _ #[_,_,y,e,#[?_,a,λx l=>w x (QE _ l)],rfl];show((Qo j).foldl (Cf ms j) h).2.length+10 * r.9<=100;omega
noncomputable def eg(Y:Str)(X:Int)(s:Str×LS):Evt->Str×LS
 | .see _ _ _ _=>s|.tell _ a b m _ _=>if b=s.1/\m=Y/\(s.2.9:Int)<X then(a,s.2++[a]) else s
theorem A6{s:Str×LS}{t:Int}{a b m w:Str}{q:LS}:eg Y X s (.tell t a b m w q)=if b=s.1/\m=Y/\(s.2.9:Int)<X then(a,s.2++[a]) else s:=rfl
def Nw(evs:List Evt)(x Y:Str)(X:Int):LS:=(evs.reverse.foldl (eg Y X) (x,[])).2
def pJ(evs:List Evt):T:=.lst ((evs.map CC).map T.d)
def YM:PSp where
 md:=[.shal]
 run:=λh Q _=>∃(evs:List Evt) (x Y:Str) (X:Int),h=[pJ evs,.d (.str x),.d (.str Y),.d (.int X)]/\evs.9<=1000/\Q (.d (.tuple ((Nw evs x Y X).map j0))) []
def Ho(evs:List Evt)(x Y:Str)(X:Int)(s:Str×LS)(o6:Option Sl):xA:=[jr (.bor (pJ evs)),bD (.str x),bD (.str Y),bD (.int X),oW (.lst ((s.2.map j0).map T.d)),bD (.str s.1),o6]
theorem Ng{ds:List D}{Q:T->Bool->Prop}:uM .tuple [(.lst (ds.map T.d),n)] Q=Q (.d (.tuple ds)) false:=by unfold uM CB;rw[rD];show uY .tuple [.ls (ds.map T.d)] Q=_;rw[Kh];exact ir #[λ#[_,e,q]=>by rw[KA]at e;cases e;exact q,λq=>#[_,KA _,q]]
theorem Ow{x:Str}{s:Str×LS}{e:Evt}(hl:s.2.9<=10000)(q:Z.nx (Ho evs x Y X (eg Y X s e) (bD (CC e)))):pF Ψ TD Z (Ho evs x Y X s (bD (CC e))):=by
 delta Ho;cases e with|see t p m v=>delta TD;simp![↓RV,T4];exact nK (show decide ((Qc "see")=(Qc "tell"))≠kf by decide) q|tell t a b m v w=>rw[A6]at q;delta TD;simp![↓RV,T4,↓n5,↓m5,↓c5,QC];by_cases u:b=s.1;rw[a9 (dT u)];by_cases y:m=Y;rw[a9 (dT y)];by_cases h:(s.2.9:Int)<X;rw[a9 #[u,y,h]]at q;unfold Ho at q;rw[QO,QO]at q;rw[a9 (dT h)];exact#[(),q];rw[a8 λz=>h z.2.2]at q;rw[a8 λz=>h (ii z)];exact q;rw[a8 λz=>y z.2.1]at q;rw[a8 λz=>y (ii z)];exact q;rw[a8 λz=>u z.1]at q;rw[a8 λz=>u (ii z)];exact q
theorem Zc(Y:Str)(X:Int)(s:Str×LS)(e:Evt):(eg Y X s e).2.length<=s.2.9+1:=by
 cases e with|see t p m h=>exact wI _|tell t a b m h q=>rw[A6];split;show(s.2++[a]).9<=_;rw[QI];exact QT _;exact wI _
theorem E7:UD Ψ GK YM gQ yN:=by rintro _ Q _ ⟨evs,x,Y,X,rfl,hl,q⟩;refine kA [jr (.bor (pJ evs)),bD (.str x),bD (.str Y),bD (.int X),kv,kv,kv] ?_;delta pJ;delta GK;simp![↓jA];refine#[(),?_];rw[<- W4,<- gA CC];refine LA (λe=>T.d (CC e)) (λr h=>∃s y,r.foldl (eg Y X) s=evs.reverse.foldl (eg Y X) (x,[])/\s.2.9+r.9<=1000/\h=Ho evs x Y X s y) ?_ ?_ _ _ #[(x,[]),kv,rfl,by rw[wf];show 0+_<=_;omega,rfl];rintro h ⟨s,y,e,_,rfl⟩;have e:s.2=Nw evs x Y X:=i3 QCV e;delta Ho;simp![↓Ng];rw[e];exact q;rintro ev r h N z ⟨s,y,e,g,rfl⟩;have g:s.2.9+(r.9+1)<=1000:=g;have:=Zc Y X s ev;exact Ow () (z _ #[_,_,e,(),rfl])
def Au(ns ms:LS):Evt->Prop
 | .see _ p m h=>p∈ns/\m∈ms/\OkS h|.tell _ a b m h q=>a∈ns/\b∈ns/\m∈ms/\a≠b/\OkS h/\∀x∈q,x∈ns
theorem E6{ns ms:LS}{Y:Str}{X:Int}:∀(l:List Evt) (s:Str×LS),(∀e∈l,Au ns ms e)->(∀x∈s.2,x∈ns)->∀x∈(l.foldl (eg Y X) s).2,x∈ns
 |[],s,_,h=>h|e::l,s,hl,h=>by
  refine E6 l (eg Y X s e) (λx y=>hl x (QE _ y)) λx y=>?_;have u:=hl e QD;cases e with
  |see t p m z=>exact h x y|tell t a b m z q =>
   rw[A6]at y;split at y;rcases Qg.mp y with y|y
   ·exact h x y
   rw[QJ.mp y];exact u.1;exact h x y
def GL(ns:LS)(r:Int):Int:=r % (ns.9:Int)
noncomputable def jd(ns:LS)(r:Int):Int:=(GL ns r+1+r / 360 % ((ns.9:Int) - 1)) % (ns.9:Int)
def cZ(ns:LS)(i:Int):Str:=gI ns i ""
def No(ms:LS)(r:Int):Str:=gI ms (r / 7 % (ms.9:Int)) ""
def nv(m:Int):Int:=gI [m / 3 % 5,m / 3 % 30,999999999 - m / 3 % 4] (m % 3) 0
def Fp(r:Int):Str:=sS (lH r (1+r / 11 % 8).toNat)
def Pw(evs:List Evt)(ns ms:LS)(r:Int):LS:=if r / 10000 % 5=0 then(Qo (1+r / 2500 % 3).toNat).map λ(k:Nat)=>cZ ns ((r / 50000+2 * (k:Int)) % (ns.9:Int)) else Nw evs (cZ ns (GL ns r)) (No ms r) (r / 2500 % 4)
def gt(evs:List Evt)(ns ms:LS)(m:Int):Evt:=if m / 40 / 90 % 4=0 then .see (nv m) (cZ ns (GL ns (m / 40))) (No ms (m / 40)) (Fp (m / 40)) else .tell (nv m) (cZ ns (GL ns (m / 40))) (cZ ns (jd ns (m / 40))) (No ms (m / 40)) (Fp (m / 40)) (Pw evs ns ms (m / 40))
structure NsB(ns ms:LS):Prop where
 n2:2<=ns.9
 nl:ns.9<=11
 nd:ns.Nodup
 m1:1<=ms.9
 ml:ms.9<=10
theorem bZ(y:0<=i)(h:i<ns.9):cZ ns i∈ns:=(PD y h).2
theorem nr(nd:ns.Nodup){j:Int}(w:0<=i)(z:i<ns.9)(y:0<=j)(h:j<ns.9)(l:i≠j):cZ ns i≠cZ ns j:=λe=>by let#[v,g,f]:=bM w z;let#[u,b,a]:=bM y h;unfold cZ gI at e;rw[g,b]at e;have e:v=u:=e;subst e;have:=(QCC (i:=i.toNat) () nd).mp (f.trans a.symm);omega
theorem U7(h:2<=ns.9)(r:Int):(0<=GL ns r/\GL ns r<ns.9)/\(0<=jd ns r/\jd ns r<ns.9)/\GL ns r≠jd ns r:=by
 have a:0<=GL ns r/\GL ns r<ns.length:=VA r ();have b:=VA (r / 360) (show(0:Int)<(ns.9:Int) - 1 by omega);have c:0<=jd ns r/\jd ns r<ns.length:=VA _ ();refine#[a,c,λe=>?_];unfold jd at e;generalize r / 360 % ((ns.9:Int) - 1)=y at *;generalize GL ns r=o at *;have d:(o+1+y) % (ns.9:Int)=o+1+y∨(o+1+y) % (ns.9:Int)=o+1+y - ns.length:=by by_cases z:o+1+y<ns.9;left;exact QAq () z;right;rw[<- Int.sub_emod_right];exact QAq () ()
 omega
theorem ut(hb:NsB ns ms)(w:∀e∈evs,Au ns ms e)(m:Int):Au ns ms (gt evs ns ms m):=by
 have v:=hb.n2;have f:=hb.m1;let#[a,b,c]:=U7 v (m / 40);have u:No ms (m / 40)∈ms:=by have:=VA (m / 40 / 7) (show(0:Int)<(ms.9:Int) by omega);exact(PD this.1 this.2).2
 have z:OkS (Fp (m / 40)):=Fg (zH _ _);unfold gt;split;exact#[bZ a.1 a.2,u,z];refine#[bZ a.1 a.2,bZ b.1 b.2,u,nr hb.nd a.1 a.2 b.1 b.2 c,z,?_];unfold Pw;split;intro x y;let#[k,_,rfl]:=QR.mp y;have:=VA (m / 40 / 50000+2 * (k:Int)) (show(0:Int)<(ns.9:Int) by omega);exact bZ this.1 this.2;exact E6 evs.reverse _ (λe h=>w e (QCU.mp h)) λx y=>by cases y
def BQ:PSp where
 md:=[.shal]
 run:=λh Q _=>∃(evs:List Evt) (ns ms:LS) (m:Int),h=[pJ evs,.d (.list (ns.map j0)),.d (.list (ms.map j0)),.d (.int m)]/\(evs.9<=1000/\NsB ns ms)/\Q (.d (CC (gt evs ns ms m))) []
theorem jx{a b c d e f g:D}:pD [.d a,.d b,.d c,.d d,.d e,.d f,.d g]=.d (.tuple [a,b,c,d,e,f,g]):=rfl
def cz(evs:List Evt)(ns ms:LS)(m:Int)(h o10:Option Sl):xA:=[jr (.bor (pJ evs)),bD (.list (ns.map j0)),bD (.list (ms.map j0)),bD (.int m),bD (.int (nv m)),bD (.int (m / 40)),bD (.int (GL ns (m / 40))),bD (.str (No ms (m / 40))),bD (.str (Fp (m / 40))),h,o10]
theorem jj{m:Bool}{R:T->Prop}(y:0<=i)(h:i<ns.9):XA (.d (.list (ns.map j0))) n (.d (.int i)) m R=R (.d (.str (cZ ns i))):=by rw[Cb,JF,(PD (d:=("":Str)) y h).1];exact zB
theorem Jt{Q:T->LT->Prop}{l:LS}(h:2<=ns.9)(q:Q (.d (CC (.tell (nv m) (cZ ns (GL ns (m / 40))) (cZ ns (jd ns (m / 40))) (No ms (m / 40)) (Fp (m / 40)) l))) []):pF Ψ oF (eZ Q) (cz evs ns ms m (bD (.int (jd ns (m / 40)))) (bD (.tuple (l.map j0)))):=by let#[a,b,c]:=U7 h (m / 40);delta cz;delta oF;simp![↓jj a.1 a.2,↓jj b.1 b.2,↓jx];exact#[(),q]
theorem Jl(r:Ψ.sp "_law_letters"=IJ)(p:Ψ.sp "_law_quote"=YM):UD Ψ LK BQ mQ kN:=by rintro _ Q _ ⟨evs,ns,ms,m,rfl,⟨hl,hb⟩,q⟩;have u:=hb.n2;have W:=hb.m1;let#[a,b,c]:=U7 u (m / 40);have e:=VA m (show(0:Int)<3 by decide);have B:=VA (m / 40 / 11) (show(0:Int)<8 by decide);have w:=VA (m / 40 / 7) (show(0:Int)<(ms.9:Int) by omega);refine kA [jr (.bor (pJ evs)),bD (.list (ns.map j0)),bD (.list (ms.map j0)),bD (.int m),kv,kv,kv,kv,kv,kv,kv] ?_;delta LK;simp_arith![QC,↓yA (md:=[]) r rfl rfl,↓MQ];refine#[(),uC (f:=j1) (l:=[m / 3 % 5,m / 3 % 30,999999999 - m / 3 % 4]) 0 e.1 e.2 ?_];refine#[(),(),uC (f:=j0) (l:=ms) "" w.1 w.2 #[(),(),?_]];unfold gt at q;by_cases y:m / 40 / 90 % 4=0;rw[a9 y]at q;rw[a9 (dT y)];exact uC (f:=j0) (l:=ns) "" a.1 a.2 #[(),q];rw[a8 y]at q;rw[a8 λz=>y (ii z)];refine#[(),(),?_];have g:0<=m / 40 % (ns.9:Int)/\m / 40 % (ns.9:Int)<ns.length:=a;delta pJ;simp_arith![↓yA (md:=[.shal]) p rfl rfl,↓jj g.1 g.2];refine#[_,_,_,_,rfl,hl,?_];unfold Pw at q;simp_arith![↓jA];by_cases h:m / 40 / 10000 % 5=0;rw[a9 h]at q;rw[a9 (dT h)];have A:=VA (m / 40 / 2500) (show(0:Int)<3 by decide);refine#[(),(),?_];refine IA (λ(i:Nat)=>T.d (.int (i:Int))) (λi=>T.d (.str (cZ ns ((m / 40 / 50000+2 * (i:Int)) % (ns.9:Int))))) _ [] _ (λi K R o=>?_) (by rw[Qw];show 0+_<=_;omega) ?_;have v:=VA (m / 40 / 50000+2 * (i:Int)) (show(0:Int)<(ns.9:Int) by omega);simp![QC];exact#[BS.ok (.inl #[by decide,by decide]),(),uC (f:=j0) (l:=ns) "" v.1 v.2 o];rw[Qf,gA λ(i:Nat)=>j0 (cZ ns ((m / 40 / 50000+2 * (i:Int)) % (ns.9:Int)))];simp![↓Ng];have q:=Jt (Ψ:=Ψ) (evs:=evs) u q;rw[QW]at q;exact q;rw[a8 h]at q;rw[a8 λz=>h (ii z)];exact Jt u q
def So(m:Int)(s:LJ)(p:Int×Nat):LJ:=s.set ((p.2:Int) % m).toNat (gI s ((p.2:Int) % m) 0+p.1)
noncomputable def Ro(m:Int)(cs:LJ):LJ:=(Qo (if(cs.9:Int)<m then(cs.9:Int) else m).toNat).map λ_=>0
def Fm(m:Int)(cs:LJ):LJ:=cs.zipIdx.foldl (So m) (Ro m cs)
theorem DZ(m:Int)(cs:LJ):(Ro m cs).9=(if(cs.9:Int)<m then(cs.9:Int) else m).toNat:=by unfold Ro;rw[QC,Qw]
theorem K9(m:Int):∀(l:List (Int×Nat)) (s:LJ),(l.foldl (So m) s).9=s.9
 |[],s=>rfl|p::l,s=>(K9 m l (So m s p)).trans wH
theorem FZ(cs:LJ)(h:0<m):(Fm m cs).9<=m.toNat:=by unfold Fm;rw[K9,DZ];split<;>omega
def jK:PSp where
 md:=[.shal]
 run:=λy Q _=>∃(h:LJ) (m:Int),y=[.lst ((h.map j1).map T.d),.d (.int m)]/\(0<m/\m<=100)/\Q (.lst (((Fm m h).map j1).map T.d)) []
noncomputable def Gm(cs:LJ)(m:Int)(s:LJ)(o3 o4:Option Sl):xA:=[jr (.bor (.lst ((cs.map j1).map T.d))),bD (.int m),oW (.lst ((s.map j1).map T.d)),o3,o4]
theorem Px{cs s:LJ}(h:0<m)(hk:(k:Int) % m<s.9)(q:Z.nx (Gm cs m (So m s (x,k)) (bD (.int (k:Int))) (bD (.int x)))):pF Ψ nF Z (Gm cs m s (bD (.int (k:Int))) (bD (.int x))):=by have y:=(VA (k:Int) h).1;unfold Gm So at q;rw[List.map_set]at q;delta Gm;delta nF;simp![↓jA];refine#[h,uC (f:=j1) (l:=s) 0 y hk ?_];simp![↓jA];exact#[h,iw y (by rw[QC];exact hk) q]
theorem A1:UD Ψ vI jK nO vL:=by
 rintro _ Q _ ⟨h,m,rfl,⟨a,C⟩,q⟩;refine kA [jr (.bor (.lst ((h.map j1).map T.d))),bD (.int m),kv,kv,kv] ?_;have g:=DZ m h;have w:0<=(if(h.9:Int)<m then(h.9:Int) else m)/\(if(h.9:Int)<m then(h.9:Int) else m)<=100:=by split<;>omega
 delta vI;simp![QC];refine#[QAV (by decide) w.1,Int.lt_of_le_of_lt w.2 (by decide),?_];refine IA (λ(i:Nat)=>T.d (.int (i:Int))) (λ_=>T.d (.int 0)) _ [] _ (λi A R l=>?_) (by rw[Qw];show 0+_<=_;omega) ?_;simp![↓jA];exact l;rw[Qf,gA λ(_:Nat)=>j1 0];have e:((Qo (if(h.9:Int)<m then(h.9:Int) else m).toNat).map λ_=>j1 0)=(Ro m h).map j1:=by unfold Ro;rw[QW];rfl
 rw[e,ZX];refine LA (Om j1) (λr y=>∃s u z,r.foldl (So m) s=Fm m h/\(s.9=(Ro m h).9/\∀p∈r,p.2<h.9)/\y=Gm h m s u z) ?_ ?_ _ _ #[_,kv,kv,rfl,#[rfl,λp v=>by let#[_,B,_]:=QBP v;omega],rfl];rintro y ⟨s,u,z,e,_,rfl⟩;have e:s=Fm m h:=e;subst e;delta Gm;simp![↓jA];exact q;rintro⟨x,k⟩ r y N o ⟨s,u,z,e,⟨f,b⟩,rfl⟩;have K:k<h.length:=b (x,k) QD;have W:=VA (k:Int) a;delta Gm Om;rw[aa,Z0];refine Px a ?_ (o _ #[_,_,_,e,#[wH.trans f,λp v=>b p (QE _ v)],rfl]);show(k:Int) % m<(s.9:Int);rw[f,g];by_cases c:(h.9:Int)<m;rw[a9 c,QAq () ()];omega;rw[a8 c];omega
def iP(h:LJ):LS:=OE (MA h 0) (2+dA (MA h 0) 1 % 5).toNat
def x3(h:LJ):LS:=OE (MA h 1) (1+dA (MA h 1) 2 % 3).toNat
def db(c:Int)(ns:LS):List (Str×Int×Int×Int):=ns.zipIdx.map λp=>f7 p.1 (dA c (10+(p.2:Int)))
def Lm(ns ms:LS)(evs:List Evt)(p:Int×Nat):List Evt:=evs++[gt evs ns ms (dA p.1 ((p.2:Int)+3))]
def Uv(h:LJ)(ns ms:LS):List Evt:=(Fm 18 (eJ h (jr 2) kv)).zipIdx.foldl (Lm ns ms) []
def wF(h:LJ):Wd:=#[db (MA h 0) (iP h),x3 h,ou (x3 h) (dA (MA h 1) 2 / 3),Uv h (iP h) (x3 h)]
theorem dh{ns ms:LS}(hb:NsB ns ms):∀(l:List (Int×Nat)) (evs:List Evt),(∀e∈evs,Au ns ms e)->(∀e∈l.foldl (Lm ns ms) evs,Au ns ms e)/\(l.foldl (Lm ns ms) evs).9=evs.9+l.9
 |[],evs,h=>#[h,rfl]|p::l,evs,h=>by
  let#[a,b]:=dh hb l (Lm ns ms evs p) λe y=>by rcases Qg.mp y with y|y;exact h e y;rw[QJ.mp y];exact ut hb h _
  refine#[a,b.trans ?_];show(evs++[_]).9+l.9=evs.9+(l.9+1);rw[QI];show evs.9+1+l.9=_;omega
theorem SM(c:Int)(ns:LS):((db c ns).map λp=>p.1)=ns:=by unfold db;rw[QW];exact List.zipIdx_map_fst 0 ns
theorem sv(h:LJ):NsB (iP h) (x3 h)/\(∀x∈iP h,OkS x)/\(∀x∈x3 h,OkS x)/\(x3 h).Nodup:=by have a:=VA (dA (MA h 0) 1) (show(0:Int)<5 by decide);have b:=VA (dA (MA h 1) 2) (show(0:Int)<3 by decide);let#[v,y,u]:=RS (MA h 0) (m:=(2+dA (MA h 0) 1 % 5).toNat) ();let#[e,z,w]:=RS (MA h 1) (m:=(1+dA (MA h 1) 2 % 3).toNat) ();have y:(iP h).9=_:=y;have z:(x3 h).9=_:=z;exact#[#[(),(),v,(),()],u,w,e]
theorem K5(h:LJ):WOk (wF h):=by
 let#[hb,W,f,K]:=sv h;let#[l,C]:=vo hb.ml (dA (MA h 1) 2 / 3);let#[B,g]:=dh hb (Fm 18 (eJ h (jr 2) kv)).zipIdx [] λ_ z=>by cases z
 have v:=SM (MA h 0) (iP h);have r:=i3 qO v;have y:∀x∈iP h,Xi (wF h) x:=λx w=>by rw[<- v]at w;let#[p,u,e]:=QR.mp w;exact#[p,u,e]
 rw[QC]at r;rw[QAW]at g;have fl:=FZ (eJ h (jr 2) kv) (show(0:Int)<18 by decide);refine#[λp u=>#[f _ (l p u).1,f _ (l p u).2],C,by show(db _ _).9<=11;have:=hb.nl;omega,by show((db _ _).map _).Nodup;rw[v];exact hb.nd,λp u=>W _ ?_,hb.ml,f,K,?_,λe A=>?_];rw[<- v];exact QR.mpr #[p,u,rfl];show(Uv h (iP h) (x3 h)).9<=60;exact QV (wy g) (by show 0+_<=60;omega);have:=B e A;cases e with|see t p m o=>exact#[y _ this.1,this.2]|tell t a b m o q=>exact#[y _ this.1,y _ this.2.1,this.2.2.1,this.2.2.2.1,this.2.2.2.2.1,λx w=>y x (this.2.2.2.2.2 x w)]
theorem CM{c:Int}{K:T->LT->Prop}{E:XE}(y:0<=m)(h:m<=10)(q:K (.lst (((OE c m.toNat).map j0).map T.d)) []):DM eI [.d (.int c),.d (.int m),.d (.int 8)] K E:=by let#[k,rfl]:=Int.eq_ofNat_of_zero_le y;exact#[_,_,rfl,(),q]
def jw(w:Wd):T:=.tup [.d (.list (w.ps.map TJ)),.d (.list (w.ms.map j0)),.lst ((w.ag.map pr).map T.d),.d (.list (w.es.map CC))]
theorem NN(ds:List D):(T.lst (ds.map T.d)).er=.list ds:=by show PyData.list (ersT (ds.map T.d))=_;rw[vB]
theorem Yt(w:Wd):(jw w).er=wD w:=by show PyData.tuple [.list (w.ps.map TJ),.list (w.ms.map j0),(T.lst _).er,.list (w.es.map CC)]=_;rw[NN];rfl
theorem Fy{E:XE}{r:PT}{i:Nat}{ρ:xA}{w:Wd}:UI Ψ E r Z i (jw w) kf ρ=iB Ψ E r Z (ρ.set i (bD (wD w))):=by unfold UI;rw[Yt];exact ir #[λh=>h.2,λh=>#[rfl,h]]
def iM:PSp where
 md:=[.shal]
 run:=λy Q _=>∃h:LJ,y=[.lst ((h.map j1).map T.d)]/\Q (jw (wF h)) []
def yj(y:LJ)(f s:Int)(ns ms:LS)(h:List (Str×Int×Int×Int))(o6 o7 o8:Option Sl):xA:=[jr (.bor (.lst ((y.map j1).map T.d))),bD (.int f),bD (.int s),bD (.list (ns.map j0)),bD (.list (ms.map j0)),bD (.list (h.map TJ)),o6,o7,o8]
theorem Av(u:Ψ.sp "_law_mixed"=OF)(z:Ψ.sp "_law_event"=BQ){y:LJ}{f s:Int}{h:List (Str×Int×Int×Int)}(hb:NsB ns ms)(hk:k<=100)(v:evs.9<=900)(q:Z.nx (yj y f s ns ms h (oW (pJ (Lm ns ms evs (x,k)))) (bD (.int (k:Int))) (bD (.int x)))):pF Ψ oG Z (yj y f s ns ms h (oW (pJ evs)) (bD (.int (k:Int))) (bD (.int x))):=by unfold yj pJ Lm at q;rw[QO,QO]at q;delta yj pJ;delta oG;simp![↓yA (md:=[]) u rfl rfl,↓yA (md:=[.shal]) z rfl rfl,↓RG];refine#[(),(),#[_,_,_,_,rfl,#[(),hb],?_]];simp![QC];exact#[(),q]
theorem Lr{a b c:D}{l:LT}:pD [.d a,.d b,.lst l,.d c]=.tup [.d a,.d b,.lst l,.d c]:=rfl
theorem P7(g:Ψ.sp "_law_mixed"=OF)(f:Ψ.sp "_law_cell_at"=KI)(l:Ψ.sp "_law_words"=eI)(I:Ψ.sp "_law_person"=mW)(G:Ψ.sp "_law_folded"=jK)(F:Ψ.sp "_law_event"=BQ)(E:Ψ.sp "_law_against"=CQ):UD Ψ BK iM bQ AM:=by
 rintro _ Q _ ⟨h,rfl,q⟩;have a:=VA (dA (MA h 0) 1) (show(0:Int)<5 by decide);have b:=VA (dA (MA h 1) 2) (show(0:Int)<3 by decide);let#[hb,_]:=sv h;have J:=hb.nl;have A:=hb.ml;refine kA [jr (.bor (.lst ((h.map j1).map T.d))),kv,kv,kv,kv,kv,kv,kv,kv] ?_;delta BK;simp![↓yA (md:=[]) g rfl rfl,↓yA (md:=[.shal]) f rfl rfl,↓yA (md:=[]) l rfl rfl,↓RG,↓CI];refine CM () () ?_;simp![↓yA (md:=[.shal]) f rfl rfl,↓yA (md:=[]) l rfl rfl,↓CI];refine CM () () ?_;simp![↓jA];show RC _ ((((iP h).map j0).zipIdx.map λp=>T.d (.tuple [.int (p.2:Int),p.1]))) [] _;rw[ZX];have K:=i3 qO (SM (MA h 0) (iP h));rw[QC]at K;refine IA (Om j0) (λp=>T.d (TJ (f7 p.1 (dA (MA h 0) (10+(p.2:Int)))))) (iP h).zipIdx [] _ (λp y R B=>?_) (by rw[QAW];show 0+_<=_;omega) ?_;let#[x,k]:=p;let#[_,w,_]:=QBP y;delta Om;simp![↓yA (md:=[]) g rfl rfl,↓yA (md:=[.shal]) f rfl rfl,↓yA (md:=[]) I rfl rfl,↓RG,↓CI];refine#[(),(),#[_,_,rfl,?_]];simp![↓jA];exact B;rw[Qf,gA λp:Str×Nat=>TJ (f7 p.1 (dA (MA h 0) (10+(p.2:Int))))];have e:((iP h).zipIdx.map λp=>TJ (f7 p.1 (dA (MA h 0) (10+(p.2:Int)))))=(db (MA h 0) (iP h)).map TJ:=by unfold db;rw[QW];rfl
 rw[e];simp![↓yA (md:=[.shal]) G rfl rfl,PZ];refine#[(),#[_,_,rfl,by decide,?_]];have fl:=FZ (eJ h (jr 2) kv) (show(0:Int)<18 by decide);simp![↓jA];rw[ZX];refine LA (Om j1) (λr z=>∃evs v u,r.foldl (Lm (iP h) (x3 h)) evs=Uv h (iP h) (x3 h)/\(evs.9+r.9<=100/\∀p∈r,p.2<=100)/\z=yj h (dA (MA h 0) 1) (dA (MA h 1) 2) (iP h) (x3 h) (db (MA h 0) (iP h)) (jr (.own (pJ evs))) v u) ?_ ?_ _ _ #[[],kv,kv,rfl,#[by rw[QAW];show 0+_<=_;omega,λp y=>by let#[_,w,_]:=QBP y;omega],rfl];rintro z ⟨evs,v,u,e,_,rfl⟩;have e:evs=Uv h (iP h) (x3 h):=e;subst e;delta yj pJ;simp![↓yA (md:=[]) E rfl rfl];rw[NN];refine#[_,_,rfl,A,?_];simp![↓Lr];exact#[(),q];rintro⟨x,k⟩ r z N C ⟨evs,v,u,e,⟨W,o⟩,rfl⟩;have W:evs.9+(r.9+1)<=100:=W;delta yj Om;rw[aa,Z0];refine Av g F hb (o (x,k) QD) () (C _ #[_,_,_,e,#[?_,λp y=>o p (QE _ y)],rfl]);show(evs++[_]).9+r.9<=100;rw[QI];show evs.9+1+r.9<=100;omega
theorem Hm(es:List Evt):(Qo es.9).map (pA es)=es:=by apply qX;intro i;rw[Qa];by_cases h:i<es.9;rw[ql h];show jr ((es[i]?).getD _)=_;rw[Qh h];rfl;rw[Qk (by rw[Qw];omega),Qk ()];rfl
theorem Us(es:List Evt)(t:Int):(kpL es t).map (pA es)=es.filter λe=>decide (EJ e<=t):=by
 have e:es.filter (λe=>decide (EJ e<=t))=((Qo es.9).map (pA es)).filter λe=>decide (EJ e<=t):=by rw[Hm]
 rw[e,QAM];rfl
def Ap(w:Wd):T:=.tup [.lst ((w.ps.map TJ).map T.d),.lst ((w.ms.map j0).map T.d),.lst ((w.ag.map pr).map T.d),.d (.list (w.es.map CC))]
theorem Zt(w:Wd):(Ap w).er=wD w:=by show PyData.tuple [(T.lst _).er,(T.lst _).er,(T.lst _).er,.list (w.es.map CC)]=_;rw[NN,NN,NN];rfl
def iI:PSp where
 run:=λh Q _=>∃(w:Wd) (t:Int),h=[.d (wD w),.d (.int t)]/\WOk w/\Q (Ap (wT w t)) []
theorem Mr{a b c:LT}{d:D}:pD [.lst a,.lst b,.lst c,.d d]=.tup [.lst a,.lst b,.lst c,.d d]:=rfl
theorem S7:UD Ψ bF iI UJ sH:=by rintro _ Q _ ⟨w,t,rfl,y,q⟩;have u:=y.el;refine kA [bD (wD w),bD (.int t),kv] ?_;delta bF;simp![↓BL];rw[<- gA CC];refine fA (λe=>T.d (CC e)) (λe=>T.d (CC e)) (λe=>decide (EJ e<=t)) w.es [] _ (λe z R h=>?_) (by show 0+w.es.9<=_;omega) ?_;simp![↓Bb];split at h;rename_i c;rw[a9 c];exact h;rename_i c;rw[a8 c];exact h;rw[Qf,gA CC,<- Us];simp![↓PV,↓u5,↓jp,↓Mr];exact#[(),q]
def DI(r:Rw):D:=.tuple [.str r.1,.list (r.2.map NC)]
noncomputable def Ao(y:Str×LS):D:=.tuple [.str y.1,.list (y.2.map j0)]
theorem fc(h:List Rw):ersT (h.map PF)=h.map DI:=by rw[rJ,QW];congr 1;funext r;show PyData.tuple [.str r.1,.list (ersT ((r.2.map NC).map T.d))]=_;rw[vB];rfl
end
section
variable{Ψ:PEv}{E:XE}{ρ:xA}{r:PT}{Z:PEnds}{i:Nat}{n:Bool}{md:List Md}{xs:List (T×Bool)}{C:LT->Prop}{ds:List D}
theorem Jo{x:List Rw}:UI Ψ E r Z i (.lst (x.map PF)) kf ρ=iB Ψ E r Z (ρ.set i (bD (.list (x.map DI)))):=by
 have e:(T.lst (x.map PF)).er=.list (x.map DI):=by show PyData.list (ersT (x.map PF))=_;rw[fc]
 unfold UI;rw[e];exact ir #[λh=>h.2,λh=>#[rfl,h]]
theorem Vy:DA (.shal::md) ((.d (.list ds),n)::xs) C=DA md xs λts=>C (.lst (ds.map T.d)::ts):=az (by rw[rA];simp only[rE,T.vw,KA,Q1])
theorem Sr{d:D}{ts:LT}:pD [.d d,.lst ts]=.tup [.d d,.lst ts]:=rfl
end
def yb(es:rC)(sr F:LS)(x:Str)(y:Str×LS):Prop:=y.1=x/\∃h,Good (RU es F) sr x h y.2
noncomputable def X7(nd:List (Str×Int))(F:LS):LS:=(nd.filter λp=>!decide (p.1∈F)).map λp=>p.1
def r6:PSp where
 run:=λv Q _=>∃(y:rC) (h:LS) (nd:List (Str×Int)),v=[.d (.tuple (y.map pr)),.d (.tuple (h.map j0)),.d (.list (nd.map HL))]/\(y.9<=126/\h.9<=11/\VG y h/\nd.9<=90/\(nd.map λp=>p.1).Nodup)/\∀u F z,GI y h nd u F->(∀x,x∈F↔Held y h nd x)->x0 (yb y h F) (X7 nd F) z->Q (.tup [.d (.list (u.map DI)),.lst ((z.map Ao).map T.d)]) []
noncomputable def Jb(es:rC)(sr:LS)(nd:List (Str×Int))(h:List Rw)(o4 o5:Option Sl):xA:=[bD (.tuple (es.map pr)),bD (.tuple (sr.map j0)),bD (.list (nd.map HL)),bD (.list (h.map DI)),o4,o5]
section
variable{Ψ:PEv}{Z:PEnds}{es:rC}{sr:LS}{nd:List (Str×Int)}{h:List Rw}{F:LS}{q:PT}{o4 o5:Option Sl}
theorem Ix(hl:h.9<=100)(k:pF Ψ q Z (Jb es sr nd h (bD (.list ((h.map λr=>r.1).map j0))) o5)) :
  pF Ψ (.seq (.set 4 (.comp [] ["name","chains"] (.tp [0,1]) .val %[.var 3|1] .nop (.var 0))) q) Z (Jb es sr nd h o4 o5):=by
 delta Jb at k ⊢;simp![↓jA];rw[<- gA DI h];refine IA (λr=>T.d (DI r)) (λr=>T.d (.str r.1)) h [] _ (λx z R y=>?_) (by show 0+h.9<=_;omega) ?_;delta DI;simp![↓jA];exact y;rw[Qf,gA (λr:Rw=>j0 r.1),show(h.map λr=>j0 r.1)=(h.map λr=>r.1).map j0 by rw[QW];rfl];simp![↓jA];exact k
theorem Ex(hl:nd.9<=100)(k:pF Ψ q Z (Jb es sr nd h (bD (.list (F.map j0))) (bD (.list ((X7 nd F).map j0))))) :
  pF Ψ (.seq (.set 5 (.comp [] ["name","number"] (.tp [0,1]) .val %[.var 2|1] (.cmp .NotIn (.var 0) (.var 6)) (.var 0))) q) Z (Jb es sr nd h (bD (.list (F.map j0))) o5):=by
 delta Jb at k ⊢;simp![↓jA];rw[<- gA HL nd];refine fA (λp=>T.d (HL p)) (λ(p:Str×Int)=>T.d (.str p.1)) (λp=>!decide (p.1∈F)) nd [] _ (λx z R y=>?_) (by show 0+nd.9<=_;omega) ?_;let#[x,n]:=x;delta HL;simp![↓Gf,bH,VE,aB,true_or];by_cases d:x∈F;rw[dT d]at y ⊢;exact y;rw[dF d]at y ⊢;exact y;rw[Qf,gA (λp:Str×Int=>j0 p.1),show((nd.filter λp=>!decide (p.1∈F)).map λp=>j0 p.1)=(X7 nd F).map j0 by unfold X7;rw[QW];rfl];simp![↓jA];exact k
theorem Ax(f:Ψ.sp "told_through"=RE){Q:T->LT->Prop}{z:LS}(w:es.9<=126)(v:sr.9<=11)(b:VG es sr)(hl:z.9<=100)(k:∀u,x0 (yb es sr F) z u->Q (.tup [.d (.list (h.map DI)),.lst ((u.map Ao).map T.d)]) []) :
  pF Ψ %[.ret (.tup %[.var 3,.comp [] ["name"] (.nm 0) .val %[.var 5|1] .nop (.tup %[.var 0,.idx (.call "told_through" %[.var 1,.var 2,.var 5,.var 0|1]) (.int 1)|1])|1])|2] (eZ Q) (Jb es sr nd h (bD (.list (F.map j0))) (bD (.list (z.map j0)))):=by
 delta Jb;simp![↓jA];rw[<- gA j0 z];refine aK (yb es sr F) (λs=>T.d (.str s)) (λy=>T.d (Ao y)) z [] _ (λx j R e=>?_) (by show 0+z.9<=_;omega) λu a=>?_;simp![↓lB,↓d0,↓Vy,↓yA (md:=[.fro,.fro,.shal]) f rfl rfl];refine#[_,_,_,_,rfl,#[w,v,b],λi cut g=>?_];simp![↓zp,↓lu];exact#[(),e (x,cut) #[rfl,i,g]];rw[Qf,gA Ao u];simp![↓Sr];exact#[(),k u a]
theorem jy(z:Ψ.sp "ground_alone"=pE)(l:es.9<=126/\sr.9<=11/\VG es sr/\nd.9<=90/\(nd.map λp=>p.1).Nodup)(k:∀h F,GI es sr nd h F->(∀x,x∈F↔Held es sr nd x)->pF Ψ q Z (Jb es sr nd h o4 o5)) :
  pF Ψ (.seq (.set 3 (.call "ground_alone" %[.var 0,.var 1,.var 2|1])) q) Z [bD (.tuple (es.map pr)),bD (.tuple (sr.map j0)),bD (.list (nd.map HL)),kv,o4,o5]:=by
 delta Jb at k;simp![↓yA (md:=[]) z rfl rfl];refine lP l λh F g y=>?_;simp![↓Jo];exact k h F g y
end
section
variable{Ψ:PEv}{xs:List (T×Bool)}{C:LT->Prop}{st:List Stp}{w:Wd}{t:Int}{m x:Str}{ns X v:LN}{L:Bool->Prop}{l:LS}
theorem gr(j:Ψ.sp "ground_alone"=pE)(i:Ψ.sp "told_through"=RE):UD Ψ JG r6 VL jJ:=by rintro _ Q _ ⟨n,y,nd,rfl,l,q⟩;refine kA [bD (.tuple (n.map pr)),bD (.tuple (y.map j0)),bD (.list (nd.map HL)),kv,kv,kv] ?_;delta JG;refine jy j l λz F g f=>?_;let#[k,u,b,o,_]:=l;have r:=g.len;have p:=g.rlen;refine Ix () ?_;rw[<- g.e];refine Ex () (Ax i k u b ?_ λh a=>q z F h g f a);unfold X7;rw[QC];exact QV (Qs _ _) ()
def JQ:PSp where
 run:=λh Q _=>∃(w:Wd) (st:List Stp),h=[.d (dU w st)]/\st.9<=60/\Q (.lst (((st.map λs=>s.1).map nD).map T.d)) []
theorem Dd:UD Ψ ZK JQ xQ RM:=by rintro _ Q _ ⟨w,st,rfl,hl,q⟩;refine kA [bD (dU w st)] ?_;delta ZK;simp![↓i5];rw[<- gA SJ];refine IA (λs=>T.d (SJ s)) (λs=>T.d (nD s.1)) st [] _ (λs y R h=>?_) (by show 0+_<=_;omega) ?_;simp![↓bp];exact h;rw[Qf,gA λs:Stp=>nD s.1];rw[show(st.map λs=>nD s.1)=(st.map λs=>s.1).map nD by rw[QW];rfl];exact q
def Lu(st:List Stp)(t:T):Prop:=(st=[]/\t=.lst [])∨t=.d (.list ((ae st).map nD))
def nW:PSp where
 run:=λh Q _=>∃(w:Wd) (st:List Stp),h=[.d (dU w st)]/\∀t,Lu st t->Q t []
theorem Tk:UD Ψ UK nW uQ TM:=by
 rintro _ Q _ ⟨w,st,rfl,y⟩;refine kA [bD (dU w st)] ?_;delta UK;simp![↓Zu,↓i5,QC];rcases cW st with rfl|⟨l,s,rfl⟩
 refine nK (show decide (((qO ([]:List Stp):Nat):Int) > 0)≠kf by decide) ?_;exact#[(),y _ (.inl #[rfl,rfl])];have h:=y _ (.inr rfl);rw[UR]at h;refine aZ (dT (by rw[QI];show(0:Int)<((l.9+1:Nat):Int);omega)) ?_;rw[QO,show uD (l.map SJ++[s].map SJ) (-1)=jr (SJ s) from Xf _ _,zB];simp![↓Hv];exact h
structure MoO(w:Wd)(st:List Stp):Prop where
 wo:WOk w
 l:st.9<=60
 s:∀s∈st,StK w s
def gW:PSp where
 run:=λh Q _=>∃(w:Wd) (st:List Stp),h=[.d (dU w st)]/\MoO w st/\Q (lI (yB w.es (st.map λs=>s.1))) []
theorem Hk(k:Ψ.sp "past_in"=JQ)(u:Ψ.sp "seen_among"=JI):UD Ψ JK gW kQ OM:=by rintro _ Q _ ⟨w,st,rfl,y,q⟩;have hl:=y.l;refine kA [bD (dU w st)] ?_;delta JK;simp![↓NS,↓BL,↓yA (md:=[]) k rfl rfl,↓yA (md:=[.fro,.shal]) u rfl rfl,↓lB,↓d0];refine#[_,_,rfl,hl,?_];simp![↓lB,↓d0];refine#[_,_,rfl,(by rw[QC];omega),(λn z=>?_),#[rfl,q]];let#[s,h,rfl]:=QR.mp z;exact(y.s s h).n
def D9(w:Wd)(st:List Stp)(m:Str):List Pt:=BE w.es (ae st) m
def f6(w:Wd)(st:List Stp)(m:Str):LS:=HF w (yB w.es (st.map λs=>s.1)) m
theorem Bu{md:List Md}{ks:List Pt}:DA (.bor::md) ((lI ks,kf)::xs) C=DA md xs λts=>C (.d (lI ks).er::ts):=by have e:sA (.bor::md) ((lI ks,kf)::xs) []=(sA md xs []).map (.d (lI ks).er::·):=rfl;unfold DA;rw[e,GC]
theorem Cu{t:T}(h:Lu st t):DA [] ((t,kf)::xs) C=DA [] xs λts=>C (.d (.list ((ae st).map nD))::ts):=by
 have e:sA [] ((t,kf)::xs) []=(sA [] xs []).map (.d (.list ((ae st).map nD))::·):=by rcases h with⟨rfl,rfl⟩| rfl<;>rfl
 unfold DA;rw[e,GC]
def dW:PSp where
 run:=λh Q _=>∃(w:Wd) (st:List Stp) (m:Str),h=[.d (dU w st),.d (.str m)]/\MoO w st/\Q (.d (ID (D9 w st m) (f6 w st m))) []
theorem Bk(a:Ψ.sp "seers_of"=JM)(k:Ψ.sp "seen_in"=gW)(z:Ψ.sp "edges_of"=KM)(y:Ψ.sp "live_in"=nW):UD Ψ zO dW XV rP:=by rintro _ Q _ ⟨w,st,m,rfl,h,q⟩;have b:=h.wo.pl;have v:=F8 h.s;refine kA [bD (dU w st),bD (.str m)] ?_;delta zO;simp![↓NS,↓BL,↓yA (md:=[.fro,.bor]) a rfl rfl,↓yA (md:=[]) k rfl rfl,↓yA (md:=[]) z rfl rfl,↓yA (md:=[]) y rfl rfl,↓lB,↓d0];refine#[_,_,rfl,h,?_];simp![↓lB,↓d0,↓Bu];refine#[w,_,_,m,rfl,#[Hs _,()],?_];simp![↓NS,↓BL,↓yA (md:=[]) z rfl rfl,↓yA (md:=[]) y rfl rfl];refine#[_,_,rfl,λt u=>?_];simp![↓Cu u];refine#[_,_,_,rfl,v.1,v.2,?_];simp![↓jA];exact#[(),q]
def pW:PSp where
 run:=λz Q _=>∃(w:Wd) (st:List Stp) (m:Str),z=[.d (dU w st),.d (.str m)]/\MoO w st/\∀h F (y:List (Str×LS)),GI (D9 w st m) (f6 w st m) (mD w) h F->(∀x,x∈F↔Held (D9 w st m) (f6 w st m) (mD w) x)->Q (.tup [.d (.list (h.map DI)),.lst ((y.map Ao).map T.d)]) []
theorem Fn(h:MoO w st)(m:Str):(D9 w st m).9<=126/\(f6 w st m).9<=11/\VG (D9 w st m) (f6 w st m)/\(mD w).9<=90/\((mD w).map λp=>p.1).Nodup:=by have v:=F8 h.s;have k:=h.wo.pl;have u:=d6 w (yB w.es (st.map λs=>s.1)) m;have z:=M9 w.es (ae st) m;have y:=v.1;refine#[by unfold D9;omega,by unfold f6;omega,X5 h.wo v m,by unfold mD;rw[QC];omega,?_];unfold mD;rw[QW];exact h.wo.pn
theorem il(e:Ψ.sp "web_of"=dW)(k:Ψ.sp "ground_by"=r6)(u:Ψ.sp "needs_of"=YQ):UD Ψ iG pW KL II:=by rintro _ Q _ ⟨w,st,m,rfl,h,q⟩;have f:=h.wo.pl;refine kA [bD (dU w st),bD (.str m),kv] ?_;delta iG;simp![↓yA (md:=[]) e rfl rfl];refine#[_,_,_,rfl,h,?_];simp![↓NS,↓Kp,↓Zp,↓yA (md:=[]) k rfl rfl,↓yA (md:=[]) u rfl rfl];refine#[_,rfl,(),?_];simp![↓jA];refine#[_,_,_,rfl,(Fn h m),λz F y a b _=>?_];simp![↓jA];exact q z F y a b
def XQ:PSp where
 run:=λz Q _=>∃(w:Wd) (m:Str),z=[.d (wD w),.d (.str m)]/\WOk w/\∀ns st h F (y:List (Str×LS)),BD w ns->st=(FA w ns).steps->GI (D9 w st m) (f6 w st m) (mD w) h F->(∀x,x∈F↔Held (D9 w st m) (f6 w st m) (mD w) x)->Q (.tup [.d (.list (h.map DI)),.lst ((y.map Ao).map T.d)]) []
theorem ul(e:Ψ.sp "ground_in"=pW)(k:Ψ.sp "last_moment"=ZQ):UD Ψ eG XQ ZL EI:=by rintro _ Q _ ⟨w,m,rfl,h,q⟩;refine kA [bD (wD w),bD (.str m)] ?_;delta eG;simp![↓yA (md:=[]) e rfl rfl,↓yA (md:=[]) k rfl rfl];refine#[_,rfl,h,λns y=>?_];let#[_,g,f]:=CN h y;simp![↓Uu];refine#[_,_,_,rfl,#[h,g,f],λu F z a b=>?_];simp![↓jA];exact q ns _ u F z y rfl a b
noncomputable def FS(m:Str)(l:List Pt):LS:=(l.filter λp=>decide (p.2=m)).map λp=>p.1
def iO(w:Wd)(t:Int)(m:Str)(f:LS)(s:Stp):LS:=if EJ (pA w.es s.1)<=t then FS m s.2.2.2 else f
def jAE(w:Wd)(st:List Stp):Prop:=∀s∈st,s.1<w.es.9/\s.2.2.2.9<=1000
def VQ:PSp where
 run:=λh Q _=>∃(w:Wd) (st:List Stp) (t:Int) (m:Str),h=[.d (wD w),.d (.list (st.map SJ)),.d (.int t),.d (.str m)]/\jAE w st/\Q (.lst (((st.foldl (iO w t m) []).map j0).map T.d)) []
def Ts(w:Wd)(st:List Stp)(t:Int)(m:Str)(f:LS)(o5:Option Sl):xA:=[bD (wD w),bD (.list (st.map SJ)),bD (.int t),bD (.str m),oW (.lst ((f.map j0).map T.d)),o5]
theorem ox{Z:PEnds}{f:LS}{s:Stp}(h:s.1<w.es.9/\s.2.2.2.9<=1000)(q:Z.nx (Ts w st t m (iO w t m f s) (bD (SJ s)))):pF Ψ lE Z (Ts w st t m f (bD (SJ s))):=by
 let#[z,k]:=h;unfold iO at q;delta Ts at q ⊢;delta lE;simp![↓BL,↓bp,↓pQ z,↓Bb,↓xp];by_cases c:EJ (pA w.es s.1)<=t;rw[a9 c]at q;rw[dT c];simp![↓xp];rw[<- gA pr];refine fA (λp=>T.d (pr p)) (λ(p:Pt)=>T.d (.str p.1)) (λp=>decide (p.2=m)) s.2.2.2 [] _ (λp u R y=>?_) (by show 0+_<=_;omega) ?_;let#[a,b]:=p;refine Eq.mpr Gf ?_;simp![↓jA];split at y;rename_i c;rw[a9 c];exact y;rename_i c;rw[a8 c];exact y;rw[Qf,gA λp:Pt=>j0 p.1];have e:((s.2.2.2.filter λp=>decide (p.2=m)).map λp=>j0 p.1)=(FS m s.2.2.2).map j0:=by unfold FS;rw[QW];rfl
 rw[e];exact q;rw[a8 c]at q;rw[dF c];simp![↓jA];exact q
theorem xl:UD Ψ sG VQ iL RI:=by rintro _ Q _ ⟨w,st,t,m,rfl,k,q⟩;refine kA [bD (wD w),bD (.list (st.map SJ)),bD (.int t),bD (.str m),kv,kv] ?_;delta sG;simp![↓jA];refine#[(),?_];rw[<- gA SJ];refine LA (λs=>T.d (SJ s)) (λr h=>∃f y,r.foldl (iO w t m) f=st.foldl (iO w t m) []/\(∀s∈r,s∈st)/\h=Ts w st t m f y) ?_ ?_ _ _ #[[],kv,rfl,λ_ z=>z,rfl];rintro h ⟨f,y,e,_,rfl⟩;have e:f=st.foldl (iO w t m) []:=e;subst e;delta Ts;simp![↓jA];exact q;rintro s r h N a ⟨f,y,e,g,rfl⟩;exact ox (s:=s) (k s (g s QD)) (a _ #[_,_,e,λx u=>g x (QE _ u),rfl])
theorem cg{w:Wd}:∀(l:LN) (g:Gs) (n:Nat),∃x s,R0 w g (l++[n])=x++[s]/\s.2.2.2=UC w (g.past++(l++[n])) s.2.2.1
 |[],g,n=>#[[],_,rfl,rfl]|k::l,g,n=>by let#[x,s,e,h]:=cg l (EB w g k) n;refine#[_::x,s,i3 (_::·) e,?_];rw[h];show UC w ((g.past++[k])++(l++[n])) _=_;rw[Q8];rfl
theorem Ib(y:ns≠[]):∃x s,(FA w ns).steps=x++[s]/\s.2.2.2=UC w ns s.2.2.1:=by
 obtain⟨l,n,rfl⟩:∃l n,ns=l++[n]:=by
  rcases QBN ns with h|⟨l,n,h⟩
  exact im h y;exact#[l,n,by rw[h,QBO]]
 rw[mJ];exact cg l g0 n
theorem xg{w:Wd}(z:WOk w):∀(ns:LN) (g:Gs),∀s∈R0 w g ns,s.2.2.2.9<=1000
 |[],_,s,y=>by cases y|n::r,g,s,y=>by
  rcases QK.mp y with rfl|y;have k:=z.pl;have u:=z.ml;show(UC w _ _).9<=1000;have:∀h:List (Str×Int×Int×Int),(h.flatMap λp=>FP w (g.past++[n]) (P4 w g n) p.1).9<=10 * h.length:=λh=>by
   induction h with
   |nil=>exact QT _|cons p h a =>
    rw[WD,QI,QM];have:(FP w (g.past++[n]) (P4 w g n) p.1).9<=10:=by unfold FP;rw[QC];exact QV (Qs _ _) u
    omega
  have:=this w.ps;unfold UC;omega;exact xg z r _ s y
theorem Es(y:WOk w)(z:BD w ns):jAE w (FA w ns).steps:=λs h=>by let#[_,_,g]:=CN y z;refine#[(g s h).n,?_];rw[mJ]at h;exact xg y ns g0 s h
theorem vT{es:List Evt}{t:Int}:∀{l:List Stp},(l.map λs=>s.1).Pairwise (N8 es)->∃a b,l=a++b/\(∀s∈a,EJ (pA es s.1)<=t)/\∀s∈b,t<EJ (pA es s.1)
 |[],_=>#[[],[],rfl,λ_ z=>(nomatch z),λ_ z=>(nomatch z)]
 |s::l,h=>by let#[k,u]:=wu.mp h;by_cases c:EJ (pA es s.1)<=t;let#[a,b,e,i,j]:=vT u;refine#[s::a,b,i3 (s::·) e,λx y=>?_,j];rcases QK.mp y with rfl|y;exact c;exact i x y;refine#[[],s::l,rfl,λ_ z=>(nomatch z),λx y=>?_];rcases QK.mp y with rfl|y;omega;have:N8 es s.1 x.1:=k x.1 (QAK y);unfold N8 at this;omega
theorem kT(f:WOk w)(h:BD w ns)(h':BD (wT w t) X):∃a b,(FA w ns).steps=a++b/\(∀s∈a,EJ (pA w.es s.1)<=t)/\(∀s∈b,t<EJ (pA w.es s.1))/\(FA (wT w t) X).steps.map (oe (BO w.es t))=a:=by
 let#[u,_,_]:=CN f h;let#[a,b,e,i,j]:=vT (es:=w.es) (t:=t) (l:=(FA w ns).steps) (by rw[u];exact rN h);refine#[a,b,e,i,j,?_];rw[z6 h h',e];have k:(ns.filter (N4 w.es t)).Perm (kpL w.es t):=by have:=h.1.filter (N4 w.es t);rw[QC]at this;exact this
 have l:a.9=(kpL w.es t).length:=by rw[<- k.length_eq,<- u,e,QO,QB0,List.filter_eq_self.mpr λn z=>?_,Wl.mpr λn z=>?_,qJ,QC];let#[s,y,rfl]:=QR.mp z;have:=j s y;unfold N4;rw[i0];omega;let#[s,y,rfl]:=QR.mp z;exact dT (i s y)
 rw[<- l];exact List.take_left
theorem Xm{w:Wd}{t:Int}{m:Str}:∀(b:List Stp) (f:LS),(∀s∈b,t<EJ (pA w.es s.1))->b.foldl (iO w t m) f=f
 |[],_,_=>rfl|s::b,f,h=>by have:=h s QD;have e:iO w t m f s=f:=a8 ();show b.foldl (iO w t m) (iO w t m f s)=f;rw[e];exact Xm b f λx y=>h x (QE _ y)
theorem Fl{l:LN}(f:m∈w.ms):x∈FS m (UC w l v)↔UL w l v m x:=by unfold FS;rw[QR];constructor;rintro⟨⟨a,b⟩,h,rfl⟩;let#[i,y]:=QZ.mp h;have y:b=m:=ii y;subst y;let#[p,z,g]:=wm.mp i;let#[k,hk,e]:=QR.mp g;cases e;exact(lJ w l v _ _).mp (QZ.mp hk).2;intro h;let#[n,u]:=SR h;let#[p,z,e]:=QR.mp u;cases e;exact#[(p.1,m),QZ.mpr #[wm.mpr #[p,z,QR.mpr #[m,QZ.mpr #[f,(lJ w l v _ _).mpr h],rfl]],dT rfl],rfl]
theorem Dl(n:WOk w){l:LN}:(FS m (UC w l v)).Nodup:=by
 have key:∀h:List (Str×Int×Int×Int),(h.map λp=>p.1).Nodup->(FS m (h.flatMap λp=>FP w l v p.1)).Nodup/\∀x∈FS m (h.flatMap λp=>FP w l v p.1),x∈h.map λp=>p.1:=by
  intro h;induction h with
  |nil=>exact λ_=>#[Qq,λ_ z=>(nomatch z)]
  |cons p h s =>
   intro nd;let#[r,o]:=Qj.mp nd;let#[Y,j]:=s o;have e:FS m ((p::h).flatMap λp=>FP w l v p.1)=FS m (FP w l v p.1)++FS m (h.flatMap λp=>FP w l v p.1):=by unfold FS;rw[WD,QB0,QO]
   have f:∀x∈FS m (FP w l v p.1),x=p.1:=λx u=>by let#[q,Z,rfl]:=QR.mp u;let#[k,_,rfl]:=QR.mp (QZ.mp Z).1;rfl
   have g:(FS m (FP w l v p.1)).Nodup:=by
    have e:FS m (FP w l v p.1)=((w.ms.filter (E3 w l v p.1)).filter λk=>decide (k=m)).map λ_=>p.1:=by unfold FS FP;rw[QAM,QW];rfl
    rw[e];have nd:((w.ms.filter (E3 w l v p.1)).filter λk=>decide (k=m)).Nodup:=(n.mn.filter _).filter _;have i:∀k∈(w.ms.filter (E3 w l v p.1)).filter λk=>decide (k=m),k=m:=λk hk=>ii (QZ.mp hk).2;generalize (w.ms.filter (E3 w l v p.1)).filter (λk=>decide (k=m))=z at nd i;cases z with
    |nil=>exact Qq|cons a z=>cases z with
     |nil=>exact Qj.mpr #[λy=>(nomatch y),Qq]
     |cons b z=>exact im ((i a QD).trans (i b (QE _ QD)).symm) λy=>(Qj.mp nd).1 (y▸QD)
   rw[e];refine#[qZ.mpr #[g,Y,λa W b hb z=>?_],λx u=>?_];rw[f a W]at z;have:=j b hb;rw[<- z]at this;exact r this;rcases Qg.mp u with u|u
   ·rw[f x u]
    exact QD
   exact QE _ (j x u)
 exact(key w.ps n.pn).1
theorem Am(u:WOk w)(f:∀p∈w.ps,1<=p.2.2.2)(E:m∈w.ms)(h:BD w ns)(h':BD (wT w t) X):((FA w ns).steps.foldl (iO w t m) []).Nodup/\∀x,x∈(FA w ns).steps.foldl (iO w t m) []↔Held (D9 (wT w t) (FA (wT w t) X).steps m) (f6 (wT w t) (FA (wT w t) X).steps m) (mD (wT w t)) x:=by
 let#[a,b,e,i,j,k]:=kT u h h';let#[R,_,_]:=CN (J5 (t:=t) u) h';have Q:(FA w ns).steps.foldl (iO w t m) []=a.foldl (iO w t m) []:=by rw[e,wG,Xm b _ j]
 rw[Q];by_cases c:X=[];subst c;have Y:(FA (wT w t) []).steps=[]:=rfl;rw[Y]at k ⊢;subst k;refine#[Qq,λx=>#[λz=>(nomatch z),λz=>?_]];exfalso;have P:∀x,¬ Held [] [] (mD (wT w t)) x:=λx A=>by
  cases A with
  |see _ h=>cases h|@tell _ n F O _ N =>
   let#[p,B,e]:=QR.mp O;cases e;have:=f p B;let#[q,_,M,J]:=N;cases q with
   |nil=>exact im J (by show ¬ p.2.2.2<=0;omega)|cons c q =>
    have I:=M c QD;cases I with|st h _=>cases h|go _ _ h=>exact nomatch (zM.mp h).1
 have W:D9 (wT w t) [] m=[]:=rfl;have Z:f6 (wT w t) [] m=[]:=List.map_eq_nil_iff.mpr (Wl.mpr λp _ y=>by cases ii y);rw[W,Z]at z;exact P x z;let#[y,s,g,r]:=Ib (w:=wT w t) c;have K:ae (FA (wT w t) X).steps=s.2.2.1:=by rw[g,UR]
 have o:a=y.map (oe (BO w.es t))++[oe (BO w.es t) s]:=by rw[<- k,g,QO];rfl
 have G:a.foldl (iO w t m) []=FS m (UC (wT w t) X s.2.2.1):=by have:EJ (pA w.es (oe (BO w.es t) s).1)<=t:=i _ (by rw[o];exact QU _ QD);rw[o,wG];show iO w t m _ (oe (BO w.es t) s)=_;unfold iO;rw[a9 this];show FS m s.2.2.2=_;rw[r]
 rw[G];refine#[Dl (J5 (t:=t) u),λx=>(Fl (w:=wT w t) E).trans ?_];unfold D9 f6;rw[K,R];exact WQ
theorem Jq{w:Wd}{p:Pt}{t u:Int}:∀(b:List Stp) (o:Option Int),(∀s∈b,t<EJ (pA w.es s.1))->u<=t->b.foldl (uc w p) o=jr u->o=jr u
 |[],_,_,_,e=>e|s::b,o,h,hu,e=>by
  have z:=h s QD;have:=Jq b (uc w p o s) (λx y=>h x (QE _ y)) hu e;unfold uc at this;split at this;split at this
  ·have:=Ql this
   omega
  exact this;cases this
theorem Z6{u:Int}(z:WOk w)(h:BD w ns)(h':BD (wT w t) X)(k:u<=t)(y:K6 w (FA w ns).steps (x,m)=jr u):x∈(FA w ns).steps.foldl (iO w t m) []:=by
 let#[a,b,e,i,j,_]:=kT z h h';unfold K6 at y;rw[e,wG]at y ⊢;rw[Xm b _ j];have:=Jq b _ j k y;rcases cW a with rfl|⟨l,s,rfl⟩
 cases this;rw[wG]at this ⊢;have this:uc w (x,m) _ s=jr u:=this;show x∈iO w t m _ s;unfold iO;rw[a9 (i s (QU _ QD))];unfold uc at this;split at this;rename_i c;exact QR.mpr #[(x,m),QZ.mpr #[c,dT rfl],rfl];cases this
def eQ:PSp where
 run:=λy Q _=>∃(w:Wd) (m:Int),y=[.d (wD w),.d (.int m)]/\WOk w/\∀h:LJ,h.9<=3->Q (.lst ((h.map j1).map T.d)) []
theorem yu{l:LJ}(q:L (decide (l=[]))):KB .Eq (.d (.list (l.map j1))) (nA (.lst []) kf) L:=by
 show HE (.list (l.map j1))/\HE (.list [])/\L (Qt (.list (l.map j1)) (.list []));refine#[cR λx h=>?_,cR λx h=>(nomatch h),?_];let#[i,_,rfl]:=QR.mp h;exact#[rfl,Qv _];cases l with|nil=>exact q|cons x r=>exact q
theorem Dk(ds Q E)(h:eQ.run ds Q E):Vz Ψ DK eQ dQ IM ds Q:=by
 let#[w,m,rfl,n,q]:=h;have Y:=n.el;refine kA [bD (wD w),bD (.int m),kv,kv] ?_;delta DK;simp![↓BL];rw[<- gA CC];refine IA (λe=>T.d (CC e)) (λe=>T.d (.int (EJ e))) w.es [] _ (λe s R z=>?_) (by show 0+w.es.9<=_;omega) ?_;simp![↓Bb];exact z;rw[Qf,gA λe=>j1 (EJ e),show(w.es.map λe=>j1 (EJ e))=(w.es.map EJ).map j1 by rw[QW];rfl];refine Og (by rw[QC];omega) λy j o=>?_;have g:=j.length_eq;rw[QC]at g;simp_arith![↓jA];refine#[(),yu ?_];by_cases c:y=[];rw[dT c];simp![↓jA];exact#[(),q [m % 5] (Nat.le_of_ble_eq_true rfl)];rw[dF c];have u:0<(y.9:Int):=by
  cases y with|nil=>exact im rfl c|cons x r=>rw[QM];omega
 have b:=VA m u;have a:=VA (m / 30) u;have k:=VA (m / 900) u;simp![QC];refine#[(),uC (f:=j1) (l:=y) 0 b.1 b.2 #[(),uC (f:=j1) (l:=y) 0 a.1 a.2 #[(),uC (f:=j1) (l:=y) 0 k.1 k.2 ?_]]];simp![↓jA];refine#[(),?_];refine Eq.mpr (Nu (ds:=[gI y (m % y.9) 0,gI y (m / 30 % y.9) 0,gI y (m / 900 % y.9) 0 - 1].map j1)) ?_;simp![↓jA];rw[<- gA j1];refine fA (λi=>T.d (.int i)) (λi=>T.d (.int i)) (λi=>decide (0<=i)) [gI y (m % y.9) 0,gI y (m / 30 % y.9) 0,gI y (m / 900 % y.9) 0 - 1] [] _ (λi p R z=>?_) (by show 0+3<=_;omega) ?_;simp![↓Xn];split at z;rename_i c;rw[a9 c];exact z;rename_i c;rw[a8 c];exact z;rw[Qf,gA j1];exact q _ (Qs _ _)
theorem Af:∀{l:LS}{p:Str},risingS p l=kf->(p::l).Pairwise λa b=>a.cps.toList<=b.cps.toList
 |[],p,_=>List.pairwise_singleton _ _|x::r,p,h=>by let#[z,e]:=vA h;have k:=Af e;rw[Q4,ltCps_eq,decide_eq_false_iff_not]at z;have z:=List.not_lt.mp z;refine wu.mpr #[λy u=>?_,k];rcases QK.mp u with rfl|u;exact z;exact List.le_trans z ((wu.mp k).1 y u)
theorem N5(h:t3 l=kf):l.Pairwise λa b=>a.cps.toList<=b.cps.toList:=by
 cases l with|nil=>exact .nil|cons x r=>exact Af h
theorem Ep{a b:Str}(h:a.cps.toList=b.cps.toList):a=b:=by let#[#[a]]:=a;let#[#[b]]:=b;cases h;rfl
theorem Ip{a b:LS}(z:t3 a=kf)(hb:t3 b=kf)(h:a.Perm b):a=b:=h.eq_of_pairwise (λx y _ _ k u=>Ep (List.le_antisymm k u)) (N5 z) (N5 hb)
theorem Pg{z:LS}{n:Bool}{Q:T->Bool->Prop}(h:z.9<64)(q:∀y:LS,y.Perm z->t3 y=kf->Q (.lst ((y.map j0).map T.d)) kf):uM .sorted [(.d (.list (z.map j0)),n)] Q:=by unfold uM CB;rw[rA];exact .inl #[_,z,rfl,KA _,h,q]
theorem Gv{a:D}{b:List D}{m:Bool}{R:T->Prop}:XA (.tup [.d a,.lst (b.map T.d)]) kf (.d (.int 0)) m R=R (.d a):=by
 have e:(T.tup [.d a,.lst (b.map T.d)]).er=.tuple [a,.list b]:=by show PyData.tuple [a,(T.lst _).er]=_;rw[NN]
 have e:XA (.tup [.d a,.lst (b.map T.d)]) kf (.d (.int 0)) m R=XA (.d (.tuple [a,.list b])) kd (.d (.int 0)) m R:=by unfold XA;show(BN (T.d (T.tup [.d a,.lst (b.map T.d)]).er).vw _ R∨yS (T.d (T.tup [.d a,.lst (b.map T.d)]).er).vw _ R)=_;rw[e];rfl
 rw[e];exact BA (i:=0) rfl
theorem Ky:DA [] ((Ap w,kf)::xs) C=DA [] xs λts=>C (.d (wD w)::ts):=by have e:sA [] ((Ap w,kf)::xs) []=(sA [] xs []).map (.d (Ap w).er::·):=rfl;unfold DA;rw[e,Zt,GC]
theorem Ck(h:∀s∈l,OkS s):HE (.list (l.map j0)):=cR λx y=>by let#[s,z,rfl]:=QR.mp y;exact#[h s z,Qv _]
theorem Ht(h:∀s∈l,OkS s)(q:L kd):KB .NotEq (.lst ((l.map j0).map T.d)) (nA (.lst ((l.map j0).map T.d)) kf) L:=by have o:=Ck h;show(GX .NotEq (T.lst ((l.map j0).map T.d)).er (T.lst ((l.map j0).map T.d)).er L);rw[NN];show HE _/\HE _/\L (!(Qt _ _));rw[PySem.SeqAt.eqv_refl _ o.1];exact#[o,o,q]
end
section
variable{L:Bool->Prop}{o:Option Int}{n m:Bool}{R:T->Prop}{p:Pt}
theorem At:KB .IsNot (.d (oI o)) (.d .none) L=L (!o.isNone):=by cases o<;>rfl
end
def lS(y:LJ)(w:Wd)(st:List Stp)(v:Int)(m x:Str)(o:Option Int)(o7 o8 h:Option Sl):xA:=[jr (.bor (.lst ((y.map j1).map T.d))),bD (wD w),bD (.list (st.map SJ)),bD (.int v),bD (.str m),bD (.str x),bD (oI o),o7,o8,h]
theorem xx{Ψ:PEv}(P:Ψ.sp "_law_holders"=VQ)(O:Ψ.sp "ground_of"=XQ)(N:Ψ.sp "until_time"=iI){Z:PEnds}{A:LJ}{w:Wd}{ns:LN}{v t:Int}{m x:Str}{o8 j:Option Sl}(z:WOk w)(X:∀p∈w.ps,1<=p.2.2.2)(Y:BD w ns)(J:m∈w.ms)(hx:OkS x)
  (q:∀o8 j,Z.nx (lS A w (FA w ns).steps v m x (K6 w (FA w ns).steps (x,m)) (bD (.int t)) o8 j)) :
  pF Ψ tS Z (lS A w (FA w ns).steps v m x (K6 w (FA w ns).steps (x,m)) (bD (.int t)) o8 j):=by
 have B:=J5 (t:=t) z;delta lS;delta tS;simp![↓yA (md:=[]) P rfl rfl];refine#[_,_,_,_,rfl,(Es z Y),?_];simp_arith![↓yA (md:=[]) O rfl rfl,↓yA (md:=[]) N rfl rfl];refine#[_,_,rfl,z,?_];simp![↓Ky];refine#[_,_,rfl,B,λG st k F S a Q g M=>?_];subst Q;let#[nd,b]:=Am z X J Y a;have h:∀u,K6 w (FA w ns).steps (x,m)=jr u->u<=t->x∈(FA w ns).steps.foldl (iO w t m) []:=λu e I=>Z6 z Y a I e;generalize K6 w (FA w ns).steps (x,m)=o at h q ⊢;generalize (FA w ns).steps.foldl (iO w t m) []=D at nd b h ⊢;have fl:=g.len;have W:F.Perm D:=(List.perm_ext_iff_of_nodup g.ndp nd).mpr λy=>(M y).trans (b y).symm;have dl:=W.length_eq;have E:∀s∈D,OkS s:=λs l=>by let#[n,e]:=SR ((b s).mp l);let#[p,X,e]:=QR.mp e;cases e;exact z.po p X
 have nl:(mD (wT w t)).9<=11:=by unfold mD;rw[QC];exact z.pl
 simp![↓Gv];rw[<- gA DI k];refine IA (λr=>T.d (DI r)) (λr=>T.d (.str r.1)) k [] _ (λr hr R L=>?_) (by show 0+k.9<=_;rw[g.rlen];omega) ?_;delta DI;simp![↓Uf];exact L;rw[Qf,gA (λr:Rw=>j0 r.1),show(k.map λr=>j0 r.1)=(k.map λr=>r.1).map j0 by rw[QW];rfl,<- g.e];simp![↓jA];refine Pg () λs1 C i=>?_;simp![↓jA];refine Pg () λH K f=>?_;cases Ip i f (C.trans (W.trans K.symm));refine Ht (λs l=>E s (K.mem_iff.mp l)) ?_;simp![↓At];cases o with|none=>exact q _ _|some u=>have q:=q (bD (.list (D.map j0))) (bD (.list (F.map j0)));rw[show oI (jr u)=j1 u from rfl];simp![Option.isNone_some,wn,if_true];by_cases c:u<=t;rw[dT c];have b:=h u rfl c;simp![bH,VE,aB,true_or,dT b];exact q;rw[dF c];exact q
theorem Ej(c:Int)(ns:LS):∀p∈db c ns,1<=p.2.2.2:=λp x=>by let#[y,u,rfl]:=QR.mp x;have h:=VA (dA c (10+(y.2:Int)) / 48) (show(0:Int)<6 by decide);have:=(PD (l:=[1,1,1,2,2,3]) (d:=(0:Int)) h.1 h.2).2;show 1<=gI [1,1,1,2,2,3] (dA c (10+(y.2:Int)) / 48 % 6) (0:Int);generalize gI [1,1,1,2,2,3] (dA c (10+(y.2:Int)) / 48 % 6) (0:Int)=z at this;simp at this;omega
theorem yl{Ψ:PEv}(G:Ψ.sp "_law_holders"=VQ)(F:Ψ.sp "since_of"=fW)(E:Ψ.sp "_law_world"=iM)(C:Ψ.sp "gone"=AL)(B:Ψ.sp "_law_times"=eQ)(A:Ψ.sp "_law_mixed"=OF)(K:Ψ.sp "_law_cell_at"=KI)(W:Ψ.sp "ground_of"=XQ)(Z:Ψ.sp "until_time"=iI):UD Ψ Ka CT Zi u7:=by
 rintro _ Q _ ⟨h,hl,hb,rfl,q⟩;refine kA [jr (.bor (.lst ((h.map j1).map T.d))),kv,kv,kv,kv,kv,kv,kv,kv,kv] ?_;have x:=K5 h;have s:∀p∈(wF h).ps,1<=p.2.2.2:=Ej _ _;have X:0<((wF h).ms.9:Int):=by have:=(sv h).1.m1;show 0<((x3 h).9:Int);omega
 have hk:0<((wF h).ps.9:Int):=by have:=(sv h).1.n2;have e:=i3 qO (SM (MA h 0) (iP h));rw[QC]at e;show 0<((db (MA h 0) (iP h)).9:Int);omega
 delta Ka;simp![↓yA (md:=[.shal]) E rfl rfl];refine#[_,rfl,?_];generalize wF h=w at *;simp![↓Fy,↓yA (md:=[]) C rfl rfl];refine#[_,rfl,x,λj n=>?_];simp_arith![↓yA (md:=[]) A rfl rfl,↓yA (md:=[.shal]) K rfl rfl,↓RG,↓CI,↓PV,↓u5,QC];have v:=VA (dA (MA h 1) 98) X;have u:=VA (dA (MA h 1) 98 / 3) hk;refine#[(),uC (f:=j0) (l:=w.ms) #[#[]] v.1 v.2 ?_];have b:=(PD (l:=w.ms) (d:=#[#[]]) v.1 v.2).2;generalize gI w.ms (dA (MA h 1) 98 % w.ms.9) #[#[]]=m at b ⊢;refine#[(),uC (f:=TJ) (l:=w.ps) (#[#[]],0,0,0) u.1 u.2 ?_];have ix:=(PD (l:=w.ps) (d:=(#[#[]],0,0,0)) u.1 u.2).2;generalize gI w.ps (dA (MA h 1) 98 / 3 % w.ps.9) (#[#[]],0,0,0)=p at ix ⊢;simp![↓K0,↓yA (md:=[]) F rfl rfl];refine#[_,(p.1,m),rfl,#[x,#[x.po p ix,x.mo m b]],λo g=>?_];cases Ul n g;simp![↓yA (md:=[]) B rfl rfl];refine#[_,_,rfl,x,λI J=>?_];simp![↓jA];rw[<- gA j1];refine LA (λi=>T.d (.int i)) (λr k=>∃a z y,k=lS h w (FA w j).steps (dA (MA h 1) 98) m p.1 (K6 w (FA w j).steps (p.1,m)) a z y) ?_ ?_ _ _ #[kv,kv,kv,rfl];rintro k ⟨a,z,y,rfl⟩;delta lS;simp![↓jA];exact q;rintro t r k N Y ⟨a,z,y,rfl⟩;exact xx (t:=t) G W Z x s n b (x.po p ix) λz y=>Y _ #[_,_,_,rfl]
end L2.L3.K48
namespace L2.L3
open PySem PySem.Spec PyProof.Rows L2.L3.Q
section
variable{K:QA}{x:Str}{st:gl}
theorem tX{h:vu}:∀(y:List ko),(Xv y h).In h
 |[],a,o,e=>nomatch e
 |b::y,a,o,e=>by
  unfold Xv at e;rw[WO]at e;cases c:h.get? b with
  |none=>rw[c]at e;exact tX y a o e|some z =>
   rw[c]at e;have e:QCW a ((b,z)::Xv y h)=jr o:=e;rw[wk]at e;cases d:a==b with|true=>rw[d]at e;cases e;rw[beq_iff_eq.mp d];exact c|false=>rw[d]at e;exact tX y a o e
theorem Cm{q:Str}{f:ko}{y:gV}{w:kb}{v:Option ko}{z:Array (Option kb)}(hl:K.lookup f=jr #[w,v,.func y,z])(h:To y (Wq K y.code q&&wO K (.ref f))=To (qr x q (jD st) (gC st) (RA st) .none .none .none .none kv .none .none) kf):∃y,Fun K x q st f y:=by let#[Y,X,s,r,p,o,n,m,l,j,i,g,e,b,a]:=y;unfold To at h;injection h with h1 h2;injection h2 with h2 h3;injection h1 with b1 h1;injection h1 with b2 h1;injection h1 with b3 h1;injection h1 with b4 b5;injection h2 with c1 h2;injection h2 with c2 h2;injection h2 with c3 c4;let#[u,k]:=W8.mp h3;simp only at b1 b2 b3 b4 b5 c1 c2 c3 c4 u;subst b1 b2 b3 b4 b5 c1 c2 c3 c4;exact#[_,Dm hl u k]
theorem C6(h:aX K x=MU x st)(y:(MU x st).isSome=kf):o0 K x st:=by
 have z:MU x st=jr (To (qr x x (jD st) (gC st) (RA st) .none .none .none .none kv .none .none) kf):=by cases st<;>first|rfl|cases y
 rw[z]at h;unfold aX at h;split at h;rename_i f hf;split at h;rename_i hl;let#[u,F]:=Cm hl (Ql h);exact#[f,u,hf,F];cases h;cases h
theorem bc(h:MW K x=kf):qq K k4 x=jr none:=by unfold MW at h;split at h;assumption;cases h
theorem B6{i:Int}(h:xj K x=jr i):uO K x (.int i):=by
 unfold xj at h;split at h;rename_i u hu;cases u with|int j t=>cases h;exact#[_,_,hu,rfl,λ_=>.int i]|_=>cases h
 cases h
theorem uT:∀{us:LW}{xs:LS},us.map lq=xs.map jr->us.map xO=xs.map λy=>jr (.str y)
 |[],[],_=>rfl|[],_::_,h=>by cases h|_::_,[],h=>by cases h|u::us,x::xs,h=>by
  injection h with h1 h2;rw[QX,QX,uT h2];cases u with|str z t=>cases h1;rfl|_=>cases h1
theorem J1{xs:LS}(h:fj K x=jr (xs.map jr))(y:xs.9<=kn):uO K x (.tuple (xs.map j0)):=by unfold fj at h;split at h;rename_i f hf;split at h;rename_i t od its n osl hl;split at h;rename_i et;subst et;injection h with h;exact F5 (its:=its.toList) hf (by simpa using hl) (uT h) y;cases h;cases h;cases h
theorem go_of(e:seen K=due):uG K tA=true:=(QAN (QAN (QAN (QAN e).2).2).2).2
end
section
variable{K:QA}{h:vu}{mg:Str->Option kb}{T:ko}
theorem GU(e:uG K T=kf)(X:K.In h)(G:h.Ns k4 mg):(∃f k w v z c,mg "going_order"=jr (.ref f)/\K.lookup f=jr #[k,w,.func v,z]/\v.code=.ref c/\QA0 K c T=kf)/\(∀y:vu,K.In y->y.BuiltinsAt mg T)/\K.lookup T=kv/\k4≠T:=by
 let#[u,e]:=vA e;let#[x,e]:=vA e;let#[g,a]:=vA e;refine#[?_,?_,QAh.mp g,bne_iff_ne.mp a];split at u
 ·rename_i f hf
  split at u;rename_i k w v z hl;split at u;rename_i c hc;exact#[f,k,w,v,z,c,We X G hf,hl,hc,u];cases u;cases u
 cases u;intro y Y;split at x;rename_i b hb;split at x;rename_i t d z hl;let#[n,x]:=vA x;let#[m,x]:=vA x;let#[l,x]:=vA x;let#[j,i]:=vA x;exact#[b,_,We X G hb,bne_iff_ne.mp l,bne_iff_ne.mp j,bne_iff_ne.mp i,Y _ _ hl,by rw[beq_iff_eq.mp n],by rw[beq_iff_eq.mp m],rfl];cases x;cases x
theorem Bm(e:uG K T=kf)(X:K.In h)(G:h.Ns k4 mg):∃v c,(∀x:vu,K.In x->∀P q,zQ mg x P q->P=T/\q=v)/\QA0 K c T=kf/\K.lookup T=none:=by let#[#[f,I,F,C,w,c,p,n,m,y],_,l,_]:=GU e X G;refine#[C.qualname++".<locals>.<lambda>",c,λx Y P q t=>?_,y,l];let#[M,o,B,N,A,W,Z,s,#[L,E,_,_,_,_,_,_,_,j,_,i,g,_],r]:=t;cases p.symm.trans A;have z:=W.symm.trans (Y _ _ n);cases z;cases Z;cases m.symm.trans s;let#[J,u,_,_,_,_,_,_,_,b,_,a,k,_]:=QAO Y y;cases j.symm.trans b;cases i.symm.trans a;cases g.symm.trans k;exact#[rfl,r]
end
theorem walk_seen{l:PySem.W.OpenLaw}{k:Nat}{q:k5}{loose:LS}{XP:(Str->Option kb)->vu->Prop}{YP:xb->vu->Prop}{d:DefRec}{x:Str}{Fs:QA->Prop}{T:ko}
  (hn:l.most=jr 63) (C:d.params.defaults=[]) (S:Room k l5) (hY:∀(w:xb) (h:vu),YP w h->∃K:QA,K.In h/\Fs K/\h.get? T=jr (QBb #[])) (B:∀K,Fs K->uG K T=kf)
  (F:∀(w:xb) (mg:Str->Option kb) (p:ko) (h:vu) (K:QA),K.In h->Fs K->uG K T=kf->h.Ns k4 mg->mg d.name=jr (.ref p) ->
   ∃E:gV,(∀(s:kt) (u:kb),l4 s E #[[u],[]] [(x,u)]) /\
    ∀y:vu,K.In y->y.Ns k4 mg->FnOk l.prog w K mg y v5 k p E [x] (lift K CT)) :
  PySem.W.WalkO q loose XP YP l.row.toRowW d [] (λf vs=>PySem.call f vs):=by
 intro w L J mg mb G Y p o pm cd doc dV kV ho hd hcd M A hg args I as j n R Z hlo;obtain rfl:dV=.none:=PySem.W.Dflts.none M C;obtain rfl:kV=.none:=PySem.W.Dflts.noKw M;let#[a,vs,P,rfl,rfl,m,i,v]:=Att.script_of hn j Z;let#[K,X,fs,Q]:=hY w _ Y;have N:=B K fs;let#[tq,c,g1,g2,g3]:=Bm N X G.T.g;let#[E,hb,hF]:=F w mg p _ K X fs N G.T.g A;refine PySem.W.enter_call (QCG (R8 g1 ((QAO X g2).tab Q) g3 X G.T.g G.T.b G.T.builtins G.T.nolimit hg m i (QV v (by decide)) S hF hb (λH hO hS=>jm _ H a P v (Kf n) hS) λH e O=>λz=>z) λr O hq=>?_);let#[rfl,h2,h3,h4]:=hq;exact#[.inl #[.bool kf,.bool kf,[],rfl,λ_=>rfl,.bool kf,Att.post_true l _,λ_=>#[List.Pairwise.nil,λ_ hm=>(nomatch hm)]],h2,h3,h4]
end L2.L3
namespace L2.L3.K48
open PySem PySem.Spec PyProof.Rows L2 L2.L3 L2.L3.Q
def ay:Nat->(LW->Prop)->Prop
 |0,p=>p []|n+1,p=>∀u,ay n λh=>p (u::h)
theorem Ey:∀{n:Nat}{p:LW->Prop},ay n p->∀us:LW,us.9=n->p us
 |0,_,h,us,e=>by rw[List.length_eq_zero_iff.mp e];exact h|_+1,_,_,[],e=>nomatch e
 |_+1,_,h,u::us,e=>Ey (h u) us (Nat.succ.inj e)
def jAg(x q:Str)(st:gl)(u:LS):Prop:=∀(kV h v:kb) (k:Option ko) (y w:kb),ay u.9 λz=>ew (qr x q (jD st) (gC st) (RA st) .none kV h v k y w) #[z,[]]=tv (u.zip z)
noncomputable def Do:List (Str×D):=tT.map (λp=>(p.1,.tuple (p.2.map j0)))++sT.map λp=>(p.1,.int p.2)
structure Cx(K:QA)(h:vu)(mg:Str->Option kb):Prop where
 X:K.In h
 G:h.Ns k4 mg
 V:∀p∈Do,uO K p.1 p.2
 N:∀y∈nT,qq K k4 y=jr kv
 D:∀p∈fT,o0 K p.1 (top p.2)
theorem ZE{α:Type}{d:α}:∀{l:List α}{i:Nat},QCj i l.9=kf->l.getD i d∈l
 |[],_,h=>nomatch h
 |_::_,0,_=>.head _|_::_,_+1,h=>.tail _ (ZE (Nat.blt_eq.mpr (wq (Nat.blt_eq.mp h))))
theorem Eg{α:Type}{l:List (Str×α)}{p:Str×α}(nd:(l.map qz).Nodup)(h:p∈l):l.lookup p.1=jr p.2:=by
 induction l with|nil=>cases h|cons a l y=>let#[x,s]:=a;rw[QX,Qj]at nd;rw[wk];rcases QK.mp h with rfl|h;rw[beq_self_eq_true];have v:p.1∈l.map qz:=QAK h;have u:(p.1==x)=false:=beq_eq_false_iff_ne.mpr λz=>nd.1 (by rw[<- z];exact v);rw[u];exact y nd.2 h
def Gg:LS:=fT.map qz
def fx(i:Nat):Str×Nat:=fT.getD i ("",0)
def tbl(r:List PSp):PEv:=zg (Gg.zip r) Do
theorem yT{r:List PSp}(i:Nat)(h:QCj i Do.length=true:=by rfl):(tbl r).va (Do.getD i ("",.none)).1=jr (Do.getD i ("",.none)).2:=Eg (iE (by kernel_rfl)) (ZE h)
theorem aq{r:List PSp}(nd:cK ((Gg.zip r).map qz)=kf)(i:Nat)(h:QCj i (Gg.zip r).9=kf):(tbl r).sp ((Gg.zip r).getD i ("",Lo)).1=((Gg.zip r).getD i ("",Lo)).2:=by show(QCW _ _).getD Lo=_;rw[Eg (iE nd) (ZE h)];rfl
noncomputable def nB(n:Need)(fs:LS):Bool:=n.fn.all (λx=>fs.contains x)&&((n.va.all λx=>(Do.map qz).contains x)&&n.no.all (λx=>nT.contains x))
section
variable{P:k5}{w:xb}{K:QA}{h base:vu}{mg:Str->Option kb}{r v:List PSp}{R:PSp}{u:LS}{k:Nat}{b:PT}{n:Need}{N z:LS}
theorem hv(C:Cx K h mg)(A:∀g∈u,DG P w K mg base (tbl r) k g)(i:Nat)(IB:GA n b N z (top (fx i).2)=kf)
  (body:∀ts Q E,R.run ts Q E->ts.9=z.9/\iB (tbl r) (λ_=>False) b (PC R z.9 Q) (mB N R.md ts)) (o:(tbl v).sp (fx i).1=R) (hc:fK (XB 0 R.md z.9) b=true:=by kernel_rfl)
  (hb:jAg (fx i).1 (fx i).1 (top (fx i).2) z:=by(repeat intro _);rfl)
  (x:nB n u=true:=by kernel_rfl) (l:QCj i fT.length=true:=by rfl):DG P w K mg base (tbl v) (k+1) (fx i).1:=by
 let#[s,x]:=vA x;let#[q,p]:=vA x;exact J9 C.X C.G (C.D _ (ZE l)) IB hc (λa b c d e f=>Ey (hb a b c d e f)) (λg m=>A g (rQ s g m)) (tY C.X C.G C.V q) (λy j=>C.N y (rQ p y j)) body o
theorem hc(A:∀g∈u,DG P w K mg base (tbl r) k g){x:Str}(Z:DG P w K mg base (tbl r) (k+1) x):∀g∈x::u,DG P w K mg base (tbl r) (k+1) g:=by intro g y;rcases QK.mp y with rfl|y;exact Z;exact(A g y).mono (wI _)
theorem hl(C:Cx K h mg)(A:∀g∈u,DG P w K mg base (tbl r) k g){x q:Str}{st:gl}{f:ko}{e:gV}(F:Fun K x q st f e)(IB:GA n b N z st=kf)
  (body:∀ts Q E,R.run ts Q E->ts.9=z.9/\iB (tbl r) (λ_=>False) b (PC R z.9 Q) (mB N R.md ts)) (hc:fK (XB 0 R.md z.9) b=true:=by kernel_rfl) (a:nB n u=true:=by kernel_rfl):FnOk P w K mg base v5 (k+1) f e z (lift K R):=by
 let#[o,a]:=vA a;let#[m,l]:=vA a;exact V9 F IB hc (λg j=>A g (rQ o g j)) (tY C.X C.G C.V m) (λy i=>QAU C.X C.G (C.N y (rQ l y i))) body
theorem cx_of(X:K.In h)(G:h.Ns k4 mg)(e:seen K=due)(o:(fT.all λp=>(MU p.1 (top p.2)).isSome)=kf)(m:(tT.all λp=>decide (p.2.9<=1000))=kf):Cx K h mg:=by injection e with j e;injection e with i e;injection e with g e;injection e with f _;have j:=Wp.mp j;have i:=Wp.mp i;have g:=Wp.mp g;have f:=Wp.mp f;refine#[X,G,λp x=>?_,λy l=>bc (f y l),λp x=>C6 (j p x) (Q9.mp o p x)];rcases Qg.mp x with x|x;let#[q,a,rfl]:=QR.mp x;have:=ii (Q9.mp m q a);exact J1 (i q a) ();let#[q,a,rfl]:=QR.mp x;exact B6 (g q a)
end
section
variable{P:k5}{w:xb}{h:vu}{mg:Str->Option kb}
def Fo:List PSp:=[OF,KI,IJ,MF,eI,mW,jK,YM,BQ,CQ,iM,Aq,DQ,iQ,ZM,XY,JI,LF,LG,KM,JM,NG,XI,YI,NF,KQ,MG,ZI,UQ,VI,RE,pE,YQ,TL,GD,AL,lW,ZQ,fW,eQ,VQ,nW,JQ,gW,dW,r6,pW,XQ,iI,CT]
theorem eA(i:Nat)(h:QCj i (Gg.zip Fo).9=true:=by rfl):(tbl Fo).sp ((Gg.zip Fo).getD i ("",Lo)).1=((Gg.zip Fo).getD i ("",Lo)).2:=aq (by kernel_rfl) i h
theorem jAb{K:QA}{x:vu}{k:Nat}(C:Cx K h mg)(q:uG K tA=kf)(v:K.In x)(m:x.Ns k4 mg):DG P w K mg x (tbl Fo) (k+1) "going_order":=by let#[f,M,p,#[#[J,I,kV,B,F,R,b,Q,i,rfl,lk,a],n]]:=C.D (fx 11) (ZE rfl);let#[#[O,l,j,A,e,c,g,W,Z,Y],s,L,r]:=GU q C.X C.G;cases(We C.X C.G p).symm.trans g;cases lk.symm.trans W;cases(show b=.ref c from Z);have z:=λy (o:nT.contains y=kf)=>QAU C.X C.G (C.N y (Q2.mp o));exact He v m g lk a n (QAO v Y) (s x v) r (z _ (by kernel_rfl)) (z _ (by kernel_rfl)) (z _ (by kernel_rfl)) (λE hl=>by let#[u,rfl]:=QBB.mp hl;rfl) (eA 11)
theorem all{K:QA}{v:ko}(C:Cx K h mg)(b:uG K tA=kf)(y:mg "law"=jr (.ref v)) :
  ∃z:gV,(∀(s:kt) (u:kb),l4 s z #[[u],[]] [("_law_script",u)])/\∀x:vu,K.In x->x.Ns k4 mg->FnOk P w K mg x v5 50 v z ["_law_script"] (lift K CT):=by
 refine ym C.X C.G (C.D (fx 49) (ZE rfl)) rfl y (eA 49) (λ_ _ _ _ _ _ e hl=>by let#[u,rfl]:=QBB.mp hl;rfl) λx a k f z F _=>?_;have A:∀g∈([]:LS),DG P w K mg x (tbl Fo) 0 g:=nofun;have A:=hc A (hv C A 0 IX Sk (eA 0));have A:=hc A (hv C A 1 dS Od (eA 1));have A:=hc A (hv C A 2 bS Ak (eA 2));have A:=hc A (hv C A 3 AX T7 (eA 3));have A:=hc A (hv C A 4 SX (R7 (eA 3) (eA 0) (eA 2)) (eA 4));have A:=hc A (hv C A 5 cV Nk (eA 5));have A:=hc A (hv C A 6 fV A1 (eA 6));have A:=hc A (hv C A 7 EX E7 (eA 7));have A:=hc A (hv C A 8 jY (Jl (eA 2) (eA 7)) (eA 8));have A:=hc A (hv C A 9 gS Pd (eA 9));have A:=hc A (hv C A 10 RX (P7 (eA 0) (eA 1) (eA 4) (eA 5) (eA 6) (eA 8) (eA 9)) (eA 10));have A:=hc A (jAb C b a k);have A:=hc A (hv C A 12 IN Zl (eA 12));have A:=hc A (hv C A 13 MX Cd (eA 13));have A:=hc A (hv C A 14 lV j8 (eA 14));have A:=hc A (hv C A 15 hV (cr (eA 13) (eA 14) (eA 12)) (eA 15));have A:=hc A (hv C A 16 MO Ud (eA 16));have A:=hc A (hv C A 17 TN (O7 (eA 16) (eA 12)) (eA 17));have A:=hc A (hv C A 18 NO Fd (eA 18));have A:=hc A (hv C A 19 mV Yl (eA 19));have A:=hc A (hv C A 20 xV Fk (eA 20));have A:=hc A (hv C A 21 yY Sd (eA 21));have A:=hc A (hv C A 22 nV (Td (eA 21)) (eA 22));have A:=hc A (hv C A 23 uV (T1 (eA 22) (eA 21) (yT 0) (yT 1)) (eA 23));have A:=hc A (hv C A 24 iJ (A7 (yT 0)) (eA 24));have A:=hc A (hv C A 25 uS (Ek (yT 0)) (eA 25));have A:=hc A (hv C A 26 AN E1 (eA 26));have A:=hc A (hv C A 27 AO (z8 (eA 26)) (eA 27));have A:=hc A (hv C A 28 SO Nd (eA 28));have A:=hc A (hv C A 29 PL (k8 (eA 23) (eA 24) (eA 25) (eA 27) (eA 28) (yT 0)) (eA 29));have A:=hc A (hv C A 30 NL (Vd (eA 29)) (eA 30));have A:=hc A (hv C A 31 OL (v8 (eA 30)) (eA 31));have A:=hc A (hv C A 32 bV Pk (eA 32));have A:=hc A (hv C A 33 OO (Gd (eA 31) (eA 32)) (eA 33));have A:=hc A (hv C A 34 RO (Hd (eA 16) (eA 20) (eA 19) (eA 33)) (eA 34));have A:=hc A (hv C A 35 mf (Ld (eA 11) (eA 15) (eA 17) (eA 18) (eA 34)) (eA 35));have A:=hc A (hv C A 36 vV Lk (eA 36));have A:=hc A (hv C A 37 EN (Rk (eA 35)) (eA 37));have A:=hc A (hv C A 38 zV (Gk (eA 36) (eA 37)) (eA 38));have A:=hc A (hv C A 39 TX Dk (eA 39));have A:=hc A (hv C A 40 cS xl (eA 40));have A:=hc A (hv C A 41 OX Tk (eA 41));have A:=hc A (hv C A 42 NX Dd (eA 42));have A:=hc A (hv C A 43 LX (Hk (eA 42) (eA 16)) (eA 43));have A:=hc A (hv C A 44 i4 (Bk (eA 20) (eA 43) (eA 19) (eA 41)) (eA 44));have A:=hc A (hv C A 45 oS (gr (eA 31) (eA 30)) (eA 45));have A:=hc A (hv C A 46 nS (il (eA 44) (eA 45) (eA 32)) (eA 46));have A:=hc A (hv C A 47 mS (ul (eA 46) (eA 37)) (eA 47));have A:=hc A (hv C A 48 LO S7 (eA 48));exact hl C A F cn (yl (eA 40) (eA 38) (eA 10) (eA 35) (eA 39) (eA 0) (eA 1) (eA 47) (eA 48))
def hk:PySem.W.Hook:=#[IZ×Option Obj,ob,λ_=>(due,jr (QBb #[])),λ_ h=>∃K:QA,K.In h/\seen K=due/\h.get? tA=jr (QBb #[]),λ_ _ e=>#[_,tX _,(QAN e).1,(QAN e).2],λ_ _ _ #[K,X,e,t] k=>#[K,X.keeps k,e,k _ _ t]]
end
end L2.L3.K48
open PySem PySem.W PyProof.Rows
set_option maxRecDepth 100000 in
set_option maxHeartbeats 0 in
theorem PySem.Challenge.cw_quoteweave_k48_whole_moments_holds : PySem.Challenge.rw_quoteweave_k48_whole_moments.Holds := by
 refine holds_law L2.L3.Q.ws λy=>?_;refine holds_open (q:=L2.L3.Q.qv) (loose:=[]) (Xt:=L2.L3.Q.xt) (XP:=XL L2.L3.Q.qv []) (Yf:=Hook.obs L2.L3.K48.hk) (Ya:=Hook.val L2.L3.K48.hk) (YP:=Hook.says L2.L3.K48.hk) (N:=3226) L2.L3.Q.lf (Hook.of L2.L3.K48.hk) (Hook.keeps L2.L3.K48.hk) (λs e=>xl_of s (W8.mp e).1) XL.keeps (by rfl) (by rfl) (by rfl) (λs e=>recFacts_of (W8.mp e).2) (by rfl) (by first|assumption|decide +kernel) (by decide +kernel) ⟨rfl,rfl,rfl,rfl,rfl,by decide +kernel⟩ ?hw ?hc
 case hw=>w_witness2
 case hc=>exact L2.L3.walk_seen (l:=qC) (k:=50) (x:="_law_script") (Fs:=λK=>L2.L3.Q.seen K=L2.L3.Q.due) rfl rfl ⟨rfl,by decide,by decide⟩ (λw h Y=>Y) (λK e=>L2.L3.go_of e) λw u v h K X e z G m=>L2.L3.K48.all (L2.L3.K48.cx_of X G e (by kernel_rfl) (by kernel_rfl)) z m
