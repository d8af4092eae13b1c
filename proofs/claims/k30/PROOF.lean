import PyProof.Rows.All
import Wide.All
import OpenK.AllK
import Wide.FinOn
import Lean
import PyProof.EqAt
import PyProof.EqKinds
import PyProof.TupleCall
import PySem.Challenge.RW_quoteweave_k30_going_order
noncomputable section
set_option Elab.async false
set_option linter.all false
set_option compiler.extract_closed false
set_option bootstrap.genMatcherCode false
set_option genInjectivity false
set_option genSizeOf false
set_option maxRecDepth 100000
set_option maxHeartbeats 4000000
open PySem.W renaming Frag->QA,kia_one->qJ,nsIn->qp,fnOf->qq,keepIn->wR,mg_of->Wc,codeIn->Wm,WData->W9,codeHd_of_K->QAK,mg_none_of->QAS,methodObj->QAe,kitx_list->QAf,codeHdIn->QAr,cellsFrom_some->QAx,instObj->QA4,lookIn->QBM,kitOne->QBN,tabObj->QBR,kitx_tuple->QBn,kitx_dict->QBy,plainGet->QCQ
open PySem.PyData renaming str->j3,int->j5
open PySem.Value renaming none->Kz,ref->kx
open PySem renaming wpAny_bind->QC,wpAny_pure->QK,wpAny_newObj_type->Qz,wpAny_loadPart'->Q0,sizeLine_eq->Q5,wpAny_call_entry->qK,mem_of_lookup->qM,wpAny_callSpecial?_slot->qO,Spec->qh,wpAny_holding->ql,wpAny_typeNameOfWhole_itemiter->qt,wpAny_mono->qu,wpAny_Call_Name_kw->qw,wpAny_typeNameOfWhole_keyiter->wA,wpAny_truthy_bool->wF,wpAny_dictEntries->wG,wpAny_setField_rec->wO,wpAny_field->wU,wpAny_passesOwn->wY,wpAny_dictEpoch->w6,wpAny_isOneOf_itemiter->Wg,wpAny_pyIter_list->Wi,wpAny_notOrdered_dict->Wp,wpAny_attempt->W8,wpAny_execs_nil->QAB,codeAny_builtin->QAD,wpAny_setField->QAa,wpAny_fieldsOf->QAb,seqIndex_of->QAl,wpAny_Call_method0_late->QAm,wpAny_newList->QAn,wpAny_isInstance->QAt,wpAny_eqBool_int->QAu,wpAny_isOneOf_keyiter->QA9,wpAny_Name->QBE,wpAny_loadName_local->QBF,wpAny_newFunctionEnv->QBG,wpAny_seqItems->QBL,wpAny_newTuple->QBP,wpAny_loadName_free->QBS,wpAny_Tuple_spliced->QBT,evalArgs_none->QBU,wpAny_setItem_pairs->QBV,wpAny_Constant_int->QBj,wpAny_standAt->QBk,rangeSize_one->QBl,wpAny_handled->QBr,wpAny_pyIter_tuple->QBs,plainId_quiet->QBt,wpAny_assign_Name->QBw,slot_list_getitem->QB1,call_meets->QB2,wpAny_rule->QB4,wpAny_pyIter_slot->QB5,wpAny_pyIter_enum->QB9,codeAny_mono->QCF,wpAny_typeOf->QCG,seqIndex_neg->QCH,call_range_1->QCK,wpAny_pyHash_str->QCN,wpAny_forIn_list->QCO,wpAny_execs_cons->QCP,wpAny_of_eq->QCX,wpAny_throw->QCY,storedH_new->QCZ,typeIs_str->QCe,Str->QCh
open List renaming mem_cons_of_mem->QD,length_map->QE,mem_cons_self->QF,mem_singleton->QI,length_append->QJ,length_cons->QL,mem_cons->QM,size_toArray->QN,map_append->QR,map_cons->QU,map_map->QX,mem_map->QY,mem_filter->QZ,mem_append_right->Qa,getElem?_map->Qd,nodup_cons->Qe,getElem?_eq_some_iff->Qf,mem_append->Qg,nil_append->Qh,contains_iff_mem->Qk,all_eq_true->Ql,mem_append_left->Qp,getElem?_eq_getElem->Qr,range->Qt,isEmpty_iff->Qv,nodup_nil->Q1,append_assoc->Q2,getElem?_eq_none->Q7,length_singleton->Q8,length_filter_le->Q9,mem_range->qA,filter_sublist->qB,append_nil->qE,toArray->qG,getElem?_append_right->qH,length_range->qL,getElem?_set_ne->qP,mem_of_getElem?->qQ,getElem?_append_left->qR,length_nil->qY,length_set->qa,all_cons->qb,getElem?_set_self->qf,nodup_append->qj,length_replicate->qr,getElem_mem->qz,ext_getElem?->wE,getElem?_set->wH,length->wI,find?_cons->wK,map_congr_left->wL,map_inj_right->wP,getElem?_cons_succ->wg,getElem?_replicate->wk,length_take->wn,lookup_cons->wo,not_mem_nil->wt,mem_flatMap->wu,drop_eq_nil_of_le->ww,zip_cons_cons->wx,any_cons->WC,set->WE,flatMap_cons->WF,map_snd_zip->WM,filter_cons->WN,filterMap_cons->WO,getElem?_range->WP,range'->WQ,map_nil->WR,length_pos_of_mem->Wh,map_inj_left->Wl,mem_iff_getElem?->Ws,length_drop->Wt,map_fst_zip->Ww,any_eq_true->Wx,getElem?_modify->W0,forIn_cons->QAA,foldl_cons->QAH,pairwise_cons->QAU,replicate->QAX,drop_eq_getElem_cons->QAc,length_erase_of_mem->QAh,foldl_append->QAi,getElem?_cons_zero->QAj,length_eq_zero_iff->QAp,cons_append->QAq,nodup_range->QAw,length_eq_one_iff->QA1,modify_succ_cons->QA2,modify_zero_cons->QA3,of_mem_zip->QA5,getD->QA7,map_set->QBC,mem_erase_of_ne->QBJ,forIn_nil->QBO,getElem_of_mem->QBW,mem_map_of_mem->QBY,mergeSort_perm->QBa,set_cons_zero->QBc,set_cons_succ->QBd,mem_filterMap->QBm,any_eq_false->QBx,take_sublist->QBz,mapM_toArray->QB7,pairwise_map->QCA,getElem?_inj->QCB,all_map->QCI,any_map->QCM,lookup->QCV,map_id->QCb,Perm->QCi
open Bool renaming false_ne_true->QG,and_eq_true->Qb,false_eq_true->Qu,not_eq_true'->Q6,eq_iff_iff->qF,or_eq_true->wc,not_false->WI,true_and->WV,and_eq_true_iff->W5,not_true->W6,false_and->QAV,false_or->QAk,and_false->QBK,and_true->QBe,or_false->QBf,or_true->QCD,true_or->QCE
open PySem.Heap renaming get?_push_of_some->QH,get?_push_size->QO,lt_size->QV,SameBut->qV,get?_update_self->wz,size_push->WK,ExtBut->QAC,get?_update_other->QAy,get?_push_cases->QBI,size_update->QCT,IsList->QCW
open PySem.Str renaming ofString->QS
open Nat renaming le_refl->QT,le_trans->QW,ne_of_lt->Qj,lt_of_lt_of_le->Qo,zero_le->Qs,lt_irrefl->wC,le_succ->wJ,lt_of_succ_lt_succ->wv,ne_of_gt->wy,le_of_eq->w4,lt_succ_of_lt->WD,lt_of_le_of_lt->WW,min_eq_left->We,zero_add->Wn,succ_le_succ->Wu,le_of_lt->QAP,lt_or_ge->QAR,le_add_right->QAv,zero_lt_one->QBB,le_antisymm->QCd,blt->QCg
open False renaming elim->Qc
open Option.some renaming inj->Qi,injEq->Qq
open Ne renaming symm->Qm
open Array renaming length_toList->Qn,perm_iff_toList_perm->qI,getElem?_toList->wN,toList_inj->WL,getD_eq_getD_getElem?->QAI,getElem?_eq_some_iff->QAO,getElem?_eq_none->QA0,toList_append->QBb,forIn_toList->QBg,getD->QB6
open PySem.PyData renaming eqv->Qw,strOk->qW,canLayAll0->qk,depthAll->wb,canLay0->QAZ,depth->QA6,noConfusion->QBq
open Option renaming map_some->Qx,map_none->we,getD_some->Wv,isNone_iff_eq_none->QAd,isSome_map->QAg,getD_none->QCR
open PySem.Challenge renaming pw_quoteweave_k30_going_order->Qy,rw_quoteweave_k30_going_order->qD
open PySem.Heap.SameBut renaming update->Q3
open PySem.Obj renaming mapSeq->Q4,data_mapFields->WZ,isFreed_of_fields->QA8,data_mapDictKeys->QBH,cls_mapFields->QB3
open PySem.Paired renaming length->qC
open Int renaming toNat_natCast->qN,eq_ofNat_of_zero_le->qd,emod_lt_of_pos->wQ,lt_irrefl->wm,emod_nonneg->WA,le_trans->QAT,ofNat_le->QBD,natCast_nonneg->QBv,le_refl->QCc,toNat->QCj
open LawfulBEq renaming eq_of_beq->qS
open PySem.Builtin.SmallTypes renaming nextOf->qT
open PySem.F renaming slot_dict_itemiterator_next->qU,slot_dict_keyiterator_next->qX,slot_tuple_iterator_next->qe,args_tuple_iterator_next_1->WU,entry_tuple_iterator_next->WY,plainAttrs_list->Wb,args_dict_itemiterator_next_1->Wj,entry_dict_itemiterator_next->Wo,args_dict_keyiterator_next_1->Wr,entry_dict_keyiterator_next->Wz,slot_dict_getitem->QAY,plainAttrs_dict->QAo,slot_dict_items_iter->QAz,plain_list_iadd->QCC,slot_dict_iter->QCS
open PyProof.Rows renaming callWith_type1->qZ,subscriptTail_builtinR->qg,slot_tuple_getitem->wZ,listUpdate_at->Wa,get?_update_seq->QAE,slot_tuple_getitem->QAQ,seqEpoch_at->QBX,getItem_tuple->QBp,sortedAll_old->QBu,Subscript_->QB0,listItems_at->QCJ,sortedAll_at->QCL,boot_range->QCf
open PySem.SeqAt renaming EqAt->qi,eqv_refl->WH
open Prod renaming fst->qy,ext->QCU
open Lean.Parser.Tactic renaming tacticSeq->wB
open PySem.Calls renaming spliced_cons->wM,spliced_nil->WB,callWith_builtin->Wf,Name_function_global->QAM
open PySem.Builtin.Slice renaming slicePlaces->wT,sliceAdjust->WJ,sliceApplied->QAN
open PySem.Builtin.Dict_items renaming addrOf->wV,ownsTuple->W7
open Iff renaming rfl->wW
open Classical renaming byContradiction->wX
open PySem.Builtin.Tuple renaming tupleExact->wa,tupleItemsOf->QAL,tupleHashOf->QAW
open List.Pairwise renaming imp_of_mem->wf,map->Wk
open PySem.Builtin.Str renaming occurrences->wj
open PySem.W.WData renaming weightAll->wl,weight->W4
open PySem.Txt renaming slice->wq
open PySem.Around renaming under_plainId->WG,in1_units->QAs
open PySem.Builtin.List renaming listTooLong->WS
open List.Perm renaming eq_of_pairwise->WT,refl->QBQ
open PySem.Builtin.Range renaming rangeSize->WX,small->QBZ
open PySem.Builtin.Dict renaming showsAll->Wq
open List.cons renaming injEq->QAF
open PySem.Builtin.Int renaming intBits->QAG
open Prod.mk renaming inj->QAJ
open Array.Perm renaming refl->QBA
open PySem.SeqAt.EqAt renaming int_str->QBh,str_int->QBi,int_int->QBo
open PyProof.Rows.SortSt renaming mk'->QB8
open StateT renaming run_pure->QCa
theorem dF{p:Prop}[Decidable p](h:¬p):decide p=false:=_root_.decide_eq_false h
theorem dT{p:Prop}[Decidable p](h:p):decide p=true:=_root_.decide_eq_true h
abbrev PB:=List (PySem.Addr×PySem.Obj)
abbrev cC:=PySem.Value -> PySem.Shared -> Prop
abbrev fB:=PySem.Addr -> Prop
abbrev rC:=List (QCh×QCh)
open Option renaming some->kv,none->kf
open Bool renaming true->kd,false->kb
open PySem renaming Value->kn,sizeLine->kt,Shared->ku,wpAny->ko,Addr->k0,model->k5,mainGlobals->Vz,Program->vx,compareOp->vu,Heap->v5,World->v8,starEach->v9,Around->Xz,PyData->xk,Paired->y0,sysModules->y1,bootBuiltins->y2,FuncData->y3,cLine->Z1,Stmt->z4,eval->Gz,Operator->gV,Scope->gl,foldedSetIterable->gp,assignEach->g6,rawInt->g7,firstArgMember->Hz,binaryOp->hZ,entryOfKey->hB,sliceBounds->hE,backTo->hQ,CmpOp->h7,NameKind->Fz,codeAmong->fy,attributeBase->fk,letOwnedTupleGo->fv,typeNameOfWhole->fb,recursionLimit->fm,IntMulOk->Dz,DictEntry->DC,builtinsNs->dy,call->dt,IsItemIter->d6,atKey->d7,assign->d8,bindArgs->d9,ReadsAll->Bz,spliced->bb,swapsWith->Cz,Keyword->c0,relabel->c5,valueAt->Ez,behindInMarks->ej,pyIter->eH,IsPart->ef,closureFor->ew,BindsTo->Lz,getItem->lb,callerA->ln,eqIsQuiet->lp,TriplesOk->la,pyNext->li,codeAny->lw,bindL->l0,bindC->l4,PlainAttrs->l5,wpAny_notIn_of->Mz,newExc->me,newTuple->mu,dictSetDefault->mA,assignInOrder->mi,intBits_le_64->Nz,evalPart_none->nL,call_list_seq->nP,comprehension->ni,IsItemIterOut->n6,Comprehension->Pz,Arguments->P0,PassesOwn->pd,small_one->pc,cellsFrom->pL,Const->pR,holding->pu,UnaryOp->p0,storedH->p6,IsRange->Rz,HeapKind->RD,field->RB,raiseNew->Rt
open Pure renaming pure->rk
open PyProof.Rows renaming seqObj->rn,IntsAre->ri,oneType'->ro,StrsAre->Sy,AllBare->Sh,envOfC->sh,pairsOf->sf,subscriptTail->sn,sortedS->Tz,IsTup->tj,entry_list_sort->tv,slicePart_none->th,slot_list_sort->tt,failedOf->ti
theorem t3.{u}{c:Prop}{d:Decidable c}(h:¬c){α:Sort u}{t e:α}:ite c t e=e:=_root_.if_neg h
theorem t6.{u}{c:Prop}{d:Decidable c}(h:c){α:Sort u}{t e:α}:ite c t e=t:=_root_.if_pos h
theorem Uz{a b:Prop}(h:a)(k:¬a):b:=_root_.absurd h k
theorem Az{a b:Prop}(h:a<->b):a=b:=_root_.propext h
theorem aj{p:Prop}[Decidable p](h:decide p=true):p:=_root_.of_decide_eq_true h
theorem ax{p:Prop}[Decidable p]:decide p=true<->p:=_root_.decide_eq_true_iff
theorem ak.{u,v}{α:Sort u}{β:Sort v}{a b:α}(f:α->β)(h:a=b):f a=f b:=_root_.congrArg f h
local macro_rules | `($x.$i:fieldIdx)=>if i.raw.isFieldIdx?==some 9 then `(($x).length) else Lean.Macro.throwUnsupported
set_option hygiene false in
local macro_rules
 | `(#[$xs,*])=>if xs.getElems.isEmpty then Lean.Macro.throwUnsupported else `(⟨$xs,*⟩)
 | `(())=>`(by omega)
open Lean Parser.Tactic in
def zzp:Nat->Syntax->MacroM (TSyntax `rcasesPat)
 | 0,_=>Macro.throwUnsupported
 | n+1,s=>match s with
  | `(#[$xs,*])=>do
   let a<-xs.getElems.mapM λx=>do let p<-zzp n x;`(rcasesPatLo| $p:rcasesPat)
   `(rcasesPat| ⟨$a,*⟩)
  | `(_)=>`(rcasesPat| _)
  | `($x:ident)=>`(rcasesPat| $x:ident)
  | _=>Macro.throwUnsupported
local macro_rules | `(tactic| let $p:term:=$e:term)=>do `(tactic| obtain $(<-zzp 9 p):rcasesPat:=$e)
set_option hygiene false in
local macro_rules | `(tactic| omega)=>do
 let f:=λ(s:String)=>(s.splitOn " ").toArray.map λx=>Lean.mkIdent x.toName
 let a<-(f "L2.szA L2.szB L2.szC L2.unA Nat.le_trans Nat.lt_of_le_of_lt").mapM λx=>`(wB| exact $x (by assumption) (by decide))
 let b<-(f "Nat.lt_of_lt_of_le Nat.lt_of_le_of_lt Nat.le_trans").mapM λx=>`(wB| exact $x (by assumption) (by assumption))
 let c<-(f "Nat.le_of_lt Nat.ne_of_lt Nat.ne_of_gt Nat.lt_succ_of_lt Nat.le_of_lt_succ L2.prA").mapM λx=>`(wB| exact $x (by assumption))
 let d<-(f "Nat.le_refl Nat.le_succ Nat.zero_le Nat.succ_pos").mapM λx=>`(wB| exact $x _)
 `(tactic| first|decide|assumption|exact L2.szL (by decide) $[| $a]* $[| $b]* $[| $c]* $[| $d]*|lia|omega (config:={})|(have:=PySem.sizeLine_eq;first|lia|omega (config:={})))
set_option hygiene false in
local macro_rules
 | `(%[ $xs,*|1 ])=>do
  let mut r<-`(PX.anil)
  for x in xs.getElems.reverse do r<-`(PX.acons $x $r)
  return r
 | `(%[ $xs,*|2 ])=>do
  let mut r<-`(PT.nil)
  for x in xs.getElems.reverse do r<-`(PT.seq $x $r)
  return r
def zza:="vA Dg Hg B8 Gg Lg Og Cg U8 Fg Ng Bg kh Hs N8 Zg mh xh Ls dh rh Vg ph Jh Xg bh Kg X8 Ms uh pU oU O8 oh nh nU gh vh P8 ug V8 gm cg Zh S8 tU aU Pg Sr D8 Ag Eg Ar Sg Rg C8 My Ry Ny Py Oy Cs Bs Hy Ly Ex Tx Ax Uy Vy Xy Ky Zt uy Ey Ay BX Uq Bq Jy iy ay sy oy ny my ly gy cy Ks Zs Ys Js Ig yy jy zy Er yh Yy zx Yh Rs Ur Jg ig gg og lg eg rg gq fq Ef Af Nf Lf gr nr Zw Dl Vr Sf Rf z8 Mf k8 jN Pf Xx Rx Ip Ep Ee Ie z6 sx Bh U1 Ln ox Dx Fx Oo Yx Jx jo Sn vo Ed Yg Ff EB reduceIte"
def zzb:="DH HE BF bN T.isD lockA eB lock kill iK Tg.ix oC IW bO KR isMut EV frzAt bW Pc JC.eq_1 JC.eq_2 lM.eq_1 lM.eq_2 lM.eq_3 lM.eq_4 u6 x6 k6 ZI.eq_1 List.modify_succ_cons List.modify_zero_cons Option.map_some List.length_cons List.length_nil List.getElem?_cons_zero List.getElem?_cons_succ List.cons_append List.nil_append List.set_cons_zero List.set_cons_succ Nat.reduceAdd Nat.reduceSub Nat.zero_add Bool.and_true Bool.true_and Bool.not_true Bool.not_false Bool.or_true Bool.true_or Bool.or_false Bool.false_or Bool.and_false Bool.false_and if_true if_false Bool.false_eq_true true_and and_true false_implies ne_eq reduceCtorEq not_false_eq_true not_true_eq_false implies_true forall_const Int.reduceLT Int.reduceLE Int.reducePow Int.reduceNeg Nat.reducePow and_self eq_self Option.some.injEq Sl.own.injEq Sl.bor.injEq and_assoc decide_true decide_false"
set_option hygiene false in
local macro_rules | `(tactic| simp! [$ls,*])=>do
 let a<-(zza.splitOn " ").toArray.mapM λx=>`(Lean.Parser.Tactic.simpLemma| ↓ $(Lean.mkIdent x.toName):ident)
 let b<-(zzb.splitOn " ").toArray.mapM λx=>`(Lean.Parser.Tactic.simpLemma| $(Lean.mkIdent x.toName):ident)
 `(tactic| simp only [$ls,*,$a,*,$b,*])
set_option hygiene false in
local macro_rules | `(tactic| simp_arith! [$ls,*])=>do
 let a<-(zza.splitOn " ").toArray.mapM λx=>`(Lean.Parser.Tactic.simpLemma| ↓ $(Lean.mkIdent x.toName):ident)
 let b<-(zzb.splitOn " ").toArray.mapM λx=>`(Lean.Parser.Tactic.simpLemma| $(Lean.mkIdent x.toName):ident)
 `(tactic| simp -implicitDefEqProofs only [$ls,*,$a,*,$b,*])
abbrev LS:=List QCh
abbrev LN:=List Nat
abbrev LJ:=List Int
abbrev LW:=List PySem.Value
namespace L2.L3.Q
open PySem PySem.W PySem.Spec PyProof.Rows
noncomputable def gt(x:List k0)(h:v5):QA:=x.filterMap λa=>(h.get? a).map λo=>(a,o)
noncomputable abbrev Kt:=(Str×Str×P0×FuncBody×gl)×(k0×List (Str×k0)×kn×k0)×Bool
noncomputable def Im(h:y3)(b:Bool):Kt:=((h.name,h.qualname,h.params,h.body,h.scope),(h.globals,h.closure,h.defaults,h.builtins),b)
def fW(K:QA)(x:Str):Option Kt:=match qp K Vz x with
 |some (kv (.ref f))=>(match K.lookup f with
  |some #[_,_,.func fd,_]=>kv (Im fd (Wm K fd.code x&&wR K (.ref f)))|_=>kf)
 |_=>kf
def pT(x:Str)(st:z4):Option Kt:=match st with
 | .FunctionDef _ a b _ _ _ sc _ _ _=>kv (Im (qq x x a b sc .none .none .none .none kf .none .none) kd)|_=>kf
def Bo:kn->Option Str
 | .str z _=>kv z|_=>kf
noncomputable def Ph(K:QA)(x:Str):Option (List (Option Str)):=match qp K Vz x with
 |some (kv (.ref f))=>(match K.lookup f with
  |some #[.type t,_,.seq its _,_]=>if t="tuple" then kv (its.toList.map Bo) else kf|_=>kf)
 |_=>kf
def Uv:kn->Option Int
 | .int i _=>kv i|_=>kf
noncomputable def Lh(K:QA)(x:Str):Option Int:=match qp K Vz x with
 |some (kv u)=>Uv u|_=>kf
noncomputable def JV(K:QA)(x:Str):Bool:=match qp K Vz x with
 |some kf=>kd|_=>kb
noncomputable def vG(K:QA)(T:k0):Bool:=(match qp K Vz "going_order" with
 |some (kv (.ref f))=>(match K.lookup f with
  |some #[_,_,.func fd,_]=>(match fd.code with
   | .ref c=>QAr K c T|_=>kb)
  |_=>kb)
 |_=>kb)&&((match qp K Vz "__builtins__" with
 |some (kv (.ref b))=>(match K.lookup b with
  |some #[.type t,kv d,.plain,_]=>t == "module" && (d==dy&&(b != dy&&(b != Vz&&b != T)))|_=>kb)
 |_=>kb)&&((K.lookup T).isNone&&Vz != T))
def top(i:Nat):Stmt:=Qy.main.body.getD i (.Pass #[0,0,0,0])
noncomputable def fT:List (Str×Nat):=([("_law_folded",35),("_law_draw",31),("_law_names",32),("_law_people",33),("_law_event",34),("_law_world",36),("going_order",16),("_law_whole",37),("has_against",21),("rank_of",19),("floor_of",20),("is_taken",18),("seen_among",23),("wrong_among",22),("live_among",24),("edges_of",27),("seers_of",26),("add_way",6),("add_name",5),("rooms_of",4),("points_reached",7),("lay_chain",8),("name_behind",10),("chain_from",9),("full_names",11),("apart_chains",3),("told_through",14),("ground_alone",13),("needs_of",29),("holders_in",28),("held_among",25),("gone",17),("_law_step_formed",38),("law",39)]:List (String×Nat)).map λp=>(QS p.1,p.2)
def tT:List (Str×LS):=[("BEGIN",["","begin"])]
def sT:List (Str×Int):=[("WIDE",2)]
noncomputable def nT:LS:=(["all","any","bool","enumerate","int","isinstance","len","list","range","sorted","tuple"]:List String).map QS
noncomputable def qv:Program:={ Qy with main:={ Qy.main with body:=[1,2,3,4,5,6,7,8,9,10,11,13,14,16,17,18,19,20,21,22,23,24,25,26,27,28,29,31,32,33,34,35,36,37,38,39].map top } }
def tA:Addr:=84
noncomputable abbrev tY:=List (Option Kt)×List (Option (List (Option Str)))×List (Option Int)×List Bool×Bool
def seen(K:Frag):tY:=(fT.map λp=>fW K p.1,tT.map λp=>Ph K p.1,sT.map λp=>Lh K p.1,nT.map (JV K),vG K tA)
def due:tY:=(fT.map λp=>pT p.1 (top p.2),tT.map λp=>kv (p.2.map kv),sT.map λp=>kv p.2,nT.map λ_=>kd,kd)
def fr(s:ku):Frag:=gt ((Qt 218).filter λa=>a != tA) s.1
def xt(s:ku):Bool:=xlAt qv [] s&&recOk (RowW.records qD.row.toRowW) s
def ob(s:ku):tY×Option Obj:=(seen (fr s),s.1.get? tA)
theorem lf:LeftO Qy qv [] xt ob (λ_=>(due,kv (tabObj #[]))) 2252:=by intro w;kernel_rfl
theorem ws:qD.wellSaid=true:=by kernel_rfl
end L2.L3.Q
namespace L2
open PySem PySem.Spec PyProof.Rows
section
variable{n m:Nat}
theorem szL(h:n<=16777216):n<=sizeLine:=by rw[Q5];exact h
theorem xz(h:n<16777216):n<sizeLine:=by rw[Q5];exact h
theorem uz(h:n<=m)(k:m<=16777216):n<=sizeLine:=szL (QW h k)
theorem Yz(h:n<=m)(k:m<16777216):n<sizeLine:=xz (WW h k)
theorem Jz(h:n<=m)(k:m<=16777216):0+n<=sizeLine:=by rw[Wn];exact uz h k
theorem iz{k c:Nat}(h:n+k<c)(l:m<=k):n+m<c:=WW (Nat.add_le_add_left l n) h
end
open PySem.SeqAt
inductive NK where
 |s (x:Str)|t (xs:List NK)
noncomputable instance:DecidableEq NK:=λ_ _=>Classical.propDecidable _
mutual
def L0(h:v5):NK->kn->Prop
 | .s x,v=>∃t,v=.str x t|.t ks,v=>∃a y,v=.ref a/\h.IsTuple a y/\NKvs h ks y.toList
def NKvs(h:v5):List NK->LW->Prop
 |[],vs=>vs=[]|k::ks,vs=>∃v r,vs=v::r/\L0 h k v/\NKvs h ks r
end
mutual
def T5:NK->Nat
 | .s _=>0|.t h=>nkds h+1
def nkds:List NK->Nat
 |[]=>0|k::ks=>max (T5 k) (nkds ks)
end
mutual
def Iu(w:v8):NK->Int
 | .s x=>hashStr w x|.t h=>reduceHash (QAW (nkhs w h))
def nkhs(w:v8):List NK->LJ
 |[]=>[]|k::ks=>Iu w k::nkhs w ks
end
mutual
def Mm:NK->Nat
 | .s _=>1|.t h=>nkts h+1
def nkts:List NK->Nat
 |[]=>0|k::ks=>Mm k+nkts ks
end
theorem kX{h:v5}{a:k0}{xs x:Array kn}(p:h.IsTuple a xs)(q:h.IsTuple a x):xs=x:=by let#[o,e,_,n,d]:=p;let#[u,y,_,v,z]:=q;cases e.symm.trans y;cases d.symm.trans z;rfl
mutual
theorem A5{h:v5}:∀{k l:NK}{v:kn},L0 h k v->L0 h l v->k=l
 | .s x,.s y,v,#[t,e],#[u,e']=>by subst e;cases e';rfl|.s x,.t ls,v,#[t,e],#[_,_,e',_]=>by subst e;cases e'|.t ks,.s y,v,#[_,_,e,_],#[_,e']=>by subst e;cases e'|.t ks,.t ls,v,#[a,its,e,p,q],#[b,jts,e',p',q']=>by subst e;cases e';cases kX p p';rw[nks_inj q q']
theorem nks_inj{h:v5}:∀{ks ls:List NK}{vs:LW},NKvs h ks vs->NKvs h ls vs->ks=ls
 |[],[],_,_,_=>rfl|[],_::_,_,e,#[_,_,e',_]=>by cases(show _=[] from e).symm.trans e'|_::_,[],_,#[_,_,e',_],e=>by cases(show _=[] from e).symm.trans e'|k::ks,l::ls,_,#[v,r,e,p,q],#[v',r',e',p',q']=>by cases e.symm.trans e';rw[A5 p p',nks_inj q q']
end
mutual
theorem KS{h h':v5}(k:∀a its,h.IsTuple a its->h'.IsTuple a its):∀{x:NK}{v:kn},L0 h x v->L0 h' x v
 | .s x,v,e=>e|.t ks,v,#[a,its,e,p,q]=>#[a,its,e,k a its p,nks_keeps k q]
theorem nks_keeps{h h':v5}(k:∀a its,h.IsTuple a its->h'.IsTuple a its):∀{xs:List NK}{vs:LW},NKvs h xs vs->NKvs h' xs vs
 |[],_,e=>e|x::xs,_,#[v,r,e,p,q]=>#[v,r,e,KS k p,nks_keeps k q]
end
section
variable{prog:vx}{w:v8}{E:cC}
mutual
theorem UX:∀(k:NK) (v:kn) (A:Xz) (s:ku) (Q:Int->ku->Prop),L0 s.1 k v->A.units+T5 k<Z1->Q (Iu w k) { s with toks:=s.toks+Mm k }->ko (k5 prog w) A (pyHash v) Q E s
 | .s x,v,A,s,Q,#[t,e],_,q=>by subst e;exact QCN q|.t ks,v,A,s,Q,#[a,its,e,#[o,ho,hc,n,hd],hi],h,q=>by subst e;have h:A.units+(nkds ks+1)<cLine:=h;refine PySem.W.pyHash_slot (T:="tuple") #[o,ho,hc] F.slot_tuple_hash F.entry_tuple_hash (F.args_tuple_hash_1 _) (beq_builtin_none _) (.inr ()) ?_;show ko _ _ (QAL (.ref a) >>= _) _ _ s;refine QC (wpAny_tupleItemsOf ho hd ?_);refine QC ?_;rw[<- QBg];refine nk_loop ks its.toList A.in1 s #[] _ hi (by rw[QAs];omega) λb hb=>?_;show ko _ _ (retInt (QAW b.toList)) _ _ _;rw[hb];exact QC (wpAny_mkInt (QK #[_,_,rfl,by rw[Nat.add_assoc];exact q]))
theorem nk_loop:∀(ks:List NK) (vs:LW) (A:Xz) (s:ku) (b:Array Int) (Q:Array Int->ku->Prop),NKvs s.1 ks vs->A.units+nkds ks<Z1 ->
  (∀y,y.toList=b.toList++nkhs w ks->Q y { s with toks:=s.toks+nkts ks }) ->
  ko (k5 prog w) A (forIn vs b λx r=>do let h <- pyHash x;rk PUnit.unit;rk (ForInStep.yield (r.push h))) Q E s
 |[],vs,A,s,b,Q,e,_,q=>by subst e;exact QK (q b (qE _).symm)|k::ks,vs,A,s,b,Q,#[v,r,e,p,p'],z,q=>by subst e;have z:A.units+max (T5 k) (nkds ks)<cLine:=z;rw[QAA];refine QC (QC (UX k v A s _ p () ?_));refine QC (QK (QK ?_));refine nk_loop ks r A _ _ Q p' () λy hb=>?_;have e:s.toks+Mm k+nkts ks=s.toks+(Mm k+nkts ks):=Nat.add_assoc _ _ _;have:=q y (by rw[hb,Array.toList_push,Q2];rfl);show Q y { s with toks:=s.toks+Mm k+nkts ks };rw[e];exact this
end
end
theorem vm{ks ls:List NK}{n m:Nat}(x:n=ks.9)(y:m=ls.9):((Qt (min n m)).all (λj=>decide (ks[j]?=ls[j]?))&&n==m)=decide (NK.t ks=NK.t ls):=by subst x y;rw[qF,ax,Qb,Ql,beq_iff_eq];constructor;rintro⟨z,v⟩;congr 1;refine wE λj=>?_;by_cases u:j<ks.9;exact aj (z j (qA.mpr ()));rw[Q7 (),Q7 ()];intro h;injection h with h;subst h;exact#[λ_ _=>dT rfl,rfl]
theorem lQ{h:v5}:∀{ks:List NK}{vs:LW},NKvs h ks vs->vs.9=ks.9
 |[],_,e=>by cases(show _=[] from e);rfl|_::_,_,#[v,r,e,_,q]=>by rw[e,QL,QL,lQ q]
mutual
theorem Re:∀(k l:NK) (v u:kn) (A:Xz) (s:ku),L0 s.1 k v->L0 s.1 l u->A.units+T5 k<Z1->EqAt A s v u (decide (k=l))
 | .s x,.s y,v,u,A,s,#[t,e],#[t',e'],_=>by
  subst e e';have:=EqAt.str_str (A:=A) (s:=s) x t y t';have z:(x==y)=decide (NK.s x=NK.s y):=by rw[qF,ax,beq_iff_eq];exact#[λh=>h▸rfl,λh=>by injection h]
  rw[<- z];exact this
 | .s x,.t ls,v,u,A,s,#[t,e],#[b,jts,e',p,_],f=>by subst e e';rw[dF λh=>by cases h];exact EqAt.str_tuple x t p ()|.t ks,.s y,v,u,A,s,#[a,its,e,p,_],#[t,e'],f=>by subst e e';rw[dF λh=>by cases h];exact EqAt.tuple_str y t p ()|.t ks,.t ls,v,u,A,s,#[a,its,e,p,q],#[b,jts,e',p',q'],f=>by subst e e';by_cases w:a=b;subst w;cases kX p p';rw[nks_inj q q',dT rfl];exact EqAt.same _;have f:A.units+(nkds ks+1)<cLine:=f;refine EqAt.of_refs w ?_;have i:=lQ q;have g:=lQ q';rw[Qn]at i g;rw[<- vm i g];refine RcAt.tuples p p' () λj n m=>?_;have:=nks_eq ks ls its.toList jts.toList A.in1 s q q' (by rw[QAs];omega) j (by rw[Qn];exact n) (by rw[Qn];exact m);simpa using this
theorem nks_eq:∀(ks ls:List NK) (vs us:LW) (A:Xz) (s:ku),NKvs s.1 ks vs->NKvs s.1 ls us->A.units+nkds ks<Z1->∀j (y:j<vs.9) (x:j<us.9),EqAt A s vs[j] us[j] (decide (ks[j]?=ls[j]?))
 |[],_,vs,us,A,s,e,_,_,j,y,_=>by cases(show vs=[] from e);cases y|_::_,[],vs,us,A,s,_,e,_,j,_,x=>by cases(show us=[] from e);cases x|k::ks,l::ls,_,_,A,s,#[v,r,e,p,q],#[v',r',e',p',q'],u,j,y,x=>by
  subst e e';have u:A.units+max (T5 k) (nkds ks)<cLine:=u;cases j with|zero=>have:=Re k l v v' A s p p' ();have z:decide (k=l)=decide ((k::ks)[0]?=(l::ls)[0]?):=decide_eq_decide.mpr #[λh=>by rw[h];rfl,λh=>Qi h];rw[<- z];exact this|succ j=>exact nks_eq ks ls r r' A s q q' () j (wv y) (wv x)
end
section
variable{prog:vx}{w:v8}{A:Xz}{E:cC}{s:ku}
mutual
theorem ZS:∀(k:NK) (v:kn) (n:Nat) (Q:Bool->ku->Prop),L0 s.1 k v->T5 k<=n->Q kd s->ko (k5 prog w) A (lp n v) Q E s
 | .s x,v,n,Q,#[t,e],_,q=>by subst e;rw[eqIsQuiet_byValue _ rfl];exact QK q|.t ks,v,n,Q,#[a,its,e,#[o,ho,hc,m,hd],hi],g,q=>by
  subst e;have g:nkds ks+1<=n:=g;obtain⟨n,rfl⟩:∃m,n=m+1:=#[n - 1,()]
  have i:s.TypeIs (.ref a) "tuple":=#[o,ho,hc]
  unfold lp;refine QC (wpAny_specialOf i F.slot_tuple_eq.lookup ?_);show ko _ _ (isInstance (.ref a) (.type "tuple") >>= _) _ _ s;refine QC (QAt i isSubtype_tuple_tuple ?_);simp only[W6,Qu,if_false];refine QC (QBL ho hd ?_);refine QC ?_;show ko _ _ (forIn its _ _) _ _ s;rw[<- QBg];refine QCO _ (λh r z=>r.1=kf/\z=s/\∀v∈h,∀Q:Bool->ku->Prop,Q kd s->ko (k5 prog w) A (lp n v) Q E s) _ ?_ ?_ _ _ #[rfl,rfl,nks_quiet ks its.toList n hi ()];rintro v h r z ⟨f,rfl,y⟩;refine QC (y v QF _ ?_);simp only[W6,Qu,if_false];exact QK #[rfl,rfl,λu b=>y u (QD _ b)];rintro⟨j,l⟩ z ⟨f,rfl,_⟩;cases(show j=kf from f);exact QK q
theorem nks_quiet:∀(ks:List NK) (vs:LW) (n:Nat),NKvs s.1 ks vs->nkds ks<=n->∀v∈vs,∀Q:Bool->ku->Prop,Q kd s->ko (k5 prog w) A (lp n v) Q E s
 |[],vs,n,e,_,v,hv,Q,q=>by cases(show vs=[] from e);cases hv|k::ks,vs,n,#[x,r,e,p,p'],h,v,hv,Q,q=>by subst e;have h:max (T5 k) (nkds ks)<=n:=h;rcases QM.mp hv with rfl|hv;exact ZS k v n Q p () q;exact nks_quiet ks r n p' () v hv Q q
end
end
section
variable{H:Hp}{a b:k0}{o:HO}
def zF(prog:vx)(w:v8):RD prog w NK where
 is:=λh k a=>L0 h k (.ref a)/\T5 k<=6
 hash:=Iu w
 draws:=Mm
 room:=λA=>A.units+8<Z1
 inj:=λy u=>A5 y.1 u.1
 keeps:=λ{h m k a d o p q} x j l i=>#[KS (λb f #[ob,e,c,n,v]=>#[ob,(i.2 b λz=>by subst z;cases e.symm.trans j;cases l.symm.trans v).trans e,c,n,v]) x.1,x.2]
 pyHash:=λg hk h=>UX _ _ _ _ _ hk.1 (by have:=hk.2;omega) h
 eqBool:=λg y u h=>Re _ _ _ _ _ _ y.1 u.1 (by have:=y.2;omega) _ _ _ _ h
 quiet:=λhk h=>ZS _ _ _ _ hk.1 (by have:=hk.2;omega) h
noncomputable abbrev Key:=Sum Int Str
noncomputable def CO:Key->kn->Bool
 | .inl k,v=>Value.isInt k v|.inr x,v=>Value.isStrOf x v
noncomputable def Xv(w:v8):Key->Int
 | .inl k=>hashInt k|.inr x=>hashStr w x
theorem AA:∀{k:Key}{v:kn},CO k v=kd->(∃i t,k=Sum.inl i/\v=Value.int i t)∨(∃x t,k=Sum.inr x/\v=Value.str x t)
 | .inl i,v,h=>by let#[t,e]:=Value.isInt_shape (k:=i) (v:=v) h;exact .inl #[i,t,rfl,e]|.inr x,v,h=>by let#[t,e]:=Value.isStrOf_shape (x:=x) (v:=v) h;exact .inr #[x,t,rfl,e]
theorem VZ(i:Int)(t:Tok):CO (.inl i) (.int i t)=true:=by simp[CO,Value.isInt]
theorem KZ(x:Str)(t:Tok):CO (.inr x) (.str x t)=true:=by simp[CO,Value.isStrOf]
theorem Zk(a b:Int):decide ((Sum.inl a:Key)=Sum.inl b)=(a==b):=by by_cases e:a=b;subst e;simp;have h:¬ (Sum.inl a:Key)=Sum.inl b:=λq=>e (Sum.inl.inj q);rw[dF h];exact(beq_eq_false_iff_ne.mpr e).symm
theorem pk(a b:Str):decide ((Sum.inr a:Key)=Sum.inr b)=decide (a=b):=by by_cases e:a=b;subst e;simp;have h:¬ (Sum.inr a:Key)=Sum.inr b:=λq=>e (Sum.inr.inj q);rw[dF h,dF e]
theorem Yk(a:Int)(b:Str):decide ((Sum.inl a:Key)=Sum.inr b)=false:=dF (λq=>nomatch q)
theorem Jk(a:Str)(b:Int):decide ((Sum.inr a:Key)=Sum.inl b)=false:=dF (λq=>nomatch q)
def xE(prog:vx)(w:v8):PySem.KeyKind prog w Key where
 is:=CO
 hash:=Xv w
 inj:=λv a b f hb=>by
  rcases AA f with⟨i,t,rfl,rfl⟩| ⟨x,t,rfl,rfl⟩
  rcases AA hb with⟨j,u,rfl,e⟩| ⟨y,u,rfl,e⟩
  ·injection e with e1 _;rw[e1]
  exact nomatch e;rcases AA hb with⟨j,u,rfl,e⟩| ⟨y,u,rfl,e⟩
  ·exact nomatch e
  injection e with e1 _;rw[e1]
 byValue:=λk v h=>by rcases AA h with⟨i,t,rfl,rfl⟩| ⟨x,t,rfl,rfl⟩<;>rfl
 pyHash:=λhv h=>by
  rcases AA hv with⟨i,t,rfl,rfl⟩| ⟨x,t,rfl,rfl⟩
  exact wpAny_pyHash_int h;exact QCN h
 eqBool:=λz hv h=>by
  rcases AA z with⟨i,t,rfl,rfl⟩| ⟨x,t,rfl,rfl⟩
  rcases AA hv with⟨j,u,rfl,rfl⟩| ⟨y,u,rfl,rfl⟩
  ·rw[Zk]at h;exact QAu h
  rw[Yk]at h;exact QBh i t y u _ _ _ _ h;rcases AA hv with⟨j,u,rfl,rfl⟩| ⟨y,u,rfl,rfl⟩
  ·rw[Jk]at h;exact QBi x t j u _ _ _ _ h
  rw[pk]at h;exact wpAny_eqBool_str h
 «strs»:=λk x t v h=>by
  rcases AA h with⟨i,u,rfl,e⟩| ⟨y,u,rfl,e⟩
  exact nomatch e;injection e with e1 _;subst e1;cases v<;>rfl
theorem US(prog:vx)(w:v8)(i:Int)(t:Tok):(xE prog w).is (.inl i) (.int i t)=true:=VZ i t
theorem XS(prog:vx)(w:v8)(x:Str)(t:Tok):(xE prog w).is (.inr x) (.str x t)=true:=KZ x t
set_option genInjectivity true in
inductive V where
 |non|bl (b:Bool)|int (i:Int)|str (x:Str)|byt (b:Array UInt8)|flt (b:UInt64)|ref (a:k0)|ty (n:String)
 deriving DecidableEq
abbrev LV:=List V
def VA:V->kn->Prop
 | .non,u=>u=Kz|.bl b,u=>u=Value.bool b|.int i,u=>∃t,u=Value.int i t|.str x,u=>∃t,u=Value.str x t|.byt b,u=>∃t,u=Value.bytes b t|.flt b,u=>∃t,u=Value.float b t|.ref a,u=>u=kx a|.ty n,u=>u=Value.type n
noncomputable abbrev sA:LV->LW->Prop:=y0 VA
theorem sA.length{xs:LV}{us:LW}(r:sA xs us):xs.9=us.length:=qC r
theorem sA.get:∀{xs:LV}{us:LW}{i:Nat}{x:V},sA xs us->xs[i]?=kv x->∃u,us[i]?=kv u/\VA x u
 |_,_,_,_,.nil,e=>by simp at e|_,_,0,_,.cons r _,e=>by simp at e;subst e;exact#[_,rfl,r]|_,_,i+1,x,.cons _ t,e=>by let#[u,y,h]:=sA.get (i:=i) (x:=x) t (by simpa using e);exact#[u,by simpa using y,h]
theorem sA.set{x:V}{u:kn}(r:VA x u):∀{xs:LV}{us:LW}(i:Nat),sA xs us->sA (xs.set i x) (us.set i u)
 |_,_,_,.nil=>.nil|_,_,0,.cons _ t=>.cons r t|_,_,i+1,.cons q t=>.cons q (sA.set r i t)
theorem sA.append:∀{xs h:LV}{us ws:LW},sA xs us->sA h ws->sA (xs++h) (us++ws)
 |_,_,_,_,.nil,s=>s|_,_,_,_,.cons r t,s=>.cons r (sA.append t s)
theorem sA.take:∀{xs:LV}{us:LW}(n:Nat),sA xs us->sA (xs.take n) (us.take n)
 |_,_,0,_=>.nil|_,_,_+1,.nil=>.nil|_,_,n+1,.cons r t=>.cons r (sA.take n t)
theorem sA.drop:∀{xs:LV}{us:LW}(n:Nat),sA xs us->sA (xs.drop n) (us.drop n)
 |_,_,0,r=>r|_,_,_+1,.nil=>.nil|_,_,n+1,.cons _ t=>sA.drop n t
def gU:Option V->Option kn->Prop
 |some v,kv u=>VA v u|none,kf=>True|_,_=>False
def KV{h:Type}:List (h×V)->List (h×kn)->Prop:=y0 λ(p:h×V) (q:h×kn)=>p.1=q.1/\VA p.2 q.2
def kV:Key->V
 | .inl i=>.int i|.inr x=>.str x
inductive HO where
 |lst (xs:LV)
 |tup (xs:LV)
 |dK (kvs:List (Key×V))|dT (ep:Nat) (kvs:List (NK×k0×V))
 |set (S:Int->Bool) (n:Nat)
 |ins (C dx:k0) (fs:List (Str×V))
 |own (x:k0)
 |xd (fs:List (Str×V))
 |met (f x:k0)
 |rng (lo hi:Int)
 |frz (o:Obj) (u:HO)
 |tbl (q:Str)
 |ext (φ:v5->Prop)
noncomputable abbrev Hp:=k0->Option HO
noncomputable def pA(H:Hp)(a:k0)(o:HO):Hp:=λb=>if b=a then kv o else H b
theorem bA:pA H a o a=kv o:=by unfold pA;rw[t6 rfl]
theorem jA(h:b≠a):pA H a o b=H b:=by unfold pA;rw[t3 h]
theorem K9{u:HO}:pA (pA H a o) a u=pA H a u:=by funext b;unfold pA;split<;>rfl
theorem oA(h:H a=kv o)(h':H b=kf):a≠b:=by intro e;subst e;rw[h]at h';cases h'
end
section
variable(P:vx)(w:v8)
def GA(H:Hp)(h:v5)(a:k0):HO->Prop
 | .lst k=>k.9<=kt/\∃(z:LW) (n:Nat),sA k z/\h.get? a=kv { cls:=.type "list",data:=.seq z.toArray n }|.tup k=>k.9<=kt/\∃z:LW,sA k z/\tj h a z.toArray|.dK y=>y.9<=kt/\(a==y1)=kb/\∃m,KV y m/\h.DictOf (xE P w) a m|.dT W y=>y.9<=kt/\(a==y1)=kb/\∃k:List (NK×k0×kn),
   y0 (λ(p:NK×k0×V) (q:NK×k0×kn)=>p.1=q.1/\p.2.1=q.2.1/\VA p.2.2 q.2.2) y k /\
   ∃o X,h.get? a=kv o/\o.ExactDict/\o.data=.dict X W/\X.toList=k.map (hB (zF P w))/\(k.map (·.1)).Nodup
 | .set S n=>h.SetOf (intKind P w) a S n|.ins C e fs=>H e=kv (.own a)/\fs.9<=1000/\e≠a/\h.get? a=kv (QA4 C e) /\
   ∃b,h.Ns1 e b/\(∀f,gU (fs.lookup f) (b f))/\PySem.Within b (fs.map (·.1))
 | .own _=>∃o,h.get? a=kv o|.xd fs=>∃b,h.Ns1 a b/\∀f,gU (fs.lookup f) (b f)|.rng Y Z=>∃t u v,h.get? a=kv { cls:=.type "range",data:=.fields (qG [.int Y t,.int Z u,.int 1 v]) }|.frz o u=>h.get? a=kv o/\GA H h a u|.tbl q=>∃i,h.get? a=kv { cls:=.none,data:=.fields i }/\la i.toList/\∀j l,fy j i.toList=kv l->∃c,l=.ref c/\H c=kv (.own a)/\h.CodeRec l q|.met f x=>h.get? a=kv (QAe (.ref f) (.ref x))|.ext g=>g h/\(∃o,h.get? a=kv o)/\∀s r:v5,g s->(∀o,s.get? a=kv o->r.get? a=kv o)->g r
def lL(H:Hp)(h:v5):Prop:=∀a o,H a=kv o->GA P w H h a o
end
section
variable{P:vx}{w:v8}{H i:Hp}{h h':v5}{a:k0}{o:HO}
theorem GA.lt(x:GA P w H h a o):a<h.1.size:=by
 cases o with|lst v=>let#[_,_,_,_,e]:=x;exact QV e|tup v=>let#[_,_,_,p]:=x;exact p.lt|dK z=>let#[_,_,_,_,o,_,_,e,_]:=x;exact QV e|dT j z=>let#[_,_,_,_,o,_,e,_]:=x;exact QV e|set S n=>let#[o,_,_,_,e,_]:=x;exact QV e|ins C l fs=>let#[_,_,_,e,_]:=x;exact QV e|own y=>let#[_,e]:=x;exact QV e|xd fs=>let#[_,#[_,_,_,e,_],_]:=x;exact QV e|rng b g=>let#[_,_,_,e]:=x;exact QV e|frz ob u=>let#[e,_]:=x;exact QV e|tbl q=>let#[_,e,_]:=x;exact QV e|met f y=>exact QV (show h.get? a=kv _ from x)|ext k=>let#[_,#[_,e],_]:=x;exact QV e
theorem Paired.mapP{α z:Type}{F G:α->z->Prop}:∀{y:List α}{x:List z},y0 F y x->(∀a b,F a b->G a b)->y0 G y x
 |_,_,.nil,_=>.nil|_,_,.cons r t,f=>.cons (f _ _ r) (Paired.mapP t f)
theorem GA.stay(x:GA P w H h a o)(k:∀b u,(b=a∨H b=kv (.own a))->h.get? b=kv u->h'.get? b=kv u)
  (K:∀b,H b=kv (.own a)->i b=kv (.own a)) (O:∀b xs,H b=kv (.tup xs)->i b=kv (.tup xs)):GA P w i h' a o:=by
 induction o with|lst xs=>let#[z,m,n,r,e]:=x;exact#[z,m,n,r,k _ _ (.inl rfl) e]|tup xs=>let#[z,m,r,ob,e,c]:=x;exact#[z,m,r,ob,k _ _ (.inl rfl) e,c]|dK W=>let#[z,y,s,r,ob,j,l,e,c]:=x;exact#[z,y,s,r,ob,j,l,k _ _ (.inl rfl) e,c]|dT l W=>let#[z,y,xs,r,ob,j,e,c]:=x;exact#[z,y,xs,r,ob,j,k _ _ (.inl rfl) e,c]|set S n=>let#[ob,j,l,t,e,c]:=x;exact#[ob,j,l,t,k _ _ (.inl rfl) e,c]|ins C R fs=>let#[d,z,F,e,Z,#[Y,j,l,J,c],r]:=x;exact#[K _ d,z,F,k _ _ (.inl rfl) e,Z,#[Y,j,l,k _ _ (.inr d) J,c],r]|own y=>let#[ob,e]:=x;exact#[ob,k _ _ (.inl rfl) e]|xd fs=>let#[Z,#[Y,j,l,e,c],r]:=x;exact#[Z,#[Y,j,l,k _ _ (.inl rfl) e,c],r]|rng N Q=>let#[t,u,v,e]:=x;exact#[t,u,v,k _ _ (.inl rfl) e]|frz ob u G=>let#[e,q]:=x;exact#[k _ _ (.inl rfl) e,G q]|tbl q=>let#[E,e,t,f]:=x;refine#[E,k _ _ (.inl rfl) e,t,λX L g=>?_];let#[c,rfl,o,c1,ob,s,B,A,I,r]:=f X L g;cases A;exact#[c,rfl,K _ o,c,ob,s,B,rfl,k _ _ (.inr o) I,r]|met f y=>have e:h.get? a=kv (QAe (.ref f) (.ref y)):=x;show h'.get? a=kv (QAe (.ref f) (.ref y));exact k a _ (.inl rfl) e|ext M=>let#[p,#[o,e],st]:=x;exact#[st _ _ p λo q=>k _ _ (.inl rfl) q,#[o,k _ _ (.inl rfl) e],st]
theorem lL.lt(x:lL P w H h)(e:H a=kv o):a<h.1.size:=(x a o e).lt
theorem lL.fresh(x:lL P w H h)(e:h.1.size<=a):H a=none:=by
 cases q:H a with|none=>rfl|some u=>exact Uz (Qo (x.lt q) e) (wC _)
theorem lL.kept(x:lL P w H h)(k:∀b u,h.get? b=kv u->h'.get? b=kv u):lL P w H h':=λa o e =>
 (x a o e).stay (λb u _ q=>k b u q) (λ_ q=>q) λ_ _ q=>q
theorem lL.laid(x:lL P w H h)(k:∀b u,h.get? b=kv u->h'.get? b=kv u)(z:h.1.size<=a)(new:GA P w (pA H a o) h' a o):lL P w (pA H a o) h':=λb u e=>by have y:=x.fresh z;by_cases hb:b=a;subst hb;rw[bA]at e;cases e;exact new;rw[jA hb]at e;exact(x b u e).stay (λc v _ q=>k c v q) (λc q=>by rw[jA (oA q y)];exact q) λc f q=>by rw[jA (oA q y)];exact q
end
def Rd(H:Hp)(a:k0)(u:HO):Prop:=H a=kv u∨∃o,H a=kv (.frz o u)
theorem Rd.ok{P:vx}{w:v8}{H:Hp}{h:v5}{a:k0}{u:HO}(r:Rd H a u)(x:lL P w H h):GA P w H h a u:=by
 rcases r with r|⟨o,r⟩
 exact x a u r;let#[_,q]:=x a _ r;exact q
def xn:Option HO->Prop
 |some (.lst _)=>True|some (.dK _)=>True|some (.dT _ _)=>True|some (.set _ _)=>True|some (.ins _ _ _)=>True|some (.ext _)=>True|_=>False
section
variable{P:vx}{w:v8}{H:Hp}{h h':v5}{x e:k0}{a:HO}
theorem lL.write(ok:lL P w H h)(l:xn (H x))(o:e=x∨H e=kv (.own x))(k:∀b u,b≠e->h.get? b=kv u->h'.get? b=kv u)(m:∃u,h'.get? e=kv u)
  (new:GA P w (pA H x a) h' x a):lL P w (pA H x a) h':=λb u q=>by
 have g:∀c y,H c=kv (.own y)->c≠x:=λc y r z=>by subst z;rw[r]at l;exact l
 have i:∀c j,H c=kv (.tup j)->c≠x:=λc j r z=>by subst z;rw[r]at l;exact l
 by_cases hb:b=x;subst hb;rw[bA]at q;cases q;exact new;rw[jA hb]at q;by_cases f:b=e;have n:H b=kv (.own x):=by rcases o with z|z;exact Uz (f.trans z) hb;rw[f];exact z
 rw[q]at n;cases n;let#[v,hv]:=m;exact#[v,by rw[f];exact hv];refine(ok b u q).stay (λc v hc r=>k c v ?_ r) (λc r=>by rw[jA (g c b r)];exact r) λc j r=>by rw[jA (i c j r)];exact r
 rcases hc with rfl|hc;exact f;rintro rfl;rcases o with z|z;exact g c b hc z;rw[hc]at z;cases z;exact hb rfl
end
structure Un(fs ex:List k0)(H H':Hp)(h h':v5):Prop where
 keep:∀b o,h.get? b=kv o->H b=kf->b∉fs->b∉ex->h'.get? b=kv o
 slot:∀b o,h.get? b=kv o->H b=kf->b∈fs->b∉ex->∃sl,h'.get? b=kv { o with slots:=sl }
 free:∀b o,h.get? b=kv o->H b=kf->b∉ex->H' b=kf
 there:∀b o,h.get? b=kv o->b∉ex->∃o',h'.get? b=kv o'
 tups:∀b xs,H b=kv (.tup xs)->H' b=kv (.tup xs)
 frzs:∀b o u,H b=kv (.frz o u)->H' b=kv (.frz o u)
 tbls:∀b q,H b=kv (.tbl q)->H' b=kv (.tbl q)
section
variable{y w ex c:List k0}{H d g:Hp}{h v f h':v5}{a x e:k0}{o:HO}
theorem Un.any(u:Un y ex H d h v){b:k0}{ob:Obj}(q:h.get? b=kv ob)(n:H b=kf)(z:b∉ex):∃k,v.get? b=kv { ob with slots:=k }:=by by_cases hb:b∈y;exact u.slot b ob q n hb z;exact#[ob.slots,u.keep b ob q n hb z]
theorem Un.kept(k:∀b u,h.get? b=kv u->h'.get? b=kv u):Un y ex H H h h' :=
 #[λb ob q _ _ _=>k b ob q,λb ob q _ _ _=>#[ob.slots,k b ob q],λ_ _ _ n _=>n,λb ob q _=>#[ob,k b ob q],λ_ _ q=>q,λ_ _ _ q=>q,λ_ _ q=>q]
theorem Un.refl:Un y ex H H h h:=Un.kept λ_ _ q=>q
theorem Un.laid(k:∀b u,h.get? b=kv u->h'.get? b=kv u)(j:h.1.size<=a)(z:H a=kf):Un y ex H (pA H a o) h h' where
 keep:=λb u q _ _ _=>k b u q
 slot:=λb u q _ _ _=>#[u.slots,k b u q]
 free:=λb u q n _=>by rw[jA (Qj (Qo (QV q) j))];exact n
 there:=λb u q _=>#[u,k b u q]
 tups:=λb i q=>by rw[jA (oA q z)];exact q
 frzs:=λb u i q=>by rw[jA (oA q z)];exact q
 tbls:=λb l q=>by rw[jA (oA q z)];exact q
theorem Un.write(j:xn (H x))(X:e=x∨H e=kv (.own x))(k:∀b u,b≠e->h.get? b=kv u->h'.get? b=kv u)(m:∃u,h'.get? e=kv u):Un y ex H (pA H x o) h h':=by
 have p:∀b,H b=kf->b≠x:=λb n z=>by subst z;rw[n]at j;exact j
 have hb:∀b,H b=kf->b≠e:=λb n z=>by subst z;rcases X with r|r;exact p b n r;rw[n]at r;cases r
 have l:∀b u,H b=kv u->¬ xn (kv u)->b≠x:=λb u q nm z=>by subst z;rw[q]at j;exact nm j
 refine#[λb u q n _ _=>k b u (hb b n) q,λb u q n _ _=>#[u.slots,k b u (hb b n) q],λb u q n _=>by rw[jA (p b n)];exact n,λb u q _=>?_,
  λb s q=>by rw[jA (l b _ q λz=>z)];exact q,λb u s q=>by rw[jA (l b _ q λz=>z)];exact q,λb Y q=>by rw[jA (l b _ q λz=>z)];exact q]
 by_cases i:b=e;subst i;exact m;exact#[u,k b u i q]
end
section
variable{h:v5}{b:k0}{o:Obj}
noncomputable def As(h:v5)(H:Hp):List Addr:=(Qt h.1.size).filter λa=>(H a).isSome
def DQ(h:v5)(H:Hp):Heap:=PySem.W.hideAll h (As h H)
theorem GZ(h:v5)(H:Hp):(DQ h H).1.size=h.1.size:=PySem.W.hideAll_size _ _
theorem z7{H:Hp}(e:h.get? b=kv o)(n:H b=kf):(DQ h H).get? b=kv o :=
 PySem.W.hideAll_get _ e λx=>by have q:(H b).isSome=true:=(QZ.mp x).2;rw[n]at q;simp at q
theorem Fb{H:Hp}(e:(DQ h H).get? b=kv o):h.get? b=kv o/\H b=none:=by
 have y:h.get? b=kv o:=PySem.W.of_hideAll (As h H) e;refine#[y,?_];cases q:H b with|none=>rfl|some x=>have u:b∈As h H:=QZ.mpr #[qA.mpr (QV y),by simp[q]];have z:(DQ h H).get? b=none:=PySem.W.hideAll_none (As h H) u;rw[z]at e;cases e
structure Mod(K:QA)(mg:Str->Option kn)(base:v5):Prop where
 kin:K.In base
 glob:base.Ns Vz mg
 blt:∃mb,base.Ns dy mb/\∀x:Str,x≠"__name__"->mb x=y2 x
 nolimit:base.NoLimit
structure Cx where
 prog:vx
 w:v8
 K:QA
 mg:Str->Option kn
 base:v5
 A:Xz
 N:LS
 s₀:ku
 H₀:Hp
 env:Env
 outer:List Env
 stack:List Env
 ex:List k0
 fn:Str->Bool
 calm:Bool
 pn:PB
 xe:kn->ku->Prop
def vY(l:List Env):List Addr:=l.filterMap (·.frame)
noncomputable abbrev Cx.fs(X:Cx):List Addr:=vY X.outer
def vn(sc:gl)(x:Str):Prop:=sc.names.lookup x=kv .local∨sc.names.lookup x=kv .cell∨sc.names.lookup x=kv .free
def bn(sc:gl)(x:Str):Prop:=sc.names.lookup x=kv .local∨sc.names.lookup x=kv .cell
def yx(env:Env)(h:v5)(m:Str->Option kn)(x:Str)(u:kn):Prop :=
 (env.kindOf x=kv .local/\m x=kv u)∨((env.kindOf x=kv .cell∨env.kindOf x=kv .free)/\∃c,env.cells.lookup x=kv c/\h.IsCell c (kv u))
def xP(mg:Str->Option kn)(x:v5)(P:k0)(q:Str):Prop :=
 ∃f o y c,mg "going_order"=kv (.ref f)/\x.get? f=kv o/\o.data=.func y/\y.code=.ref c/\PySem.W.CodeHd x c P/\q=y.qualname++".<locals>.<lambda>"
structure Cx.Ok(X:Cx):Prop where
 mod:Mod X.K X.mg X.base
 kind:X.env.scope.kind=.function
 glob:X.env.globals=Vz
 blt:X.env.builtins=dy
 above:X.s₀.1.1.size<=X.env.locals
 inj:∀x y c,X.env.cells.lookup x=kv c->X.env.cells.lookup y=kv c->x=y
 has:∀x,(X.env.kindOf x=kv .cell∨X.env.kindOf x=kv .free)->∃c,X.env.cells.lookup x=kv c
 cab:∀x c,X.fn x=kd->X.env.cells.lookup x=kv c->X.s₀.1.1.size<=c
 hd:X.calm=kd->X.A.handled=kf
 frames:X.A.frames=kv X.stack
 stk:X.stack=X.outer∨(X.stack=X.env::X.outer/\X.env.frame=kv X.env.locals)
 exf:∀b∈X.ex,b≠X.env.locals/\∀x c,X.env.cells.lookup x=kv c->c≠b
 bs:∀b o,X.base.get? b=kv o->X.s₀.1.get? b=kv o/\X.H₀ b=kf
 bsz:X.base.1.size<=X.s₀.1.1.size
 noex:∀b o,X.base.get? b=kv o->b∉X.ex
 exfs:∀b∈X.ex,b∉X.fs
 funs:X.s₀.1.FunFrames X.base X.outer
 frf:∀b∈X.fs,X.H₀ b=kf
 tb:∀P q,xP X.mg X.base P q->X.H₀ P=kv (.tbl q)
structure Inv(X:Cx)(pins:PB)(σ:List (Option V))(H:Hp)(s:ku):Prop where
 ok:X.Ok
 os:s.os=X.s₀.os
 bare:Sh s.gens
 base:Un X.fs X.ex X.H₀ H X.s₀.1 s.1
 loc:∃m,s.1.Ns X.env.locals m/\∀(i:Nat) (x:Str) (v:V),X.N[i]?=kv x->σ[i]?=kv (kv v)->vn X.env.scope x->∃u,VA v u/\yx X.env s.1 m x u
 cell:∀x c,X.env.cells.lookup x=kv c->∃v,s.1.IsCell c v
 free:H X.env.locals=kf
 freeC:∀x c,X.env.cells.lookup x=kv c->H c=kf
 pin:∀p∈X.pn++pins,s.1.get? p.1=kv p.2/\H p.1=kf/\p.1≠X.env.locals/\p.1∉X.fs/\∀v,p.2.data≠.cell v
 hok:lL X.prog X.w H s.1
 len:σ.9=X.N.9
end
section
variable{X:Cx}{f:PB}{σ:List (Option V)}{H g:Hp}{s:ku}{h':v5}
section
variable{a:k0}{g':Array GenState}{ch:List k0}{i:Nat}{x:Str}{M:Model}{A:Xz}{E:cC}{u:kn}{Q:Unit->ku->Prop}
theorem Cx.Ok.nofr(ok:X.Ok){b:k0}{o:Obj}(e:X.base.get? b=kv o):b∉X.fs:=λhb=>by have:=(ok.funs.mem hb).1;rw[e]at this;cases this
theorem Inv.bs(I:Inv X f σ H s):∀b o,X.base.get? b=kv o->s.1.get? b=kv o/\H b=none:=λb o e =>
 #[I.base.keep b o (I.ok.bs b o e).1 (I.ok.bs b o e).2 (I.ok.nofr e) (I.ok.noex b o e),I.base.free b o (I.ok.bs b o e).1 (I.ok.bs b o e).2 (I.ok.noex b o e)]
theorem Inv.bk(I:Inv X f σ H s):∀b o,X.base.get? b=kv o->s.1.get? b=kv o:=λb o e=>(I.bs b o e).1
theorem Inv.tb(I:Inv X f σ H s):∀P q,xP X.mg X.base P q->H P=kv (.tbl q):=λP q h=>I.base.tbls P q (I.ok.tb P q h)
theorem Inv.mod(I:Inv X f σ H s):Mod X.K X.mg X.base:=I.ok.mod
theorem Inv.kIn(I:Inv X f σ H s):X.K.In s.heap:=I.ok.mod.kin.keeps I.bk
theorem Inv.nolimit(I:Inv X f σ H s):s.1.NoLimit:=I.ok.mod.nolimit.keeps I.bk
theorem Inv.lt(I:Inv X f σ H s):X.env.locals<s.1.1.size:=let#[_,h,_]:=I.loc;h.lt
theorem Inv.sz(I:Inv X f σ H s):X.s₀.1.1.size<=s.1.1.size:=QW I.ok.above (QAP I.lt)
theorem Inv.nofs(I:Inv X f σ H s)(h:s.1.1.size<=a):a∉X.fs:=λhb=>by let#[_,o,y,_]:=I.ok.funs.mem hb;exact Uz (Qo (QV y) (QW I.sz h)) (wC _)
theorem Inv.cne(I:Inv X f σ H s):∀x c,X.env.cells.lookup x=kv c->c≠X.env.locals:=λx c e z=>by let#[v,o,w,k]:=I.cell x c e;let#[m,#[b,j,l,h,y,_],_]:=I.loc;rw[z,h]at w;cases w;rw[y]at k;cases k
theorem Inv.funs(I:Inv X f σ H s):s.1.FunFrames X.base X.outer:=by
 have all:∀(l:List Env),(∀b∈vY l,b∈X.fs)->X.s₀.1.FunFrames X.base l->s.1.FunFrames X.base l:=by
  intro l;induction l with|nil=>intro _ _;trivial|cons p r w=>intro v hl;let#[hk,#[L,o,h,m,j,n],k]:=hl;have y:L∈X.fs:=v L (by unfold vY;rw[WO,h];exact QF);let#[q,e]:=I.base.slot L o j (I.ok.frf L y) y λz=>I.ok.exfs L z y;exact#[hk,#[L,_,h,m,e,n],w (λb hb=>v b (by unfold vY;rw[WO,h];exact QD _ hb)) k]
 exact all X.outer (λ_ hb=>hb) I.ok.funs
theorem Inv.stack(I:Inv X f σ H s):s.1.FunFrames X.base X.stack:=by
 rcases I.ok.stk with e|⟨e,y⟩
 rw[e];exact I.funs;rw[e];let#[m,h,_]:=I.loc;refine .cons (by rw[I.ok.kind];decide) y h ?_ I.funs;exact Heap.get?_none_of_le (QW I.ok.bsz I.ok.above)
theorem Inv.stkSub(I:Inv X f σ H s):∀b∈vY X.stack,b∈X.env.locals::X.fs:=λb hb=>by
 rcases I.ok.stk with e|⟨e,h⟩
 rw[e]at hb;exact QD _ hb;rw[e]at hb;unfold vY at hb;rw[WO,h]at hb;exact hb
theorem Inv.stkFree(I:Inv X f σ H s):∀b∈vY X.stack,H b=none:=λb hb=>by rcases QM.mp (I.stkSub b hb) with e|hb;rw[e];exact I.free;let#[_,o,h,_]:=I.ok.funs.mem hb;exact I.base.free b o h (I.ok.frf b hb) λz=>I.ok.exfs b z hb
theorem Inv.step{t':Nat}{d':Drawn}(I:Inv X f σ H s)
  (j:∀b∈ch,(b∈X.ex∨X.s₀.1.1.size<=b)/\b≠X.env.locals/\(∀x c,X.env.cells.lookup x=kv c->c≠b)/\∀p∈X.pn++f,p.1≠b)
  (keep:∀b o,b≠X.env.locals->b∉X.fs->b∉ch->s.1.get? b=kv o->H b=kf->h'.get? b=kv o)
  (W:∀b o,b≠X.env.locals->b∈X.fs->b∉ch->s.1.get? b=kv o->H b=kf->∃R,h'.get? b=kv { o with slots:=R }) (free:∀b o,b∉ch->s.1.get? b=kv o->H b=kf->g b=kf)
  (K:∀b o,b∉ch->s.1.get? b=kv o->∃J,h'.get? b=kv J)
  (F:∀b xs,H b=kv (.tup xs)->g b=kv (.tup xs)) (N:∀b o u,H b=kv (.frz o u)->g b=kv (.frz o u)) (G:∀b O,H b=kv (.tbl O)->g b=kv (.tbl O))
  (ns:∀m,s.1.Ns X.env.locals m->h'.Ns X.env.locals m) (S:lL X.prog X.w g h') (hg:Sh g') :
  Inv X f σ g { s with heap:=h',gens:=g',drawn:=d',toks:=t' }:=by
 have L:∀b o,X.s₀.1.get? b=kv o->b≠X.env.locals:=λb o e=>Qj (Qo (QV e) I.ok.above);have Z:∀b o,X.s₀.1.get? b=kv o->b∉X.ex->b∉ch:=λb o e h hb=>by rcases(j b hb).1 with z|z;exact h z;exact Uz (Qo (QV e) z) (wC _)
 have Y:∀x c,X.env.cells.lookup x=kv c->∀v,s.1.IsCell c v->h'.IsCell c v:=λx c e v #[o,C,hd]=>by have y:c∉ch:=λz=>(j c z).2.2.1 x c e rfl;by_cases hc:c∈X.fs;let#[R,q]:=W c o (I.cne x c e) hc y C (I.freeC x c e);exact#[_,q,hd];exact#[o,keep c o (I.cne x c e) hc y C (I.freeC x c e),hd]
 refine#[I.ok,I.os,hg,#[λb o e n hb h=>?_,λb o e n hb h=>?_,λb o e n h=>?_,λb o e h=>?_,λb xs e=>F b xs (I.base.tups b xs e),λb o xs e=>N b o xs (I.base.frzs b o xs e),λb O e=>?_],?_,λx c e=>?_,?_,λx c e=>?_,λp hp=>?_,S,I.len];exact keep b o (L b o e) hb (Z b o e h) (I.base.keep b o e n hb h) (I.base.free b o e n h);let#[R,B]:=I.base.slot b o e n hb h;let#[P,e2]:=W b _ (L b o e) hb (Z b o e h) B (I.base.free b o e n h);exact#[P,e2];let#[J,B]:=I.base.there b o e h;exact free b J (Z b o e h) B (I.base.free b o e n h);let#[J,B]:=I.base.there b o e h;exact K b J (Z b o e h) B;exact G b _ (I.base.tbls b O e);let#[m,hn,hl]:=I.loc;refine#[m,ns m hn,λi x v B e2 e3=>?_];let#[u,r,l]:=hl i x v B e2 e3;refine#[u,r,?_];rcases l with l|⟨k,c,e,z⟩
 exact .inl l;exact .inr #[k,c,e,Y x c e _ z];let#[v,z]:=I.cell x c e;exact#[v,Y x c e v z];let#[m,#[o,_,_,C,_],_]:=I.loc;exact free _ o (λz=>(j _ z).2.1 rfl) C I.free;let#[v,o,C,hd]:=I.cell x c e;exact free c o (λz=>(j c z).2.2.1 x c e rfl) C (I.freeC x c e);let#[e,n,ne,nf,d]:=I.pin p hp;have y:p.1∉ch:=λz=>(j p.1 z).2.2.2 p hp rfl;exact#[keep p.1 p.2 ne nf y e n,free p.1 p.2 y e n,ne,nf,d]
theorem Inv.un{t':Nat}(I:Inv X f σ H s)(u:Un X.fs [] H g s.1 h')(y:lL X.prog X.w g h'):Inv X f σ g { s with heap:=h',toks:=t' }:=by let#[m,#[o,K,B,j,r],_]:=id I.loc;let#[Y,q]:=u.any j I.free (by simp);exact I.step (g':=s.gens) (d':=s.drawn) (ch:=[]) (λ_ z=>nomatch z) (λb o _ hb _ e n=>u.keep b o e n hb (by simp)) (λb o _ hb _ e n=>u.slot b o e n hb (by simp)) (λb o _ e n=>u.free b o e n (by simp)) (λb o _ e=>u.there b o e (by simp)) u.tups u.frzs u.tbls (λW p=>by let#[Z,v,k,h,l]:=p;rw[j]at h;cases h;exact#[_,v,k,q,l]) y I.bare
theorem Inv.call{t':Nat}{d':Drawn}(I:Inv X f σ H s)(u:Un (vY X.stack) ch H g s.1 h')(v:lL X.prog X.w g h')(W:Sh g')
  (y:∀b∈ch,(b∈X.ex∨X.s₀.1.1.size<=b)/\b≠X.env.locals/\(∀x c,X.env.cells.lookup x=kv c->c≠b)/\∀p∈X.pn++f,p.1≠b) :
  Inv X f σ g { s with heap:=h',gens:=g',drawn:=d',toks:=t' }:=by
 let#[m,#[o,F,G,q,r],_]:=id I.loc;let#[K,k]:=u.any q I.free λz=>(y _ z).2.1 rfl;exact I.step (ch:=ch) y (λb o k hb hc e n=>u.keep b o e n (λz=>(QM.mp (I.stkSub b z)).elim k hb) hc) (λb o _ _ hc e n=>u.any e n hc) (λb o hc e n=>u.free b o e n hc) (λb o hc e=>u.there b o e hc) u.tups u.frzs u.tbls (λC Z=>by let#[B,j,l,h,Y]:=Z;rw[q]at h;cases h;exact#[_,j,l,k,Y]) v W
theorem Inv.turned{t':Nat}{it:k0}(I:Inv X f σ H s)(k:∀b o,b≠it->s.1.get? b=kv o->h'.get? b=kv o)(j:H it=kf)(y:it≠X.env.locals)
  (W:it∈X.ex∨X.s₀.1.1.size<=it) (Z:∀x c,X.env.cells.lookup x=kv c->c≠it) (Y:∀p∈X.pn++f,p.1≠it):Inv X f σ H { s with heap:=h',toks:=t' }:=by
 have h:∀b u,H b=kv u->b≠it:=λb u e z=>by rw[z,j]at e;cases e
 refine I.step (g':=s.gens) (d':=s.drawn) (ch:=[it]) (λb hb=>?_) (λb o _ _ hc e _=>k b o (λz=>hc (by simp[z])) e) (λb o _ _ hc e _=>#[o.slots,k b o (λz=>hc (by simp[z])) e]) (λ_ _ _ _ n=>n)
  (λb o hc e=>#[o,k b o (λz=>hc (by simp[z])) e]) (λ_ _ e=>e) (λ_ _ _ e=>e) (λ_ _ e=>e) (λm l=>?_) (λb u e=>?_) I.bare
 have e:b=it:=by simpa using hb
 subst e;exact#[W,y,Z,Y];let#[o,K,B,w,r]:=l;exact#[o,K,B,k _ o (Qm y) w,r];refine(I.hok b u e).stay (λc v hc q=>k c v ?_ q) (λ_ q=>q) λ_ _ q=>q;rcases hc with z|z;rw[z];exact h b u e;exact h c _ z
theorem Inv.tok(I:Inv X f σ H s)(t:Nat):Inv X f σ H { s with toks:=t }:=I.un (h':=s.1) (t':=t) Un.refl I.hok
theorem Inv.kept{t':Nat}(I:Inv X f σ H s)(k:∀b u,s.1.get? b=kv u->h'.get? b=kv u):Inv X f σ H { s with heap:=h',toks:=t' }:=I.un (Un.kept k) (I.hok.kept k)
theorem Inv.laid{o:HO}{t':Nat}(I:Inv X f σ H s)(k:∀b u,s.1.get? b=kv u->h'.get? b=kv u)(h:s.1.1.size<=a)(new:GA X.prog X.w (pA H a o) h' a o) :
  Inv X f σ (pA H a o) { s with heap:=h',toks:=t' }:=I.un (Un.laid k h (I.hok.fresh h)) (I.hok.laid k h new)
theorem Inv.write{x e:k0}{o:HO}{t':Nat}(I:Inv X f σ H s)(y:xn (H x))(z:e=x∨H e=kv (.own x))(k:∀b u,b≠e->s.1.get? b=kv u->h'.get? b=kv u)(h:∃u,h'.get? e=kv u)
  (new:GA X.prog X.w (pA H x o) h' x o):Inv X f σ (pA H x o) { s with heap:=h',toks:=t' }:=I.un (Un.write y z k h) (I.hok.write y z k h new)
theorem Inv.pins_of{y:PB}(I:Inv X f σ H s)(h:∀p∈y,s.1.get? p.1=kv p.2/\H p.1=kf/\p.1≠X.env.locals/\p.1∉X.fs/\∀v,p.2.data≠.cell v):Inv X y σ H s :=
 #[I.ok,I.os,I.bare,I.base,I.loc,I.cell,I.free,I.freeC,λp w=>(Qg.mp w).elim (λz=>I.pin p (Qp _ z)) (h p),I.hok,I.len]
theorem eS{N:LS}(h:N.Nodup){j:Nat}(a:N[i]?=kv x)(b:N[j]?=kv x):i=j:=by let#[w,z]:=Qf.mp a;let#[v,y]:=Qf.mp b;exact(List.getElem_inj h).mp (z.trans y.symm)
theorem fO{v:V}(I:Inv X f σ H s)(hN:X.N.Nodup)(O:X.N[i]?=kv x)(W:bn X.env.scope x)(r:VA v u)
  (h:∀s',Inv X f (σ.set i (kv v)) H s'->(∃a,qV a s.1 s'.1/\(a=X.env.locals∨X.env.cells.lookup x=kv a))->Q Unit.unit s') (hf:X.fn x=kd∨X.env.scope.names.lookup x=kv .local):ko M A (storeName X.env x u) Q E s:=by
 let#[m,hn,hl]:=id I.loc;have P:(X.env.scope.kind==.class||(X.env.scope.kind==.module&&X.env.locals != X.env.globals))=false:=by rw[I.ok.kind];rfl
 have C:i<σ.length:=by rw[I.len];exact(Qf.mp O).1
 have cne:=I.cne;have Y:∀{a:k0}{h':v5},(∃o,s.1.get? a=kv o/\H a=kf)->qV a s.1 h'->lL X.prog X.w H h':=λ{a h'} ha l b ob e=>by let#[_,_,K]:=ha;refine(I.hok b ob e).stay (λc w' hc q=>(l.2 c ?_).trans q) (λ_ q=>q) λ_ _ q=>q;rintro rfl;rcases hc with rfl|hc;rw[K]at e;cases e;rw[K]at hc;cases hc
 rcases W with hk|hk;refine wpAny_storeName_local hk hn (λh' hn' l=>?_) P;let#[oL,_,_,hoL,_]:=id hn;refine h _ #[I.ok,I.os,I.bare,#[λb o e n hb W=>?_,λb o e n hb W=>?_,I.base.free,λb o e W=>?_,I.base.tups,I.base.frzs,I.base.tbls],#[_,hn',λj y v' Z B e3=>?_],λy c e=>?_,I.free,I.freeC,λp hp=>?_,Y #[oL,hoL,I.free] l,by simpa using I.len] #[_,l,.inl rfl];exact(l.2 b (Qj (Qo (QV e) I.ok.above))).trans (I.base.keep b o e n hb W);let#[sl,Z]:=I.base.slot b o e n hb W;exact#[sl,(l.2 b (Qj (Qo (QV e) I.ok.above))).trans Z];let#[o',Z]:=I.base.there b o e W;exact#[o',(l.2 b (Qj (Qo (QV e) I.ok.above))).trans Z];by_cases F:j=i
 ·subst F
  rw[O]at Z;cases Z;rw[qf C]at B;cases B;exact#[u,r,.inl #[hk,by simp]]
 rw[qP (Qm F)]at B;let#[u',r',q]:=hl j y v' Z B e3;refine#[u',r',?_];rcases q with⟨k,e⟩| ⟨k,c,e,z⟩
 refine .inl #[k,?_];have:y≠x:=λe=>F (eS hN Z (e▸O));simp[this,e];exact .inr #[k,c,e,z.sameBut l (cne y c e)];let#[w',z]:=I.cell y c e;exact#[w',z.sameBut l (cne y c e)];let#[e,n,ne,nf,d]:=I.pin p hp;exact#[(l.2 p.1 ne).trans e,n,ne,nf,d];have G:X.fn x=true:=by rcases hf with z|z;exact z;rw[z]at hk;cases hk
 let#[c,hc]:=I.ok.has x (.inl hk);let#[w',z]:=I.cell x c hc;refine wpAny_storeName_cell I.ok.kind hk hc z (λh' S l=>?_);let#[oc,L,J]:=id z;refine h { s with heap:=h' } #[I.ok,I.os,I.bare,#[λb o e n hb W=>?_,λb o e n hb W=>?_,I.base.free,λb o e W=>?_,I.base.tups,I.base.frzs,I.base.tbls],#[m,hn.sameBut l (Qm (cne x c hc)),λj y v' Z B e3=>?_],λy c' e=>?_,I.free,I.freeC,λp hp=>?_,Y #[oc,L,I.freeC x c hc] l,by simpa using I.len] #[c,l,.inr hc];exact(l.2 b (Qj (Qo (QV e) (I.ok.cab x c G hc)))).trans (I.base.keep b o e n hb W);let#[sl,Z]:=I.base.slot b o e n hb W;exact#[sl,(l.2 b (Qj (Qo (QV e) (I.ok.cab x c G hc)))).trans Z];let#[o',Z]:=I.base.there b o e W;exact#[o',(l.2 b (Qj (Qo (QV e) (I.ok.cab x c G hc)))).trans Z];by_cases F:j=i
 ·subst F
  rw[O]at Z;cases Z;rw[qf C]at B;cases B;exact#[u,r,.inr #[.inl hk,c,hc,S]]
 rw[qP (Qm F)]at B;let#[u',r',q]:=hl j y v' Z B e3;refine#[u',r',?_];rcases q with q|⟨k,c',e,z'⟩
 exact .inl q;refine .inr #[k,c',e,z'.sameBut l ?_];rintro rfl;exact F (eS hN Z (I.ok.inj _ _ _ e hc▸O));by_cases R:c'=c
 ·subst R;exact#[_,S]
 let#[w2,z2]:=I.cell y c' e;exact#[w2,z2.sameBut l R];let#[e,n,ne,nf,d]:=I.pin p hp;refine#[(l.2 p.1 ?_).trans e,n,ne,nf,d];intro q;rw[q,L]at e;have q':oc=p.2:=Qi e;exact d w' (by rw[<- q'];exact J)
theorem HR{v:V}(I:Inv X f σ H s)(k:X.N.Nodup)(z:X.N[i]?=kv x)(y:bn X.env.scope x)(r:VA v u)
  (h:∀s',Inv X f (σ.set i (kv v)) H s'->Q Unit.unit s') (w:X.fn x=kd∨X.env.scope.names.lookup x=kv .local):ko M A (storeName X.env x u) Q E s :=
 fO I k z y r (λs' b _=>h s' b) w
theorem Inv.call'{s':ku}(I:Inv X f σ H s)(v:s'.os=s.os)(u:Un (vY X.stack) ch H g s.1 s'.1)(h:lL X.prog X.w g s'.1)(k:Sh s'.gens)
  (y:∀b∈ch,(b∈X.ex∨X.s₀.1.1.size<=b)/\b≠X.env.locals/\(∀x c,X.env.cells.lookup x=kv c->c≠b)/\∀p∈X.pn++f,p.1≠b):Inv X f σ g s':=by
 let#[h',g',d',t',z]:=s';have e:z=s.os:=v;subst e;exact I.call (g':=g') (t':=t') (d':=d') u h k y
end
end
noncomputable abbrev XK:=kn->Option k0->Hp->Prop
noncomputable abbrev St:=List (Option V)
noncomputable abbrev VK:=V->Hp->Prop
noncomputable abbrev TE:=St->Hp->VK->Prop
noncomputable abbrev TT:=St->Hp->(Bool->Hp->Prop)->Prop
noncomputable abbrev TA:=St->Hp->(LV->Hp->Prop)->Prop
structure Ends where
 nx:St->Hp->Prop
 rt:VK
 bk:St->Hp->Prop:=λ_ _=>False
 ct:St->Hp->Prop:=λ_ _=>False
noncomputable abbrev TS:=Ends->St->Hp->Prop
def EP(X:Cx)(h:PB)(σ:St)(Q:VK)(u:kn)(s':ku):Prop:=∃v x,Inv X h σ x s'/\VA v u/\Q v x
def TP(X:Cx)(h:PB)(σ:St)(Q:Bool->Hp->Prop)(b:Bool)(s':ku):Prop:=∃x,Inv X h σ x s'/\Q b x
def AP(X:Cx)(h:PB)(σ:St)(Q:LV->Hp->Prop)(us:LW)(s':ku):Prop:=∃x y,Inv X h σ y s'/\sA x us/\Q x y
def SP(X:Cx)(x:PB)(D:Ends)(f:Flow)(s':ku):Prop :=
 match f with
 | .next=>∃h y,Inv X x h y s'/\D.nx h y|.brk=>∃h y,Inv X x h y s'/\D.bk h y|.cont=>∃h y,Inv X x h y s'/\D.ct h y|.ret u=>∃v h y,Inv X x h y s'/\VA v u/\D.rt v y
def PE(X:Cx)(e:Expr)(t:TE):Prop :=
 ∀(h:PB) (s:ku) (x:St) (H:Hp) (Q:VK),Inv X h x H s->t x H Q->ko (k5 X.prog X.w) X.A (Gz e X.env) (EP X h x Q) X.xe s
def PT(X:Cx)(e:Expr)(t:TT):Prop :=
 ∀(h:PB) (s:ku) (x:St) (H:Hp) (Q:Bool->Hp->Prop),Inv X h x H s->t x H Q->ko (k5 X.prog X.w) X.A (isTrue e X.env (Gz e X.env)) (TP X h x Q) X.xe s
def PW(X:Cx)(e:Expr)(t:TT):Prop :=
 ∀(x:Sem kn) (h:PB) (s:ku) (y:St) (H:Hp) (Q:Bool->Hp->Prop),Inv X h y H s->t y H Q->ko (k5 X.prog X.w) X.A (isTrue e X.env x) (TP X h y Q) X.xe s
theorem PW.pt{X:Cx}{e:Expr}{t:TT}(h:PW X e t):PT X e t:=h _
def PA(X:Cx)(es:List Expr)(t:TA):Prop :=
 ∀(y:Pos) (h:PB) (s:ku) (x:St) (H:Hp) (Q:LV->Hp->Prop),Inv X h x H s->t x H Q->ko (k5 X.prog X.w) X.A (bb (hQ y (v9 es X.env))) (AP X h x Q) X.xe s
def PS(X:Cx)(st:z4)(t:TS):Prop :=
 ∀(h:PB) (s:ku) (x:St) (H:Hp) (D:Ends),Inv X h x H s->t D x H->ko (k5 X.prog X.w) X.A (exec st X.env) (SP X h D) X.xe s
def SW(X:Cx)(st:List z4)(t:TS):Prop :=
 ∀(h:PB) (s:ku) (x:St) (H:Hp) (D:Ends),Inv X h x H s->t D x H->ko (k5 X.prog X.w) X.A (execs st X.env) (SP X h D) X.xe s
theorem OB{α:Type}{t:Sem α}{Q y:α->ku->Prop}{M:Model}{A:Xz}{E:cC}{s:ku}(h:ko M A t Q E s)(z:∀a s,Q a s->y a s):ko M A t y E s:=qu h z λ_ _ x=>x
section
variable{X:Cx}
section
variable{z:PB}{s:ku}{σ:St}{H:Hp}{x:Str}{pos:Pos}{E Q:cC}{u:kn}
theorem bin{a b:Expr}{ta d:TE}(r:PE X a ta)(hb:PE X b d){R:V->V->Hp->Prop}(I:Inv X z σ H s)(h:ta σ H λx j=>d σ j λy k=>R x y k)
  {α:Type}{Q:α->ku->Prop}{f:kn->kn->Sem α}
  (q:∀v u i x y k,Inv X z σ k i->VA x v->VA y u->R x y k->ko (k5 X.prog X.w) X.A (f v u) Q X.xe i) :
  ko (k5 X.prog X.w) X.A (Gz a X.env) (λv g=>ko (k5 X.prog X.w) X.A (Gz b X.env) (λu e=>ko (k5 X.prog X.w) X.A (f v u) Q X.xe e) X.xe g) X.xe s:=by
 refine OB (r z s σ H _ I h) λv l #[x,j,Z,n,p]=>?_;refine OB (hb z l σ j _ Z p) λu i #[y,k,Y,m,o]=>?_;exact q v u i x y k Y n m o
def tu(i:Nat):TE:=λσ H Q=>∃v,σ[i]?=kv (kv v)/\Q v H
def tC(v:V):TE:=λ_ H Q=>Q v H
theorem yV{i:Nat}(f:X.N[i]?=kv x)(hv:vn X.env.scope x)(w:(x==("__debug__":Str))=false:=by decide)(k:(x==("__classdict__":Str))=false:=by decide):PE X (.Name x pos) (tu i):=by
 intro z s σ H Q I h;let#[v,e,h]:=h;let#[m,a,hl]:=I.loc;let#[u,r,l]:=hl i x v f e hv;have fin:EP X z σ Q u s:=#[v,H,I,r,h]
 rcases l with⟨hk,b⟩| ⟨hk,c,hc,y⟩
 exact QBE (QBF I.ok.kind hk a b fin) w;rcases hk with hk|hk
 ·exact QBE (wpAny_loadName_cell I.ok.kind hk hc y fin) w
 exact QBE (QBS I.ok.kind hk hc y fin k) w
theorem zV{i j pos}:PE X (.Constant (.int i) j pos) (tC (.int i)):=λ_ _ _ H _ I h=>QBj #[.int i,H,I.tok _,#[_,rfl],h]
theorem Be{b j pos}:PE X (.Constant (.bool b) j pos) (tC (.bl b)):=λ_ _ _ H _ I h=>Constant_bool #[.bl b,H,I,rfl,h]
theorem G4{j pos}:PE X (.Constant .none j pos) (tC .non):=λ_ _ _ H _ I h=>Constant_none #[.non,H,I,rfl,h]
theorem Si{x j pos}:PE X (.Constant (.str x) j pos) (tC (.str x)):=λ_ _ _ H _ I h=>Calls.Constant_str #[.str x,H,I.tok _,#[_,rfl],h]
def Gl(X:Cx)(x:Str):Prop:=X.env.kindOf x=kv .globalImplicit
theorem iQ(I:Inv X z σ H s)(v:Gl X x)(y:X.mg x=kv u)(h:Q u s)
  (k:(x==("__debug__":Str))=false:=by decide):ko (k5 X.prog X.w) X.A (Gz (.Name x pos) X.env) Q E s :=
 QAM I.ok.kind v (Calls.loadGlobal_global (by rw[I.ok.glob];exact I.mod.glob.keeps I.bk) y h) k
theorem xF(I:Inv X z σ H s)(k:Gl X x)(v:X.mg x=kf)(hv:y2 x=kv u)(h:Q u s)
  (y:x≠"__name__":=by decide) (a:(x==("__debug__":Str))=false:=by decide):ko (k5 X.prog X.w) X.A (Gz (.Name x pos) X.env) Q E s:=by
 let#[f,e,b]:=I.mod.blt;exact QAM I.ok.kind k (Calls.loadGlobal_builtin (by rw[I.ok.glob];exact I.mod.glob.keeps I.bk) v (by rw[I.ok.blt];exact e.keeps I.bk) ((b x y).trans hv) h) a
theorem Ba{v:V}(w:Gl X x)(y:X.mg x=kv u)(r:VA v u)(k:(x==("__debug__":Str))=false:=by decide):PE X (.Name x pos) (tC v) :=
 λ_ _ _ H _ I h=>iQ I w y #[v,H,I,r,h] k
theorem Ma{v:V}(k:Gl X x)(w:X.mg x=kf)(hv:y2 x=kv u)(r:VA v u)(y:x≠"__name__":=by decide)(a:(x==("__debug__":Str))=false:=by decide):PE X (.Name x pos) (tC v) :=
 λ_ _ _ H _ I h=>xF I k w hv #[v,H,I,r,h] y a
end
variable{a b:Expr}{ta d:TE}{pos:Pos}
variable{g n:TT}{k:List Expr}
noncomputable def Bu(t u:TT):TT:=λh H Q=>t h H λc x=>if c=kd then u h x Q else Q kb x
def zz(t u:TT):TT:=λh H Q=>t h H λc x=>if c=kd then Q kd x else u h x Q
def Zu(t:TT):TT:=λh H Q=>t h H λc x=>Q (!c) x
theorem xa(z:PT X a g):PW X (.BoolOp .And [a] pos) g:=by
 intro u x s y H Q I h;refine isTrue_and (OB (z x s y H Q I h) λc v e=>?_);cases c with|true=>exact isTrue_and_nil e|false=>exact e
theorem Xi(z:PT X a g):PW X (.BoolOp .Or [a] pos) g:=by
 intro u x s y H Q I h;refine isTrue_or (OB (z x s y H Q I h) λc v e=>?_);cases c with|false=>exact isTrue_or_nil e|true=>exact e
theorem x4(f:PT X a g)(hb:PW X (.BoolOp .And (b::k) pos) n):PW X (.BoolOp .And (a::b::k) pos) (Bu g n):=by
 intro w x s y H Q I h;refine isTrue_and (OB (f x s y H _ I h) λc e #[v,u,z]=>?_);cases c with|true=>exact hb w x e y v Q u z|false=>exact#[v,u,z]
theorem Ke(f:PT X a g)(hb:PW X (.BoolOp .Or (b::k) pos) n):PW X (.BoolOp .Or (a::b::k) pos) (zz g n):=by
 intro w x s y H Q I h;refine isTrue_or (OB (f x s y H _ I h) λc e #[v,u,z]=>?_);cases c with|true=>exact#[v,u,z]|false=>exact hb w x e y v Q u z
theorem Ui(z:PT X a g):PT X (.UnaryOp .Not a pos) (Zu g):=by intro x s y H Q I h;exact isTrue_not (z x s y H (λc u=>Q (!c) u) I h)
noncomputable def Vo(ta d:TE):TE:=λh H Q=>ta h H λx y=>∃c,x=.bl c/\if c=kd then d h y Q else Q (.bl kb) y
noncomputable def Yu(ta d:TE):TE:=λh H Q=>ta h H λx y=>∃c,x=.bl c/\if c=kd then Q (.bl kd) y else d h y Q
theorem D4{op}{t:TE}(h:PE X a t):PE X (.BoolOp op [a] pos) t:=λx s y H Q I z=>BoolOp_one (h x s y H Q I z)
theorem N4(j:PE X a ta)(hb:PE X (.BoolOp .And (b::k) pos) d):PE X (.BoolOp .And (a::b::k) pos) (Vo ta d):=by
 intro y s u H Q I h;refine BoolOp_and (OB (j y s u H _ I h) λv f #[x,e,w,i,z]=>?_);let#[c,rfl,z]:=z;cases i;refine wF ?_;cases c with|true=>exact hb y f u e Q w z|false=>exact#[.bl kb,e,w,rfl,z]
theorem Ue(j:PE X a ta)(hb:PE X (.BoolOp .Or (b::k) pos) d):PE X (.BoolOp .Or (a::b::k) pos) (Yu ta d):=by
 intro y s u H Q I h;refine BoolOp_or (OB (j y s u H _ I h) λv f #[x,e,w,i,z]=>?_);let#[c,rfl,z]:=z;cases i;refine wF ?_;cases c with|false=>exact hb y f u e Q w z|true=>exact#[.bl kd,e,w,rfl,z]
end
def jC(K:QA)(H:Hp)(a:k0)(xs:LV):Prop :=
 Rd H a (.lst xs) ∨
  ∃(o:Obj) (h:Array kn) (n:Nat),K.lookup a=kv o/\o.cls=.type "list"/\o.dict=kf/\o.data=.seq h n/\h.size<=kt/\sA xs h.toList
def xD(K:QA)(H:Hp)(a:k0)(xs:LV):Prop :=
 Rd H a (.tup xs) ∨
  ∃(o:Obj) (h:Array kn) (n:Nat),K.lookup a=kv o/\o.cls=.type "tuple"/\o.data=.seq h n/\h.size<=kt/\sA xs h.toList
noncomputable def cN:kn->Option V
 | .none=>kv .non|.bool b=>kv (.bl b)|.int i _=>kv (.int i)|.str x _=>kv (.str x)|.bytes b _=>kv (.byt b)|.float b _=>kv (.flt b)|.ref a=>kv (.ref a)|.type n=>kv (.ty n)|_=>kf
theorem VA.abs{x:V}{u:kn}(r:VA x u):cN u=kv x:=by
 cases x with|non=>cases r;rfl|bl _=>cases r;rfl|int _=>let#[t,rfl]:=r;rfl|str _=>let#[t,rfl]:=r;rfl|byt _=>let#[t,rfl]:=r;rfl|flt _=>let#[t,rfl]:=r;rfl|ref _=>cases r;rfl|ty _=>cases r;rfl
theorem VA.inj{x y:V}{u:kn}(r:VA x u)(q:VA y u):x=y:=Qi (r.abs.symm.trans q.abs)
theorem sA.inj:∀{xs h:LV}{us:LW},sA xs us->sA h us->xs=h
 |_,_,_,.nil,.nil=>rfl|_,_,_,.cons r t,.cons r' t'=>by rw[r.inj r',sA.inj t t']
section
variable{X:Cx}{x:PB}{σ:St}{H:Hp}{s:ku}{a:k0}{xs y:LV}
theorem jC.of{K:QA}(h:H a=kv (.lst xs)):jC K H a xs:=.inl (.inl h)
theorem xD.of{K:QA}(h:H a=kv (.tup xs)):xD K H a xs:=.inl (.inl h)
theorem Inv.list(I:Inv X x σ H s)(h:jC X.K H a xs):∃its:LW,sA xs its/\PlainL s.1 a its.toArray/\xs.9<=sizeLine:=by
 rcases h with h|⟨o,its,n,hk,hc,v,u,w,r⟩
 let#[z,its,n,r,e]:=h.ok I.hok;exact#[its,r,#[_,n,e,rfl,rfl,rfl],z];refine#[its.toList,r,#[o,n,I.kIn a o hk,hc,v,by simpa using u],?_];have e:=r.9;simp only[Qn]at e;omega
theorem Inv.tuple(I:Inv X x σ H s)(h:xD X.K H a xs):∃its:LW,sA xs its/\tj s.1 a its.toArray/\xs.9<=sizeLine:=by
 rcases h with h|⟨o,its,n,hk,hc,u,v,r⟩
 let#[z,its,r,p]:=h.ok I.hok;exact#[its,r,p,z];refine#[its.toList,r,#[o,I.kIn a o hk,hc,n,by simpa using u],?_];have e:=r.9;simp only[Qn]at e;omega
theorem Inv.list_inj(I:Inv X x σ H s)(h:jC X.K H a xs)(h':jC X.K H a y):xs=y:=by
 let#[u,r,#[o,n,e,_,_,d],_]:=I.list h;let#[z,k,#[b,f,v,_,_,w],_]:=I.list h';rw[e]at v;cases v;rw[d]at w;injection w with d1 _;have:u=z:=by simpa using ak Array.toList d1
 subst this;exact r.inj k
theorem Inv.tuple_inj(I:Inv X x σ H s)(h:xD X.K H a xs)(h':xD X.K H a y):xs=y:=by
 let#[u,r,#[o,e,_,n,d],_]:=I.tuple h;let#[z,k,#[b,v,_,f,w],_]:=I.tuple h';rw[e]at v;cases v;rw[d]at w;injection w with d1 _;have:u=z:=by simpa using ak Array.toList d1
 subst this;exact r.inj k
end
noncomputable abbrev Cx.wish(X:Cx)(E:cC):Cx:={ X with xe:=E }
noncomputable abbrev Cx.nox(X:Cx):Cx:=X.wish λ_ _=>False
theorem Cx.Ok.wish{X:Cx}(ok:X.Ok)(E:cC):(X.wish E).Ok :=
 #[ok.mod,ok.kind,ok.glob,ok.blt,ok.above,ok.inj,ok.has,ok.cab,ok.hd,ok.frames,ok.stk,ok.exf,ok.bs,ok.bsz,ok.noex,ok.exfs,ok.funs,ok.frf,ok.tb]
theorem Cx.Ok.unwish{X:Cx}{E:cC}(ok:(X.wish E).Ok):X.Ok :=
 #[ok.mod,ok.kind,ok.glob,ok.blt,ok.above,ok.inj,ok.has,ok.cab,ok.hd,ok.frames,ok.stk,ok.exf,ok.bs,ok.bsz,ok.noex,ok.exfs,ok.funs,ok.frf,ok.tb]
section
variable{X:Cx}{x:PB}{σ:St}{H:Hp}{s:ku}{E:cC}
theorem Inv.wish(I:Inv X x σ H s)(E:cC):Inv (X.wish E) x σ H s:=#[I.ok.wish E,I.os,I.bare,I.base,I.loc,I.cell,I.free,I.freeC,I.pin,I.hok,I.len]
theorem Inv.unwish(I:Inv (X.wish E) x σ H s):Inv X x σ H s:=#[I.ok.unwish,I.os,I.bare,I.base,I.loc,I.cell,I.free,I.freeC,I.pin,I.hok,I.len]
theorem SP.unwish{D:Ends}{f:Flow}{s':ku}(h:SP (X.wish E) x D f s'):SP X x D f s':=by
 cases f with|next=>let#[y,z,I,q]:=h;exact#[y,z,I.unwish,q]|brk=>let#[y,z,I,q]:=h;exact#[y,z,I.unwish,q]|cont=>let#[y,z,I,q]:=h;exact#[y,z,I.unwish,q]|ret u=>let#[v,y,z,I,r,q]:=h;exact#[v,y,z,I.unwish,r,q]
theorem SW.nox{st:List z4}{t:TS}(h:SW X.nox st t):SW X st t:=λx s σ H D I y =>
 qu (h x s σ H D (I.wish _) y) (λ_ _ q=>q.unwish) λ_ _ z=>Qc z
end
section
variable{X:Cx}{st:z4}{y:List z4}{t u:TS}{e:Expr}{te:TE}{pos:Pos}
def Yo:TS:=λD h H=>D.nx h H
def iu(t u:TS):TS:=λD h H=>t { D with nx:=u D } h H
theorem ba:SW X [] Yo:=λ_ _ x H _ I h=>QAB #[x,H,I,h]
theorem i4(b:PS X st t)(a:SW X y u):SW X (st::y) (iu t u):=by
 intro x s w H D I h;refine QCP (OB (b x s w H { D with nx:=u D } I h) λf k q=>?_);cases f with|next=>let#[z,i,g,q]:=q;exact a x k z i D g q|ret v=>exact q|brk=>exact q|cont=>exact q
theorem pX(w:PS X st t):SW X [st] t:=by
 intro x s z H D I h;refine QCP (OB (w x s z H D I h) λf k q=>?_);cases f with|next=>exact QAB q|ret v=>exact q|brk=>exact q|cont=>exact q
theorem Inv.quiet{h:PB}{σ:St}{H:Hp}{s:ku}(I:Inv X h σ H s):interactive X.env=false:=by simp[interactive,I.ok.kind]
def Zo(te:TE):TS:=λD h H=>te h H λ_ x=>D.nx h x
theorem sX(b:PE X e te)(a:Cz e kf pos.line X.env=rk false:=by rfl):PS X (.Expr e pos) (Zo te):=by intro z s w H D I h;exact wpAny_Expr_any (OB (b z s w H _ I h) λv i #[x,g,f,j,k]=>#[w,g,f,k]) I.quiet a
def Ju(te:TE):TS:=λD h H=>te h H D.rt
theorem Y4(b:PE X e te):PS X (.Return (kv e) pos) (Ju te):=by intro z s w H D I h;exact wpAny_Return_some (OB (b z s w H _ I h) λv i #[x,g,f,k,a]=>#[x,w,g,f,k,a])
noncomputable def Vu(c:TT)(t u:TS):TS:=λD h H=>c h H λb x=>if b=kd then t D h x else u D h x
theorem Jp{c:Expr}{a b:List z4}{tc:TT}(hc:PT X c tc)(g:SW X a t)(hb:SW X b u):PS X (.If c a b pos) (Vu tc t u):=by
 intro x s z H D I h;refine wpAny_If (OB (hc x s z H _ I h) λd v #[f,k,w]=>?_);cases d with|true=>exact g x v z f D k w|false=>exact hb x v z f D k w
end
noncomputable abbrev TG:=V->St->Hp->(St->Hp->Prop)->Prop
noncomputable abbrev Tw:=LV->St->Hp->(St->Hp->Prop)->Prop
def PG(X:Cx)(h:Expr)(t:TG):Prop :=
 ∀(x:PB) (s:ku) (z:St) (H:Hp) (v:V) (u:kn) (Q:St->Hp->Prop),Inv X x z H s->VA v u->t v z H Q ->
  ko (k5 X.prog X.w) X.A (d8 h X.env u) (λ_ a=>∃y k,Inv X x y k a/\Q y k) X.xe s
def ky(X:Cx)(ts:List Expr)(t:Tw):Prop :=
 ∀(h:PB) (s:ku) (y:St) (H:Hp) (z:LV) (u:LW) (Q:St->Hp->Prop),Inv X h y H s->sA z u->t z y H Q ->
  ko (k5 X.prog X.w) X.A (mi ((g6 ts X.env).map (·.2)) u) (λ_ k=>∃x v,Inv X h x v k/\Q x v) X.xe s
noncomputable abbrev am:=V->V->V->Hp->(Hp->Prop)->Prop
def Gd(X:Cx)(t:am):Prop :=
 ∀(h:PB) (s:ku) (x:St) (H:Hp) (o i v:V) (y z u:kn) (Q:Hp->Prop),Inv X h x H s->VA o y->VA i z->VA v u->t o i v H Q ->
  ko (k5 X.prog X.w) X.A (setItem y z u) (λ_ a=>∃k,Inv X h x k a/\Q k) X.xe s
section
variable{X:Cx}{pos:Pos}
section
variable{i:Nat}{x:Str}{e:Expr}{te:TE}
def yY(i:Nat):TG:=λv h H Q=>Q (h.set i (kv v)) H
theorem eX(a:X.N.Nodup)(w:X.N[i]?=kv x)(z:bn X.env.scope x)(k:X.fn x=kd∨X.env.scope.names.lookup x=kv .local):PG X (.Name x pos) (yY i):=by intro y s f H v u Q I r h;exact QBw (HR I a w z r (λg b=>#[_,H,b,h]) k)
noncomputable def fw(K:QA)(n:Nat)(t:Tw):TG:=λv y H Q=>∃a h,v=.ref a/\xD K H a h/\h.9=n/\t h y H Q
theorem Ni{es:List Expr}{k:Nat}{t:Tw}{n:Nat}(hc:X.calm=kd)(h:ky X es t)
  (Y:(g6 es X.env).9=n:=by rfl) (w:(g6 es X.env).findIdx? (·.1)=none:=by rfl):PG X (.Tuple es k pos) (fw X.K n t):=by
 intro y s f H v u Q I r z;let#[a,j,W,q,hl,z]:=z;subst W;cases r;let#[l,g,p,B]:=I.tuple q;refine assign_Tuple_tuple (I.ok.hd hc) p (by simp[Y,<- hl,g.9]) w λZ m=>?_;have A:Inv X y f H { s with heap:=Z }:=I.kept (t':=s.toks) λb o e=>m b o (Qj (QV e)) e;exact h y _ f H j _ Q A (by simpa using g) z
noncomputable def gw(y z:TE)(t:am):TG:=λv h H Q=>y h H λo k=>z h k λi w=>t o i v w λu=>Q h u
theorem Oi{o i:Expr}{b f:TE}{t:am}(Z:PE X o b)(W:PE X i f)(Y:Gd X t)
  (K:∀v,d8 (.Subscript o i pos) X.env v=(do
   let w <- pu [v] (Gz o X.env)
   let k <- pu [v,w] (Gz i X.env)
   standAt pos
   pu [v,w,k] (setItem w k v)
   release [v,w,k] []):=by intro _;rfl):PG X (.Subscript o i pos) (gw b f t):=by
 intro z s a H v u Q I r h;rw[K];refine QC (ql (OB (Z z s a H _ I h) λw j #[x,G,C,m,q]=>?_));refine QC (ql (OB (W z j a G _ C q) λk g #[y,F,B,l,p]=>?_));refine QC (QBk (QC (ql (OB (Y z g a F x y v w k u _ B m l r p) λ_ J #[E,A,n]=>?_))));exact wpAny_release #[a,E,A,n]
def Rh(te:TE)(g:TG):TS:=λD h H=>te h H λx y=>g x h y D.nx
theorem Gi{z:Expr}{g:TG}(l:PE X e te)(j:PG X z g)(f:swapsWithSole [z] e pos.line X.env=rk false:=by rfl)(b:swappedStores [z] e X.env=rk none:=by rfl)
  (m:(g6 [z] X.env).map (·.2)=[d8 z X.env]:=by rfl):PS X (.Assign [z] e pos) (Rh te g):=by
 intro y s u H D I h;refine wpAny_Assign_stores (OB (l y s u H _ I h) λv w #[x,o,n,k,a]=>?_) f b;rw[m];exact OB (j y w u o x v _ n k a) λ_ p q=>q
theorem Ci{pos':Pos}(l:X.N.Nodup)(f:X.N[i]?=kv x)(a:bn X.env.scope x)(j:PE X e te)(b:Cz e (kv (.Name x pos')) pos.line X.env=rk false:=by rfl)(g:X.fn x=kd∨X.env.scope.names.lookup x=kv .local) :
  PS X (.Assign [.Name x pos'] e pos) (Rh te (yY i)):=by
 intro z s u H D I h;refine wpAny_Assign_Name (OB (j z s u H _ I h) λv q #[y,o,n,w,k]=>?_) b;exact HR n l f a w (λp m=>#[_,o,m,k]) g
end
end
section
variable{X:Cx}{pos:Pos}
def G2(c:TT)(tb:TS):TS:=λD h H=>∃W:Nat->St->Hp->Prop,(∃m,W m h H)/\∀m h H,W m h H ->
 c h H λb z=>if b=kd then ∃N:St->Hp->Prop,(∀x u,N x u->∃y,y < m/\W y x u)/\tb { D with nx:=N,ct:=N,bk:=D.nx } h z else D.nx h z
theorem J4{c:Expr}{body:List z4}{tc:TT}{tb:TS}(p:pd (k5 X.prog X.w) X.A X.env X.xe)(hc:PT X c tc)(hb:SW X body tb):PS X (.While c body [] pos) (G2 tc tb):=by
 intro y s B H D I h;let#[W,#[L,E],k]:=h;refine wpAny_While (codeAny_whileLoop (λn J=>∃u K,Inv X y u K J/\W n u K) ?_ L #[B,H,I,E]);rintro n G ⟨z,Z,M,C⟩;refine wY p (OB (hc y G z Z _ M (k n z Z C)) λb F #[Y,r,g]=>?_);cases b with
 |true =>
  let#[N,q,g]:=g;rw[t6 rfl];refine wY p (OB (hb y F z Y _ r g) λf O e=>?_);cases f with|next=>let#[x,a,o,j]:=e;let#[l,m,i]:=q x a j;exact#[l,m,x,a,o,i]|cont=>let#[x,a,o,j]:=e;let#[l,m,i]:=q x a j;exact#[l,m,x,a,o,i]|brk=>exact e|ret v=>exact e
 |false=>rw[t3 QG];exact QAB #[z,Y,r,g]
end
section
variable{s:ku}{y:Expr}{P:vx}{w:v8}{K:QA}
structure It where
 go:Nat->Hp->Prop
 yld:Nat->Hp->V->Hp->Prop
 stop:Nat->Hp->Prop
def nJ(X:Cx)(h:PB)(H:Hp)(b:k0):Prop :=
 H b=kf/\b≠X.env.locals/\b∉X.fs/\(b∈X.ex∨X.s₀.1.1.size<=b)/\(∀x c,X.env.cells.lookup x=kv c->c≠b)/\∀p∈X.pn++h,p.1≠b
theorem Inv.fpOk{X:Cx}{h:PB}{σ:St}{H u:Hp}{b:k0}(I:Inv X h σ H s)(hb:s.1.1.size<=b)(a:u b=kf):nJ X h u b:=by refine#[a,wy (Qo I.lt hb),I.nofs hb,.inr (QW I.sz hb),λx c e z=>?_,λp k z=>?_];let#[v,q]:=I.cell x c e;exact Uz (Qo q.lt (by rw[z];exact hb)) (wC _);exact Uz (Qo (QV (I.pin p k).1) (by rw[z];exact hb)) (wC _)
structure Turn0(P:vx)(w:v8)(K:QA)(y:Expr)(J:It)(fp:List k0)(it:k0)(tn:Nat->v5->Prop):Prop where
 mem:it∈fp
 obj:∀i h,tn i h->∀b∈fp,∃o,h.get? b=kv o/\∀v,o.data≠.cell v
 keep:∀i h h',tn i h->(∀b∈fp,∀o,h.get? b=kv o->h'.get? b=kv o)->tn i h'
 item:∀(X:Cx),X.prog=P->X.w=w->X.K=K->X.calm=kd->∀(i:Nat) (pins:PB) (s:ku) (σ:St) (H:Hp) (E:cC),Inv X pins σ H s->(∀b∈fp,nJ X pins H b)->tn i s.1->J.go i H ->
  ko (k5 P w) X.A (li (.ref it)) (λr s1=>∃u,r=kv u /\
   ko (k5 P w) X.A (fv y (.ref it) u) (λ_ s2=>∃x H',Inv X pins σ H' s2/\VA x u/\J.yld i H x H'/\tn (i+1) s2.1/\∀b∈fp,H' b=kf) E s1) E s
 done:∀(X:Cx),X.prog=P->X.w=w->X.K=K->X.calm=kd->∀(i:Nat) (pins:PB) (s:ku) (σ:St) (H:Hp) (E:cC),Inv X pins σ H s->(∀b∈fp,nJ X pins H b)->tn i s.1->J.stop i H ->
  ko (k5 P w) X.A (li (.ref it)) (λr s1=>r=kf/\Inv X pins σ H s1) E s
structure Turn(P:vx)(w:v8)(K:QA)(y:Expr)(J:It)(fp:List k0)(it:k0)(tn:Nat->v5->Prop):Prop extends Turn0 P w K y J fp it tn where
 self:∀(A:Xz) (i:Nat) (s:ku) (Q:cC) (E:cC),tn i s.1->Q (.ref it) s->ko (k5 P w) A (eH (.ref it)) Q E s
noncomputable abbrev TI:=St->Hp->(It->Hp->Prop)->Prop
def Iw(X:Cx)(h:PB)(σ:St)(y:Expr)(R:It->Hp->Prop)(x:kn)(u:ku):Prop :=
 ∃(it:k0) (v:List k0) (tn:Nat->v5->Prop) (J:It) (z:Hp),x=.ref it/\Inv X h σ z u/\Turn X.prog X.w X.K y J v it tn/\tn 0 u.1/\(∀b∈v,nJ X h z b)/\R J z
def PI(X:Cx)(y x:Expr)(u:TI):Prop :=
 ∀(h:PB) (s:ku) (z:St) (H:Hp) (R:It->Hp->Prop),Inv X h z H s->u z H R ->
  ko (k5 X.prog X.w) X.A (Gz x X.env) (λv k=>ko (k5 X.prog X.w) X.A (eH v) (Iw X h z y R) X.xe k) X.xe s
def Ew(X:Cx)(h:PB)(σ:St)(y:Expr)(R:It->Hp->Prop)(x:kn)(u:ku):Prop :=
 ∃(it:k0) (v:List k0) (tn:Nat->v5->Prop) (J:It) (z:Hp),x=.ref it/\Inv X h σ z u/\Turn0 X.prog X.w X.K y J v it tn/\tn 0 u.1/\(∀b∈v,nJ X h z b)/\R J z
def Yt(X:Cx)(y x:Expr)(u:TI):Prop :=
 ∀(h:PB) (s:ku) (z:St) (H:Hp) (R:It->Hp->Prop),Inv X h z H s->u z H R ->
  ko (k5 X.prog X.w) X.A (Gz x X.env) (λv k=>ko (k5 X.prog X.w) X.A (eH v) (Ew X h z y R) X.xe k) X.xe s
theorem PI.to0{X:Cx}{z:Expr}{k:TI}(h:PI X y z k):Yt X y z k:=λu s a H R I q =>
 qu (h u s a H R I q) (λv m f=>qu f (λb l #[it,g,tn,J,j,e,i,T,r]=>#[it,g,tn,J,j,e,i,T.toTurn0,r]) λ_ _ x=>x) λ_ _ x=>x
theorem go_of{M:Model}{A:Xz}{E:cC}{it:k0}{u:kn}{o:Obj}{n:String}{vs:Array kn}{Q:Unit->ku->Prop}(z:s.1.get? it=kv o)(hc:o.cls=.type n)(k:o.data=.fields vs)
    (v:["enumerate","zip","dict_itemiterator","dict_reverseitemiterator","odict_iterator","itertools.zip_longest","itertools.pairwise"].contains n=kb) (x:Q Unit.unit s):ko M A (fv y (.ref it) u) Q E s:=by
  unfold fv;cases y<;>first
    |exact QK x
    | (cases u<;>first
        |exact QK x
        | (refine QC (wpAny_load z ?_)
           rw[hc,k];show ko M A (if(["enumerate","zip","dict_itemiterator","dict_reverseitemiterator","odict_iterator","itertools.zip_longest","itertools.pairwise"].contains n&&vs[0]?==kv (g7 _))=kd then _ else _) Q E s;rw[t3 (by intro h;rw[v,QAV]at h;cases h)];exact QK x))
noncomputable def Dy(K:QA)(a:k0):It :=
 #[λi H=>∃h x,jC K H a h/\h[i]?=kv x,λi H x z=>z=H/\∀h,jC K H a h->h[i]?=kv x,λi H=>∃h,jC K H a h/\h.9<=i]
noncomputable def By(K:QA)(a:k0):It :=
 #[λi H=>∃h x,xD K H a h/\h[i]?=kv x,λi H x z=>z=H/\∀h,xD K H a h->h[i]?=kv x,λi H=>∃h,xD K H a h/\h.9<=i]
noncomputable def gx(h:Int)(n:Nat):It:=#[λi _=>i<n,λi H x z=>z=H/\x=.int (h+i),λi _=>n<=i]
theorem XY(a it:k0):Turn P w K y (Dy K a) [it] it (λi h=>h.IsListIter it a i) where
 mem:=by simp
 obj:=λi h st b hb=>by
  have e:b=it:=by simpa using hb
  subst e;let#[o,e,c,d]:=st;exact#[o,e,λv z=>by rw[d]at z;cases z]
 keep:=λi h m st k=>st.at λo e=>k it (by simp) o e
 item:=by intro X W Y A hc i f s L H E I l st Z;subst W Y A;let#[M,x,j,r]:=Z;let#[q,n,p,Q]:=I.list j;let#[u,S,O]:=n.get r;let#[J,G,f2,F,C,B]:=l it (by simp);refine wpAny_pyNext_list_item st p.isList (x:=u) (by simpa using S) λm g N=>?_;have I1:Inv X f L H { s with heap:=m }:=I.turned (t':=s.toks) (λb o hb e=>(N.2 b hb).trans e) J G F C B;let#[o,e,c,d]:=id g;exact#[u,rfl,go_of (s:={ s with heap:=m }) e c d (by decide) #[x,H,I1,O,#[rfl,λys R=>by rw[I.list_inj R j];exact r],g,λb hb=>(l b hb).1]]
 done:=by intro X W Y A hc i f s L H E I l st Z;subst W Y A;let#[M,j,r]:=Z;let#[q,n,p,Q]:=I.list j;let#[J,G,f2,F,C,B]:=l it (by simp);have hl:=n.9;exact wpAny_pyNext_list_end (I.ok.hd hc) st p.isList (by simp;omega) λm eb=>#[rfl,I.turned (t':=s.toks) (λb o hb e=>eb b o hb e) J G F C B]
 self:=λ_ _ _ _ _ st h=>wpAny_pyIter_listiter st h
theorem CU(a it:k0):Turn P w K y (By K a) [it] it (λi h=>h.IsTupleIter it a i) where
 mem:=by simp
 obj:=λi h st b hb=>by
  have e:b=it:=by simpa using hb
  subst e;let#[o,e,c,d]:=st;exact#[o,e,λv z=>by rw[d]at z;cases z]
 keep:=λi h n st k=>st.at λo e=>k it (by simp) o e
 item:=by intro X W Y A hc i f s L H E I m st Z;subst W Y A;let#[M,x,l,r]:=Z;let#[g,q,p,Q]:=I.tuple l;let#[u,S,O]:=q.get r;let#[J,G,f2,F,C,B]:=m it (by simp);refine wpAny_pyNext_tuple_item st (show s.1.IsTuple a g.toArray from p) (x:=u) (by simpa using S) λn j N=>?_;have I1:Inv X f L H { s with heap:=n }:=I.turned (t':=s.toks) (λb o hb e=>(N.2 b hb).trans e) J G F C B;let#[o,e,c,d]:=id j;exact#[u,rfl,go_of (s:={ s with heap:=n }) e c d (by decide) #[x,H,I1,O,#[rfl,λys R=>by rw[I.tuple_inj R l];exact r],j,λb hb=>(m b hb).1]]
 done:=by intro X W Y A hc i f s L H E I m st Z;subst W Y A;let#[M,l,r]:=Z;let#[g,q,p,Q]:=I.tuple l;let#[J,G,f2,F,C,B]:=m it (by simp);have hl:=q.9;exact wpAny_pyNext_tuple_end (I.ok.hd hc) st (show s.1.IsTuple a g.toArray from p) (by simp;omega) λn eb=>#[rfl,I.turned (t':=s.toks) (λb o hb e=>eb b o hb e) J G F C B]
 self:=λ_ _ _ _ _ st h=>wpAny_pyIter_tupleiter st h
theorem DU(it:k0)(a:Int)(n:Nat):Turn P w K y (gx a n) [it] it (λi h=>IsRangeIter h it (a+(i:Nat) * 1) ((n:Int) - (i:Nat)) 1) where
 mem:=by simp
 obj:=λi h st b hb=>by
  have e:b=it:=by simpa using hb
  subst e;exact#[_,st,λv z=>by have F:Data.fields _=Data.cell v:=z;cases F]
 keep:=λi h g st k=>k it (by simp) _ st
 item:=by intro X m j p hc i x s B H E I f st l;subst m j p;let#[A,Z,J,Y,r,q]:=f it (by simp);have W:=Walks.range (prog:=X.prog) (w:=X.w) (I.ok.hd hc) it a 1 n;refine W.item i s _ _ l st λv g C hv u G=>?_;let#[t,rfl]:=hv;have M:Inv X x B H { s with heap:=g,toks:=C }:=I.turned (λb o hb e=>G b o (by simpa using hb) e) A Z Y r q;refine#[_,rfl,go_of (s:={ s with heap:=g,toks:=C }) (n:="range_iterator") u rfl rfl (by decide) #[.int (a+i),H,M,#[t,?_],#[rfl,rfl],u,λb hb=>(f b hb).1]];rw[Int.mul_one]
 done:=by intro X m j p hc i x s B H E I f st l;subst m j p;let#[A,Z,J,Y,r,q]:=f it (by simp);exact wpAny_pyNext_range_end (I.ok.hd hc) st (by have:n<=i:=l;omega) λg L=>#[rfl,I.turned (t':=s.toks) (λb o hb e=>L b o hb e) A Z Y r q]
 self:=λ_ _ _ _ _ st h=>wpAny_pyIter_rangeiter st h
end
section
variable{X:Cx}{a:Expr}
section
variable{y:PB}{σ:St}{H:Hp}{s:ku}{k:List k0}{h:v5}
theorem y4{R:It->Hp->Prop}{E:cC}{x z:Int}{t u v:Tok}{f:Nat}(I:Inv X y σ H s)(m:-(2 ^ 62)<=x)(l:x<2 ^ 62)(j:-(2 ^ 62)<=z)(i:z<2 ^ 62)
  (q:R (gx x (z - x).toNat) H):ko (k5 X.prog X.w) X.A (eH (.ref s.1.1.size)) (Iw X y σ a R) E { s with heap:=s.1.push { cls:=.type "range",data:=.fields (qG [.int x t,.int z u,.int 1 v]) },toks:=f }:=by
 refine wpAny_pyIter_range (IsRange.new ..) (pc m l j i) ?_;have g:Inv X y σ H { s with heap:=s.1.push { cls:=.type "range",data:=.fields (qG [.int x t,.int z u,.int 1 v]) },toks:=f }:=I.kept λb o e=>QH _ e;refine#[(s.1.push { cls:=.type "range",data:=.fields (qG [.int x t,.int z u,.int 1 v]) }).1.size,[(s.1.push { cls:=.type "range",data:=.fields (qG [.int x t,.int z u,.int 1 v]) }).1.size],_,_,H,rfl,
  g.kept (t':=f) λb o e=>QH _ e,DU _ x (z - x).toNat,?_,λb hb=>?_,q]
 have p:x+((0:Nat):Int) * 1=x:=by simp
 have n:(((z - x).toNat:Nat):Int) - ((0:Nat):Int)=WX x z 1:=by rw[QBl];split<;>omega
 show IsRangeIter _ _ (x+((0:Nat):Int) * 1) ((((z - x).toNat:Nat):Int) - ((0:Nat):Int)) 1;rw[p,n];exact QO _ rfl;have e:b=(s.1.push { cls:=.type "range",data:=.fields (qG [.int x t,.int z u,.int 1 v]) }).1.size:=by simpa using hb
 subst e;exact g.fpOk (QT _) (g.hok.fresh (QT _))
def Xu(b:TI)(g:TG)(tb:TS):TS:=λD σ H=>b σ H λJ f=>∃W:Nat->Nat->St->Hp->Prop,(∃m,W 0 m σ f)/\∀i m σ H,W i m σ H ->
 (J.stop i H/\D.nx σ H)∨(J.go i H/\∃N:St->Hp->Prop,(∀z u,N z u->∃w,w < m/\W (i+1) w z u)/\∀x u,J.yld i H x u->g x σ u λv e=>tb { D with nx:=N,ct:=N,bk:=D.nx } v e)
noncomputable def uM(k:List k0)(h:v5):PB:=k.filterMap λb=>(h.get? b).map λo=>(b,o)
theorem kF{b:k0}{o:Obj}(hb:b∈k)(e:h.get? b=kv o):(b,o)∈uM k h:=QBm.mpr #[b,hb,by rw[e];rfl]
theorem vZ{p:k0×Obj}(x:p∈uM k h):p.1∈k/\h.get? p.1=kv p.2:=by
 let#[b,hb,e]:=QBm.mp x;cases q:h.get? b with|none=>rw[q]at e;cases e|some o=>rw[q]at e;have z:(b,o)=p:=Qi e;subst z;exact#[hb,q]
theorem Inv.pinned(I:Inv X y σ H s)(f:∀b∈k,nJ X y H b)(w:∀b∈k,∃o,s.1.get? b=kv o/\∀v,o.data≠.cell v):Inv X (y++uM k s.1) σ H s :=
 I.pins_of λp u=>(Qg.mp u).elim (λz=>I.pin p (Qa _ z)) λz=>by let#[hb,e]:=vZ z;let#[j,i,g,_]:=f p.1 hb;let#[o,x,d]:=w p.1 hb;rw[e]at x;cases x;exact#[e,j,i,g,d]
theorem Inv.unpinned{x:PB}(I:Inv X (y++x) σ H s):Inv X y σ H s:=I.pins_of λp z=>I.pin p (Qa _ (Qp _ z))
theorem Di{q:Expr}{body:List z4}{wi:TI}{g:TG}{tb:TS}{pos:Pos}(O:pd (k5 X.prog X.w) X.A X.env X.xe)(hc:X.calm=kd)(hi:Yt X a q wi)(hg:PG X a g)(hb:SW X body tb)
  (hs:∀x,gp q X.env x=rk x:=by intro _;rfl):PS X (.For a q body [] pos) (Xu wi g tb):=by
 intro y s σ H D I h;refine wpAny_For (OB (hi y s σ H _ I h) λv s1 h1=>OB h1 λitv s2 h2=>?_) hs;let#[it,k,tn,J,H2,e,I2,T,S,f2,W,#[m0,w0],F]:=h2;subst e;have p:∀{B:Hp},(∀b∈k,B b=kf)->∀b∈k,nJ X y B b:=λhn b hb=>#[hn b hb,(f2 b hb).2]
 refine codeAny_forLoop_any (λn s'=>∃i l B,Inv X y l B s'/\tn i s'.1/\(∀b∈k,B b=kf)/\W i n l B) ?_ m0 #[0,σ,H2,I2,S,λb hb=>(f2 b hb).1,w0];rintro n s3 ⟨i,j,Q,I3,L,P,w3⟩;rcases F i n j Q w3 with⟨G,qn⟩| ⟨go,N,hN,step⟩
 refine wY O (OB (T.done X rfl rfl rfl hc i y s3 j Q X.xe I3 (p P) L G) λr s4 #[hr,I4]=>?_);subst hr;exact QAB #[j,Q,I4,qn];refine wY O (OB (T.item X rfl rfl rfl hc i y s3 j Q X.xe I3 (p P) L go) λr s4 #[u,hr,h4]=>?_);subst hr;refine wY O (OB h4 λ_ s5 #[x,H5,I5,r5,y5,E,fr5]=>?_);have I5':=I5.pinned (p fr5) (T.obj _ _ E);refine wY O (OB (hg _ s5 j H5 x u _ I5' r5 (step x H5 y5)) λ_ s6 #[R,H6,I6,q6]=>?_);refine wY O (OB (hb _ s6 R H6 _ I6 q6) λf s7 C=>?_);have Y:∀{z:St}{K:Hp},Inv X (y++uM k s5.1) z K s7->N z K->∃m,m<n/\∃i l B,Inv X y l B s7/\tn i s7.1/\(∀b∈k,B b=kf)/\W i m l B:=λ{z K} Z M=>by let#[m',hm,w7]:=hN z K M;refine#[m',hm,i+1,z,K,Z.unpinned,T.keep _ _ _ E λb hb o e=>(Z.pin (b,o) (Qa _ (Qa _ (kF hb e)))).1,λb hb=>?_,w7];let#[o,e,d]:=T.obj _ _ E b hb;exact(Z.pin (b,o) (Qa _ (Qa _ (kF hb e)))).2.1
 cases f with|next=>let#[z,K,Z,M]:=C;exact Y Z M|cont=>let#[z,K,Z,M]:=C;exact Y Z M|brk=>let#[z,K,Z,C]:=C;exact#[z,K,Z.unpinned,C]|ret v=>let#[x7,z,K,Z,r7,C]:=C;exact#[x7,z,K,Z.unpinned,r7,C]
end
end
noncomputable abbrev R2:=V->V->Hp->VK->Prop
def SE(X:Cx)(f:kn->kn->Sem kn)(r:R2):Prop :=
 ∀(h:PB) (s:ku) (z:St) (H:Hp) (x y:V) (v u:kn) (Q:VK),Inv X h z H s->VA x v->VA y u->r x y H Q ->
  ko (k5 X.prog X.w) X.A (f v u) (EP X h z Q) X.xe s
def Pw(X:Cx)(f:kn->Sem kn)(r:V->Hp->VK->Prop):Prop :=
 ∀(h:PB) (s:ku) (y:St) (H:Hp) (x:V) (v:kn) (Q:VK),Inv X h y H s->VA x v->r x H Q ->
  ko (k5 X.prog X.w) X.A (f v) (EP X h y Q) X.xe s
def gC(X:Cx)(f:kn)(r:LV->Hp->VK->Prop):Prop :=
 ∀(h:PB) (s:ku) (x:St) (H:Hp) (y:LV) (z:LW) (Q:VK),Inv X h x H s->sA y z->r y H Q ->
  ko (k5 X.prog X.w) X.A (dt f z) (EP X h x Q) X.xe s
def Sw(X:Cx)(r:V->Hp->(Bool->Hp->Prop)->Prop):Prop :=
 ∀(h:PB) (s:ku) (y:St) (H:Hp) (x:V) (v:kn) (Q:Bool->Hp->Prop),Inv X h y H s->VA x v->r x H Q ->
  ko (k5 X.prog X.w) X.A (truthy v) (TP X h y Q) X.xe s
noncomputable def ao(r:R2)(ta tb:TE):TE:=λh H Q=>ta h H λx u=>tb h u λy z=>r x y z Q
noncomputable def jz(r:V->Hp->VK->Prop)(ta:TE):TE:=λh H Q=>ta h H λx y=>r x y Q
noncomputable def rI(C:Int->Int->Prop)(g:Int->Int->V):R2:=λx y H Q=>∃i j,x=.int i/\y=.int j/\C i j/\Q (g i j) H
noncomputable def ja(g:Int->Int->V):R2:=λx y H Q=>∃i j,x=.int i/\y=.int j/\Q (g i j) H
def rU(g:Int->V):V->Hp->VK->Prop:=λx H Q=>∃i,x=.int i/\Q (g i) H
section
variable{X:Cx}{a b c:Expr}{ta z tc:TE}{pos:Pos}
section
variable{f:kn->kn->Sem kn}{g:Int->Int->Int}
theorem binT(Z:PE X a ta)(hb:PE X b z){k:PB}{s:ku}{σ:St}{H:Hp}{R:V->V->Hp->Prop}(I:Inv X k σ H s)
  (h:ta σ H λx m=>z σ m λy e=>R x y e) {Q:cC}
  (Y:∀v u l x y e,Inv X k σ e l->VA x v->VA y u->R x y e->ko (k5 X.prog X.w) X.A (f v u) Q X.xe l) :
  ko (k5 X.prog X.w) X.A (Gz a X.env) (λv j=>ko (k5 X.prog X.w) X.A (Gz b X.env) (λu i=>ko (k5 X.prog X.w) X.A (f v u) Q X.xe i) X.xe j) X.xe s:=by
 refine OB (Z k s σ H _ I h) λv n #[x,m,K,p,r]=>?_;refine OB (hb k n σ m _ K r) λu l #[y,e,W,o,q]=>?_;exact Y v u l x y e W p o q
theorem Zp{op:gV}{r:R2}(l:SE X (hZ op) r)(m:PE X a ta)(hb:PE X b z):PE X (.BinOp a op b pos) (ao r ta z):=by intro w s k H Q I h;exact wpAny_BinOp (binT m hb I h λv u e x y o n j i q=>l w e k o x y v u Q n j i q)
theorem Yp{op:p0}{r:V->Hp->VK->Prop}(i:Pw X (unaryOp op) r)(j:PE X a ta):PE X (.UnaryOp op a pos) (jz r ta):=by intro y s u H Q I h;exact UnaryOp_ (OB (j y s u H _ I h) λv w #[x,m,l,k,e]=>i y w u m x v Q l k e)
theorem gz{C:Int->Int->Prop}
  (k:∀(i j:Int) (t u:Tok) (s:ku) (Q:cC) (E:cC),C i j->Q (.int (g i j) s.toks) { s with toks:=s.toks+1 }->ko (k5 X.prog X.w) X.A (f (.int i t) (.int j u)) Q E s) :
  SE X f (rI C λi j=>.int (g i j)):=by
 intro e s o H x y v u Q I n m h;let#[i,j,rfl,rfl,hc,q]:=h;let#[t,rfl]:=n;let#[l,rfl]:=m;exact k i j t l s _ _ hc #[.int (g i j),H,I.tok _,#[_,rfl],q]
theorem Dp
  (k:∀(i j:Int) (t u:Tok) (s:ku) (Q:cC) (E:cC),Q (.int (g i j) s.toks) { s with toks:=s.toks+1 }->ko (k5 X.prog X.w) X.A (f (.int i t) (.int j u)) Q E s) :
  SE X f (ja λi j=>.int (g i j)):=by
 intro e s o H x y v u Q I n m h;let#[i,j,rfl,rfl,q]:=h;let#[t,rfl]:=n;let#[l,rfl]:=m;exact k i j t l s _ _ #[.int (g i j),H,I.tok _,#[_,rfl],q]
theorem Aa{g:Int->Int->Bool}
  (k:∀(i j:Int) (t u:Tok) (s:ku) (Q:cC) (E:cC),Q (.bool (g i j)) s->ko (k5 X.prog X.w) X.A (f (.int i t) (.int j u)) Q E s) :
  SE X f (ja λi j=>.bl (g i j)):=by
 intro e s o H x y v u Q I n m h;let#[i,j,rfl,rfl,q]:=h;let#[t,rfl]:=n;let#[l,rfl]:=m;exact k i j t l s _ _ #[.bl (g i j),H,I,rfl,q]
def iN(i j:Int):Prop:=(-(2 ^ 64)<i/\i<2 ^ 64)∨(-(2 ^ 64)<j/\j<2 ^ 64)
theorem iN.ok{i j:Int}(h:iN i j):Dz i j:=by
 rcases h with⟨y,x⟩| ⟨y,x⟩
 exact .of_left (Nz y x);exact .of_right (Nz y x)
theorem op_add:SE X (hZ .Add) (ja λi j=>.int (i+j)):=Dp λ_ _ _ _ _ _ _ q=>add_int q
theorem op_sub:SE X (hZ .Sub) (ja λi j=>.int (i - j)):=Dp λ_ _ _ _ _ _ _ q=>sub_int q
theorem op_mod:SE X (hZ .Mod) (rI (λ_ j=>0<j) λi j=>.int (i % j)):=gz λi j _ _ _ _ _ hc q=>by have h:(0:Int)<j:=hc;exact mod_int' () (by rw[Int.fmod_eq_emod_of_nonneg i ()];exact q)
theorem Iy{f:kn->Sem kn}{g:Int->Int}
  (y:∀(i:Int) (t:Tok) (s:ku) (Q:cC) (E:cC),Q (.int (g i) s.toks) { s with toks:=s.toks+1 }->ko (k5 X.prog X.w) X.A (f (.int i t)) Q E s) :
  Pw X f (rU λi=>.int (g i)):=by
 intro u s e H x v Q I k h;let#[i,rfl,q]:=h;let#[t,rfl]:=k;exact y i t s _ _ #[.int (g i),H,I.tok _,#[_,rfl],q]
theorem Nh:Pw X (unaryOp .USub) (rU λi=>.int (-i)):=Iy λ_ _ _ _ _ q=>neg_int q
end
end
noncomputable def R9:V->V->Bool
 | .non,.non=>kd | .non,.int _=>kd | .int _,.non=>kd | .non,.bl _=>kd | .bl _,.non=>kd | .non,.str _=>kd | .str _,.non=>kd
 | .int _,.int _=>kd | .bl _,.bl _=>kd | .str _,.str _=>kd | .byt _,.byt _=>kd
 | .int _,.str _=>kd | .str _,.int _=>kd | .bl _,.str _=>kd | .str _,.bl _=>kd
 |_,_=>kb
def rEq:R2:=λx y H Q=>R9 x y=kd/\Q (.bl (decide (x=y))) H
def bz:R2:=λx y H Q=>R9 x y=kd/\Q (.bl (!decide (x=y))) H
theorem gY{i j:Int}:decide (V.int i=V.int j)=(i==j):=by rw[qF];simp
theorem G7{i j:Bool}:decide (V.bl i=V.bl j)=(i==j):=by rw[qF];simp
theorem fY{i j:Str}:decide (V.str i=V.str j)=(i==j):=by rw[qF];simp
theorem lY{i j:Array UInt8}:decide (V.byt i=V.byt j)=(i.toList==j.toList):=by rw[qF];cases i;cases j;simp
section
variable{X:Cx}{a b c:Expr}{ta d tc:TE}{pos:Pos}
section
variable{r:R2}{op:h7}{us:LW}
theorem ZA{h:PB}{σ:St}{H:Hp}{s:ku}{Q:VK}{k x:Bool}(I:Inv X h σ H s)(q:Q (.bl k) H)(e:k=x):EP X h σ Q (.bool x) s:=by subst e;exact#[.bl k,H,I,rfl,q]
theorem op_eq:SE X (vu .Eq) rEq:=by
 intro f s g H x y v u Q I e z h;let#[k,q]:=h;cases x with
 |non =>
  cases e;cases y with|non=>cases z;exact PySem.EqNone.eq_none_none (ZA I q (by simp))|bl j=>cases z;exact PySem.EqNone.eq_none_bool (ZA I q (by simp))|int j=>let#[w,rfl]:=z;exact PySem.EqNone.eq_none_int (ZA I q (by simp))|str j=>let#[w,rfl]:=z;exact PySem.EqNone.eq_none_str (ZA I q (by simp))|_=>exact Uz (show kb=kd from k) QG
 |bl i =>
  cases e;cases y with|non=>cases z;exact PySem.EqNone.eq_bool_none (ZA I q (by simp))|bl j=>cases z;exact eq_bool (ZA I q G7)|str j=>let#[w,rfl]:=z;exact PySem.EqMixed.eq_bool_str (ZA I q (by simp))|_=>exact Uz (show kb=kd from k) QG
 |int i =>
  let#[t,rfl]:=e;cases y with|non=>cases z;exact PySem.EqNone.eq_int_none (ZA I q (by simp))|int j=>let#[w,rfl]:=z;exact eq_int (ZA I q gY)|str j=>let#[w,rfl]:=z;exact PySem.EqMixed.eq_int_str (ZA I q (by simp))|_=>exact Uz (show kb=kd from k) QG
 |str i =>
  let#[t,rfl]:=e;cases y with|non=>cases z;exact PySem.EqNone.eq_str_none (ZA I q (by simp))|bl j=>cases z;exact PySem.EqMixed.eq_str_bool (ZA I q (by simp))|int j=>let#[w,rfl]:=z;exact PySem.EqMixed.eq_str_int (ZA I q (by simp))|str j=>let#[w,rfl]:=z;exact eq_str (ZA I q fY)|_=>exact Uz (show kb=kd from k) QG
 |byt i =>
  let#[t,rfl]:=e;cases y with|byt j=>let#[w,rfl]:=z;exact PySem.W.eq_bytes (ZA I q lY)|_=>exact Uz (show kb=kd from k) QG
 |_=>cases y<;>exact Uz (show kb=kd from k) QG
theorem op_ne:SE X (vu .NotEq) bz:=by
 intro f s g H x y v u Q I e z h;let#[k,q]:=h;cases x with
 |non =>
  cases e;cases y with|non=>cases z;exact PySem.EqNone.ne_none_none (ZA I q (by simp))|bl j=>cases z;exact PySem.EqNone.ne_none_bool (ZA I q (by simp))|int j=>let#[w,rfl]:=z;exact PySem.EqNone.ne_none_int (ZA I q (by simp))|str j=>let#[w,rfl]:=z;exact PySem.EqNone.ne_none_str (ZA I q (by simp))|_=>exact Uz (show kb=kd from k) QG
 |bl i =>
  cases e;cases y with|non=>cases z;exact PySem.EqNone.ne_bool_none (ZA I q (by simp))|bl j=>cases z;exact ne_bool (ZA I q (ak not G7))|str j=>let#[w,rfl]:=z;exact PySem.EqMixed.ne_bool_str (ZA I q (by simp))|_=>exact Uz (show kb=kd from k) QG
 |int i =>
  let#[t,rfl]:=e;cases y with|non=>cases z;exact PySem.EqNone.ne_int_none (ZA I q (by simp))|int j=>let#[w,rfl]:=z;exact ne_int (ZA I q (ak not gY))|str j=>let#[w,rfl]:=z;exact PySem.EqMixed.ne_int_str (ZA I q (by simp))|_=>exact Uz (show kb=kd from k) QG
 |str i =>
  let#[t,rfl]:=e;cases y with|non=>cases z;exact PySem.EqNone.ne_str_none (ZA I q (by simp))|bl j=>cases z;exact PySem.EqMixed.ne_str_bool (ZA I q (by simp))|int j=>let#[w,rfl]:=z;exact PySem.EqMixed.ne_str_int (ZA I q (by simp))|str j=>let#[w,rfl]:=z;exact ne_str (ZA I q (ak not fY))|_=>exact Uz (show kb=kd from k) QG
 |byt i =>
  let#[t,rfl]:=e;cases y with|byt j=>let#[w,rfl]:=z;exact PySem.W.ne_bytes (ZA I q (ak not lY))|_=>exact Uz (show kb=kd from k) QG
 |_=>cases y<;>exact Uz (show kb=kd from k) QG
theorem op_lt:SE X (vu .Lt) (ja λi j=>.bl (decide (i<j))):=Aa λ_ _ _ _ _ _ _ q=>lt_int q
theorem op_le:SE X (vu .LtE) (ja λi j=>.bl (decide (i<=j))):=Aa λ_ _ _ _ _ _ _ q=>le_int q
theorem op_gt:SE X (vu .Gt) (ja λi j=>.bl (decide (j<i))):=Aa λ_ _ _ _ _ _ _ q=>gt_int q
theorem op_ge:SE X (vu .GtE) (ja λi j=>.bl (decide (j<=i))):=Aa λ_ _ _ _ _ _ _ q=>ge_int q
theorem EY:SE X (vu .In) (λx y H Q=>∃i j,x=.str i/\y=.str j/\Q (.bl (!(wj j i 0 j.9 1).isEmpty)) H):=by intro z s e H x y v u Q I k w h;let#[i,j,rfl,rfl,q]:=h;let#[t,rfl]:=k;let#[f,rfl]:=w;exact in_str (ZA I q rfl)
theorem vj:SE X (vu .Is) (λx y H Q=>y=.non/\Q (.bl (decide (x=.non))) H):=by
 intro w s e H x y v u Q I z k h;let#[rfl,q]:=h;cases k;refine is_none_gen (ZA I q ?_);cases x<;>first
  | (cases z;rfl)
  | (let#[t,rfl]:=z;rfl)
theorem Ra:SE X (vu .IsNot) (λx y H Q=>y=.non/\Q (.bl (!decide (x=.non))) H):=by
 intro w s e H x y v u Q I z k h;let#[rfl,q]:=h;cases k;refine isnot_none_gen (ZA I q ?_);cases x<;>first
  | (cases z;rfl)
  | (let#[t,rfl]:=z;rfl)
theorem yQ:SE X (vu .NotIn) (λx y H Q=>∃i j,x=.str i/\y=.str j/\Q (.bl (!(!(wj j i 0 j.9 1).isEmpty))) H):=by intro z s e H x y v u Q I k w h;let#[i,j,rfl,rfl,q]:=h;let#[t,rfl]:=k;let#[f,rfl]:=w;exact notIn_str (ZA I q rfl)
theorem SE.or{f:kn->kn->Sem kn}{g:R2}(h:SE X f r)(h':SE X f g):SE X f (λx y H Q=>r x y H Q∨g x y H Q):=by intro z s w H x y v u Q I e k q;rcases q with q|q;exact h z s w H x y v u Q I e k q;exact h' z s w H x y v u Q I e k q
theorem Ha(g:SE X (vu op) r)(j:PE X a ta)(hb:PE X b d)(i:ej op b=kb):PE X (.Compare a [op] [b] pos) (ao r ta d):=by intro z s w H Q I h;exact wpAny_Compare1 (binT j hb I h λv u k x y m l f e q=>g z k w m x y v u Q l f e q) i
def oo(t:TE):TT:=λh H Q=>t h H λx y=>∃k,x=.bl k/\Q k y
theorem ua(q:SE X (vu op) r)(Z:PE X a ta)(hb:PE X b d)(Y:ej op b=kb):PT X (.Compare a [op] [b] pos) (oo (ao r ta d)):=by
 intro w s f H Q I h;refine wpAny_isTrue_Compare1 (OB (Z w s f H _ I h) λv i #[x,E,A,m,p]=>OB (hb w i f E _ A p) λu g #[y,C,K,l,o] =>
  OB (q w g f C x y v u _ K m l o) λc F #[z,B,W,j,k,e,n]=>?_) Y
 subst e;cases j;exact wF #[B,W,n]
def om(K:QA)(x:V)(H:Hp)(k:Bool):Prop :=
 match x with
 | .non=>k=kb|.bl b=>k=b|.int i=>k=(i != 0)|.str y=>y.9<=kt/\k=((y.9:Int) != 0)|.byt y=>y.size<=kt/\k=((y.size:Int) != 0)|.ref p=>(∃h,jC K H p h/\k=!h.isEmpty)∨(∃h,xD K H p h/\k=!h.isEmpty)∨∃z,H p=kv (.dK z)/\k=!z.isEmpty|_=>False
theorem IV{h:Type}{kvs:List (h×V)}{vs:List (h×kn)}(r:KV kvs vs):(!vs.isEmpty)=!kvs.isEmpty:=by cases r<;>rfl
theorem BM{xs:LV}{its:LW}(r:sA xs its):(!its.toArray.isEmpty)=!xs.isEmpty:=by cases r<;>simp
theorem KH:(kt:Nat)<2 ^ 63:=by rw[Q5];decide
theorem C2:Sw X (λx H Q=>∃k,om X.K x H k/\Q k H):=by
 intro Z s E H x v Q I j h;let#[k,e,q]:=h;have hl:=KH;have F:kt=16777216:=Q5;cases x with
 |non=>cases j;have z:k=false:=e;subst z;exact truthy_none #[H,I,q]|bl b=>cases j;have z:k=b:=e;subst z;exact wF #[H,I,q]|int i=>let#[t,rfl]:=j;have z:k=(i != 0):=e;subst z;exact PySem.P.truthy_int #[H,I,q]|str y=>let#[t,rfl]:=j;obtain⟨B,z⟩:y.9<=kt/\k=((y.9:Int) != 0):=e;subst z;exact PySem.P.truthy_str () #[H,I.tok _,q]|byt y=>let#[t,rfl]:=j;obtain⟨B,z⟩:y.size<=kt/\k=((y.size:Int) != 0):=e;subst z;exact PySem.W.truthy_bytes () #[H,I.tok _,q]|ref p =>
  cases j;have z:(∃g,jC X.K H p g/\k=!g.isEmpty)∨(∃g,xD X.K H p g/\k=!g.isEmpty)∨∃u,H p=kv (.dK u)/\k=!u.isEmpty:=e;rcases z with⟨g,l,z⟩| ⟨g,l,z⟩| ⟨u,l,z⟩
  subst z;let#[Y,r,o,A]:=I.list l;have f:=r.9;exact wpAny_truthy_list o.isList (by simp only[QN];omega) #[H,I.tok _,by rw[BM r];exact q];subst z;let#[Y,r,o,A]:=I.tuple l;have f:=r.9;exact truthy_tuple o (by simp only[QN];omega) #[H,I.tok _,by rw[BM r];exact q];subst z;obtain⟨A,C,n,r,m⟩:u.9<=kt/\(p==y1)=kb/\∃n,KV u n/\s.1.DictOf (xE X.prog X.w) p n:=I.hok p _ l;have f:u.9=n.length:=qC r;exact wpAny_truthy_dict C m () #[H,I.tok _,by rw[IV r];exact q]
 |_=>exact(show False from e).elim
theorem uV:SE X (hZ .Add) (λx y H Q=>∃i j,x=.str i/\y=.str j/\i.9+j.9<=kt/\Q (.str (i++j)) H):=by intro z s g H x y v u Q I e k h;let#[i,j,rfl,rfl,f,q]:=h;let#[t,rfl]:=e;let#[w,rfl]:=k;exact add_str (λw l=>#[.str (i++j),H,I.tok _,#[_,rfl],q]) f
theorem HF{x:V}(r:sA [x] us):∃u,us=[u]/\VA x u:=by
 cases r with|cons y h=>cases h;exact#[_,rfl,y]
theorem ye{x y:V}(r:sA [x,y] us):∃u h,us=[u,h]/\VA x u/\VA y h:=by
 cases r with
 |cons k w =>
  cases w with|cons v z=>cases z;exact#[_,_,rfl,k,v]
theorem j0:gC X (.type "int") (λxs H Q=>(∃i,xs=[.int i]/\Q (.int i) H)∨∃k,xs=[.bl k]/\Q (.int (if k then 1 else 0)) H):=by
 intro x s z H xs us Q I r h;rcases h with⟨i,rfl,q⟩| ⟨k,rfl,q⟩
 let#[u,rfl,t,rfl]:=HF r;exact call_int_int #[.int i,H,I,#[_,rfl],q];let#[u,rfl,y]:=HF r;cases y;exact call_int_bool #[.int (if k then 1 else 0),H,I.tok _,#[_,rfl],q]
end
end
section
variable{h:v5}{u:k0}{v:Str->Option kn}
structure ObjM(h:v5)(x u C:k0)(v:Str->Option kn):Prop where
 obj:h.get? x=kv (QA4 C u)
 ns:h.Ns1 u v
 ne:u≠x
theorem tZ(n:h.Ns1 u v):∃w,h.get? u=kv w/\∀name,QBM name w=kv (v name):=by
 let#[o,k,l,f,i,hk,_,g]:=n;refine#[o,f,λname=>?_];have e:=g name;unfold nsFind findBy at e;rw[<- Array.find?_toList]at e;unfold QBM;rw[i];dsimp only;split;rename_i y q;rw[q]at e;exact ak kv e;rename_i q;rw[q]at e;have a:k.toList.any (·.refKey)=false:=by rw[QBx];intro y b;let#[z,t,x]:=hk y (Array.mem_toList_iff.mp b);simp[DictEntry.refKey,x]
 have j:¬ k.toList.any (·.refKey)=true:=by rw[a];exact QG
 rw[t3 j];exact ak kv e
theorem ObjM.look{x C:k0}(I:ObjM h x u C v):∃y,PySem.W.InstAt h x (QA4 C u) C (kv y)/\∀name,QBM name y=kv (v name) :=
 let#[y,z,hl]:=tZ I.ns
 #[y,#[I.obj,rfl,rfl,z],hl]
end
section
variable{P:vx}{w:v8}{H v:Hp}{h h':v5}{a C y:k0}{x u:List (Str×V)}
theorem Jc(b:lL P w H h)(e:H a=kv (.ins C y x)):∃k,ObjM h a y C k/\(∀f,gU (x.lookup f) (k f))/\PySem.Within k (x.map (·.1))/\x.9<=1000/\H y=kv (.own a):=by
 let#[d,z,g,ob,k,n,r,q]:=(show GA P w H h a (.ins C y x) from b a _ e)
 exact#[k,#[ob,n,g],r,q,z,d]
end
structure Cls(K:QA)(C:k0):Prop where
 pg:QCQ K C Str.empty=kd
 hd:PySem.W.hasDictIn K C=kd
 po:PySem.W.plainOver K C=kd
 sa:PySem.W.findIn K (.ref C) "__setattr__"=kv (kv (.builtin "object.__setattr__"))
theorem Cls.get{K:QA}{C:k0}(c:Cls K C)(f:Str):QCQ K C f=true:=c.pg
section
variable{X:Cx}{v:PB}{σ:St}{H:Hp}{s:ku}{A:Xz}{E:cC}{Q:cC}{c:kn}{b:Bool}
inductive TyOf(K:QA)(H:Hp):V->kn->Prop where
 |non:TyOf K H .non (.type "NoneType")
 |bl (x:Bool):TyOf K H (.bl x) (.type "bool")
 |int (i:Int):TyOf K H (.int i) (.type "int")
 |str (x:Str):TyOf K H (.str x) (.type "str")
 |flt (x:UInt64):TyOf K H (.flt x) (.type "float")
 |lst {a:k0}{xs:LV}(e:H a=kv (.lst xs)):TyOf K H (.ref a) (.type "list")
 |frz {a:k0}{o:Obj}{xs:LV}(e:H a=kv (.frz o (.lst xs))):TyOf K H (.ref a) (.type "list")
 |tup {a:k0}{xs:LV}(e:H a=kv (.tup xs)):TyOf K H (.ref a) (.type "tuple")
 |dK {a:k0}{kvs:List (Key×V)}(e:H a=kv (.dK kvs)):TyOf K H (.ref a) (.type "dict")
 |dT {a:k0}{ep:Nat}{kvs:List (NK×k0×V)}(e:H a=kv (.dT ep kvs)):TyOf K H (.ref a) (.type "dict")
 |ins {a C dx:k0}{fs:List (Str×V)}(e:H a=kv (.ins C dx fs)) (cl:Cls K C) (ha:PySem.W.findIn K (.ref C) "__class__"=kv (kv (.builtin "object.__class__")))
   (hn:PySem.W.specialIn K (.builtin "object.__class__") "__get__"=kv (kv (.builtin "getset_descriptor.__get__"))) (htk:PySem.W.takesIn K (.builtin "object.__class__")=kv kd)
   (hm:PySem.W.mroIn K C (.type "object")=kv kd):TyOf K H (.ref a) (.ref C)
theorem XZ{x:V}{u t:kn}(I:Inv X v σ H s)(k:VA x u)(ty:TyOf X.K H x t)(e:QBN X.K t c=kv b)(h:∀B,Q (.bool b) { s with toks:=B }) :
  ko (k5 X.prog X.w) A (dt (.builtin "isinstance") [u,c]) Q E s:=by
 cases ty with
 |non=>cases(show u=Kz from k);exact qJ PySem.W.kitx_none I.kIn True.intro e (λz=>nomatch z) h
 |bl y=>cases(show u=Value.bool y from k);exact qJ PySem.W.kitx_bool I.kIn True.intro e (λz=>nomatch z) h
 |int i=>let#[t,q]:=(show ∃t,u=Value.int i t from k);cases q;exact qJ PySem.W.kitx_int I.kIn True.intro e (λz=>nomatch z) h
 |str y=>let#[t,q]:=(show ∃t,u=Value.str y t from k);cases q;exact qJ PySem.W.kitx_str I.kIn True.intro e (λz=>nomatch z) h
 |flt y=>let#[t,q]:=(show ∃t,u=Value.float y t from k);cases q;exact qJ PySem.W.kitx_float I.kIn True.intro e (λz=>nomatch z) h
 |@lst a l f =>
  cases(show u=kx a from k);let#[_,_,n,_,g]:=(show GA X.prog X.w H s.1 a (.lst l) from I.hok a _ f)
  exact qJ QAf I.kIn #[_,g,rfl] e (λz=>nomatch z) h
 |@frz a ob l f =>
  cases(show u=kx a from k);let#[_,_,_,n,_,g]:=(show GA X.prog X.w H s.1 a (.frz ob (.lst l)) from I.hok a _ f)
  exact qJ QAf I.kIn #[_,g,rfl] e (λz=>nomatch z) h
 |@tup a l f =>
  cases(show u=kx a from k);let#[_,_,_,p]:=(show GA X.prog X.w H s.1 a (.tup l) from I.hok a _ f)
  let#[o,g,m,_]:=p;exact qJ QBn I.kIn #[o,g,m] e (λz=>nomatch z) h
 |@dK a j f =>
  cases(show u=kx a from k);let#[_,_,N,_,p]:=(show GA X.prog X.w H s.1 a (.dK j) from I.hok a _ f)
  let#[o,M,Y,g,m,_]:=p;exact qJ QBy I.kIn #[o,g,m.1] e (λz=>nomatch z) h
 |@dT a Y j f =>
  cases(show u=kx a from k);let#[_,_,l,_,o,M,g,m,_]:=(show GA X.prog X.w H s.1 a (.dT Y j) from I.hok a _ f)
  exact qJ QBy I.kIn #[o,g,m.1] e (λz=>nomatch z) h
 |@ins a C S fs f Z L F r G=>cases(show u=kx a from k);let#[R,O,_]:=Jc I.hok f;let#[P,J,_]:=O.look;exact qJ (PySem.W.kitx_own (Z.get _) Z.hd L F r G) I.kIn J e (λz=>nomatch z) h
end
section
variable{k:Nat}{A:Xz}
structure Room(k:Nat)(A:Xz):Prop where
 hd:A.handled=kf
 dp:A.depth+3 * k+5<fm
 un:A.units+16 * k+200<Z1
theorem Room.mono{j:Nat}(r:Room k A)(h:j<=k):Room j A:=#[r.hd,by have:=r.dp;omega,by have:=r.un;omega]
theorem Room.deeper(r:Room (k+1) A)(env:Env):Room k (A.deeper env) :=
 #[r.hd,by have:=r.dp;show A.depth+1+3 * k+5<_;omega,by have:=r.un;show A.units+3+16 * k+200<_;omega]
theorem Room.depth(r:Room k A):A.depth<recursionLimit:=by have:=r.dp;omega
def Jo:TA:=λ_ H Q=>Q [] H
noncomputable def Ko(ta:TE)(z:TA):TA:=λh H Q=>ta h H λx v=>z h v λy u=>Q (x::y) u
end
section
variable{X:Cx}{e:Expr}{es:List Expr}{te:TE}{t:TA}{pos:Pos}
theorem PP:PA X [] Jo:=λ_ _ _ _ H Q I h=>WB #[[],H,I,.nil,h]
theorem eI(j:PE X e te)(i:PA X es t)(g:v9 (e::es) X.env=(kb,Gz e X.env)::v9 es X.env:=by rfl):PA X (e::es) (Ko te t):=by intro pos y s z H Q I h;rw[g];show ko _ _ (bb ((kb,Gz e X.env)::hQ pos (v9 es X.env))) _ _ s;refine wM (OB (j y s z H _ I h) λu w #[x,o,m,a,f]=>?_);exact OB (i pos y w z o _ m f) λp q #[v,n,l,k,b]=>#[x::v,n,l,.cons a k,b]
def au(t:TA):TE:=λy H Q=>t y H λh x=>h.9<=kt/\∀p,x p=kf->Q (.ref p) (pA x p (.tup h))
def Ku(t:TA):TE:=λy H Q=>t y H λh x=>h.9<=kt/\∀p,x p=kf->Q (.ref p) (pA x p (.lst h))
theorem Ri{x1}(h:PA X es t):PE X (.Tuple es x1 pos) (au t):=by intro x s k H Q I g;refine QBT (OB (h pos x s k H _ I g) λf y #[a,w,v,r,z,q]=>#[by rw[<- r.9];exact z,?_]);have i:w y.1.1.size=none:=v.hok.fresh (QT _);refine#[.ref y.1.1.size,pA w y.1.1.size (.tup a),v.laid (t':=y.toks) (λb u e=>QH _ e) (QT _) ?_,rfl,q _ i];exact#[z,f,r,#[_,QO _ rfl,rfl,_,rfl]]
theorem Ti(h:PA X es t):PE X (.List es pos) (Ku t):=by intro x s k H Q I g;refine wpAny_List_spliced (OB (h pos x s k H _ I g) λf y #[a,w,v,r,z,q]=>#[by rw[<- r.9];exact z,?_]);have i:w y.1.1.size=none:=v.hok.fresh (QT _);refine#[.ref y.1.1.size,pA w y.1.1.size (.lst a),v.laid (t':=y.toks) (λb u e=>QH _ e) (QT _) ?_,rfl,q _ i];exact#[z,f,0,r,QO _ rfl]
end
noncomputable abbrev Sp:=LV->Hp->VK->XK->Prop
noncomputable abbrev R8:=List Env->Hp->ku->XK->kn->ku->Prop
structure Env0(P:vx)(w:v8)(K:QA)(mg:Str->Option kn)(base:v5)(A:Xz)(outer:List Env)(s:ku)(H:Hp):Prop where
 frames:A.frames=kv outer
 mod:Mod K mg base
 bs:∀b o,base.get? b=kv o->s.1.get? b=kv o/\H b=kf
 bsz:base.1.size<=s.1.1.size
 funs:s.1.FunFrames base outer
 frf:∀b∈vY outer,H b=kf
 tb:∀P q,xP mg base P q->H P=kv (.tbl q)
 hok:lL P w H s.1
 bare:Sh s.gens
def CE(outer:List Env)(P:vx)(w:v8)(H:Hp)(s:ku)(Q:VK)(u:kn)(s':ku):Prop :=
 ∃v h,s'.os=s.os/\Sh s'.gens/\Un (vY outer) [] H h s.1 s'.1/\lL P w h s'.1/\VA v u/\Q v h
def CR(h:R8)(outer:List Env)(P:vx)(w:v8)(H:Hp)(s:ku)(Q:VK)(E:XK)(r:Result)(s':ku):Prop :=
 match r with
 | .ok (.ret u)=>CE outer P w H s Q u s'|.ok _=>False|.error e=>h outer H s E e s'
structure FnOk(P:vx)(w:v8)(K:QA)(mg:Str->Option kn)(base:v5)(CX:R8)(k:Nat)(f:k0)(fd:y3)(ps:LS)(sp:Sp):Prop where
 len:∀vs H Q E,sp vs H Q E->vs.9=ps.9
 run:∀(A:Xz) (outer:List Env) (s:ku) (H:Hp) (args:Args) (us:LW) (vs:LV) (Q:VK) (E:XK),Room k A->Env0 P w K mg base A outer s H->Lz s fd args (ps.zip us)->sA vs us->sp vs H Q E ->
  lw (k5 P w) A (.call (.ref f) args) (CR CX outer P w H s Q E) s
theorem FnOk.mono{P:vx}{w:v8}{K:QA}{mg:Str->Option kn}{x:v5}{a:R8}{j k:Nat}{f:k0}{v:y3}{u:LS}{z:Sp}(F:FnOk P w K mg x a j f v u z)(h:j<=k) :
  FnOk P w K mg x a k f v u z:=#[F.len,λA y s H args e b Q E g=>F.run A y s H args e b Q E (g.mono h)]
section
variable{X:Cx}{x:PB}{σ:St}{H:Hp}{s s':ku}
theorem Inv.env0(I:Inv X x σ H s):Env0 X.prog X.w X.K X.mg X.base X.A X.stack s H :=
 #[I.ok.frames,I.ok.mod,I.bs,QW I.ok.bsz I.sz,I.stack,I.stkFree,I.tb,I.hok,I.bare]
theorem Inv.after{Q:VK}{u:kn}(I:Inv X x σ H s)(h:CE X.stack X.prog X.w H s Q u s'):EP X x σ Q u s':=by let#[v,f,a,bare,un,k,r,q]:=h;let#[e,g,d,t,y]:=s';obtain rfl:y=s.os:=a;exact#[v,f,I.call (h':=e) (g':=g) (d':=d) (t':=t) (ch:=[]) un k bare (λb z=>Uz z (by simp)),r,q]
end
noncomputable def be(z:Sp)(h:LV)(E:XK)(t:TA):TE:=λx H Q=>t x H λy u=>z (y++h) u Q E
def oJ(K:QA)(y:y3)(x:LS)(ds:LW):Prop :=
 ∀(s:ku) (h:LW),K.In s.1->(h++ds).9=x.9->Lz s y #[h,[]] (x.zip (h++ds))
theorem oJ.all{K:QA}{y:y3}{x:LS}(h:∀us:LW,us.9=x.9->d9 y #[us,[]]=rk (x.zip us)):oJ K y x []:=λs us _ hl=>by rw[qE]at hl ⊢;exact .of_eq (h us hl)
def fN(z:R8)(X:Cx)(E:XK):Prop:=∀(h:PB) (y:St) (H:Hp) (s:ku) (e:kn) (x:ku),Inv X h y H s->z X.stack H s E e x->X.xe e x
section
variable{X:Cx}{b:R8}{k:Nat}{f C:k0}{a:y3}{z:LS}{v:Sp}{y:LV}{ds:LW}{E:XK}{x m:Str}{p pos apos:Pos}{e o:Expr}{es:List Expr}{ta:TE}{t:TA}
theorem N3{g:PB}{σ:St}{H:Hp}{s:ku}{Q:VK}{us:LW}{vs:LV}(F:FnOk X.prog X.w X.K X.mg X.base b k f a z v)(q:Room k X.A)(hb:oJ X.K a z ds)(Y:sA y ds)(n:fN b X E)
  (I:Inv X g σ H s) (r:sA vs us) (h:v (vs++y) H Q E):ko (k5 X.prog X.w) X.A (dt (.ref f) us) (EP X g σ Q) X.xe s:=by
 have j:sA (vs++y) (us++ds):=r.append Y;have hl:(us++ds).9=z.length:=by rw[<- j.9];exact F.len _ _ _ _ h
 refine wpAny_call (QCF (F.run X.A X.stack s H #[us,[]] (us++ds) (vs++y) Q E q I.env0 (hb s us I.kIn hl) j h) λr l i=>?_);cases r with
 |error e=>exact n g σ H s e l I i|ok fl =>
  cases fl with|ret u=>exact I.after i|next=>exact Qc i|brk=>exact Qc i|cont=>exact Qc i
theorem La(F:FnOk X.prog X.w X.K X.mg X.base b k f a z v)(Y:Room k X.A)(B:Gl X x)(Z:X.mg x=kv (.ref f))(hk:wR X.K (.ref f)=kd)(hb:oJ X.K a z ds)(J:sA y ds)(n:fN b X E)
  (L:PA X (e::es) t) (i:(x==("__debug__":Str))=false:=by decide) (G:v9 (e::es) X.env=(kb,Gz e X.env)::v9 es X.env:=by rfl) (g:(hQ pos (v9 es X.env)).any (·.1)=false:=by rfl) :
  PE X (.Call (.Name x p) (e::es) [] pos) (be v y E t):=by
 intro u s l H Q I h;refine qw (iQ I B Z ?_ i);refine PySem.W.callWith_K (h₀:=X.base) I.ok.mod.kin hk (OB (L pos u s l H _ I h) λN O #[M,P,j,r,q]=>#[j.kIn,?_]) G g;exact N3 F Y hb J n j r q
theorem M4(F:FnOk X.prog X.w X.K X.mg X.base b k f a z v)(j:Room k X.A)(n:Gl X x)(l:X.mg x=kv (.ref f))(hk:wR X.K (.ref f)=kd)(hb:oJ X.K a z ds)(q:sA y ds)(i:fN b X E)
  (u:(x==("__debug__":Str))=false:=by decide):PE X (.Call (.Name x p) [] [] pos) (be v y E Jo):=by
 intro g s r H Q I h;refine qw (iQ I n l ?_ u);exact PySem.W.callWith_K0 I.kIn hk (N3 (us:=[]) F j hb q i I .nil h)
end
section
variable{X:Cx}{c:R8}{k:Nat}{f C:k0}{b:y3}{v ks:LS}{u:Sp}{E:XK}{x m:Str}{p pos apos h:Pos}{e o:Expr}{es:List Expr}{y:List c0}{te ta:TE}{t z:TA}{w:Option Str}
variable{g:LW->LW->LW}{a:LV->LV->LV}
end
section
variable{l:R8}{P:vx}{w:v8}{mg:Str->Option kn}{base:v5}{j:LS}{g:Str}{d:gl}{f:k0}
structure FnScope(N P:LS)(sc:gl):Prop where
 kind:sc.kind=.function
 co:sc.isCoroutine=kb
 gen:sc.isGenerator=kb
 nd:N.Nodup
 pre:N.take P.9=P
 par:∀x∈P,sc.names.lookup x=kv .local∨sc.names.lookup x=kv .cell
 nofree:∀y∈sc.names,y.2≠.free
theorem EO{y:Str->Option Fz}{x:Str}:∀{binds:List (Str×kn)}{m:Str->Option kn},(∀v,(x,v)∉binds)->l0 y binds m x=m x
 |[],_,_=>rfl|(n,v)::r,m,h=>by
  unfold l0;rw[EO λw z=>h w (QD _ z)];split;have:x≠n:=by rintro rfl;exact h v QF
  simp[this];rfl
theorem yP{y:Str->Option Fz}{x:Str}:∀{binds:List (Str×kn)}{m:Str->Option kn},(∀v,(x,v)∉binds)->l4 y binds m x=m x
 |[],_,_=>rfl|(n,v)::r,m,h=>by
  unfold l4;rw[yP λw z=>h w (QD _ z)];split;rfl;have:x≠n:=by rintro rfl;exact h v QF
  simp[this]
theorem jP{y:Str->Option Fz}{x:Str}{v:kn}:∀{P:LS}{vs:LW}{i:Nat}{m:Str->Option kn},P.Nodup->P[i]?=kv x->vs[i]?=kv v->y x=kv .local ->
  l0 y (P.zip vs) m x=kv v
 |[],_,_,_,_,h,_,_=>by simp at h|_::_,[],_,_,_,_,h,_=>by simp at h|p::P,w::vs,0,m,nd,h1,h2,hk=>by simp at h1 h2;subst h1;subst h2;show l0 y ((p,w)::P.zip vs) m p=_;unfold l0;rw[EO λv hv=>(Qe.mp nd).1 (QA5 hv).1,t6 hk];simp|p::P,w::vs,i+1,m,nd,h1,h2,hk=>by show l0 y ((p,w)::P.zip vs) m x=_;unfold l0;exact jP (i:=i) (Qe.mp nd).2 (by simpa using h1) (by simpa using h2) hk
theorem zP{y:Str->Option Fz}{x:Str}{v:kn}:∀{P:LS}{vs:LW}{i:Nat}{m:Str->Option kn},P.Nodup->P[i]?=kv x->vs[i]?=kv v->y x≠kv .local ->
  l4 y (P.zip vs) m x=kv v
 |[],_,_,_,_,h,_,_=>by simp at h|_::_,[],_,_,_,_,h,_=>by simp at h|p::P,w::vs,0,m,nd,h1,h2,hk=>by simp at h1 h2;subst h1;subst h2;show l4 y ((p,w)::P.zip vs) m p=_;unfold l4;rw[yP λv hv=>(Qe.mp nd).1 (QA5 hv).1,t3 hk];simp|p::P,w::vs,i+1,m,nd,h1,h2,hk=>by show l4 y ((p,w)::P.zip vs) m x=_;unfold l4;exact zP (i:=i) (Qe.mp nd).2 (by simpa using h1) (by simpa using h2) hk
noncomputable def aD(N:LS)(vs:LV):St:=vs.map kv++QAX (N.9 - vs.9) kf
noncomputable def tW(l:R8)(P:vx)(w:v8)(K:QA)(mg:Str->Option kn)(base:v5)(N:LS)(g:Str)(d:gl)(f:k0)(x:kn)(A:Xz)(outer:List Env)(s:ku)(H:Hp)(E:XK):Cx where
 prog:=P
 w:=w
 K:=K
 mg:=mg
 base:=base
 A:=A.deeper (sh g d s.1.1.size f x)
 N:=N
 s₀:=s
 H₀:=H
 env:=sh g d s.1.1.size f x
 outer:=outer
 stack:=sh g d s.1.1.size f x::outer
 ex:=[]
 calm:=kd
 fn:=λ_=>kd
 pn:=[]
 xe:=λe y=>ko (k5 P w) (A.deeper (sh g d s.1.1.size f x)) (leaving (sh g d s.1.1.size f x) e) (λ_ h=>l outer H s E e h) (λz h=>l outer H s E z h) y
theorem DT{sc:gl}{n:Nat}{x:Str}(h:sc.names.lookup x=kv .cell):∃c,(pL n sc.names []).lookup x=kv c:=by have q:=QAx sc.names n [] (.inl h);exact Option.isSome_iff_exists.mp q
theorem BZ{K:QA}{N:LS}{F:kn}{A:Xz}{outer:List Env}{s G:ku}{H:Hp}{E:XK}{us:LW}{vs:LV}
  (S:FnScope N j d) (M:A.handled=kf) (o:Env0 P w K mg base A outer s H) (hl:vs.9=j.9) (r:sA vs us)
  (x:InCallC s s.1.1.size (l0 (sh g d s.1.1.size f F).kindOf (j.zip us) λ_=>kf) (pL (s.1.1.size+1) d.names []) (l4 (sh g d s.1.1.size f F).kindOf (j.zip us) λ_=>kf) G) :
  Inv (tW l P w K mg base N g d f F A outer s H E) [] (aD N vs) H G:=by
 have L:j.9<=N.length:=by have:=ak wI S.pre;rw[wn]at this;omega
 let#[C,Q,rfl,hk]:=x.done;have X:∀b:k0,b∉(tW l P w K mg base N g d f F A outer s H E).ex:=λb z=>Uz (show b∈([]:List k0) from z) (by simp);refine#[#[o.mod,S.kind,rfl,rfl,QT _,λy z c C m=>?_,λy Y=>?_,λy c _ h=>?_,λ_=>M,Around.frames_deeper o.frames,.inr #[rfl,rfl],λb z=>Uz z (X b),o.bs,o.bsz,λb _ _=>X b,λb z=>Uz z (X b),o.funs,o.frf,o.tb],
  rfl,o.bare,Un.kept hk,#[_,x.toInCall.ns,λi y v C m R=>?_],λy c h=>#[_,x.cell y c h],o.hok.fresh (QT _),λy c h=>?_,λp W=>Uz (show p∈([]:PB) from W) (by simp),o.hok.kept hk,?_]
 exact name_of_addr x.apart (qM C) (qM m);have Y:d.names.lookup y=kv .cell∨d.names.lookup y=kv .free:=Y;rcases Y with Y|Y;exact DT Y;exact Uz rfl (S.nofree _ (qM Y));exact QAP (x.above y c (qM h));have B:i<vs.length:=by unfold aD at m;by_cases B:i<vs.9;exact B;rw[qH (by simpa using B)]at m;rw[wk]at m;split at m<;>cases m
 have O:vs[i]?=kv v:=by
  unfold aD at m;rw[qR (by simpa using B),Qd]at m;cases e:vs[i]? with|none=>rw[e]at m;cases m|some a=>rw[e]at m;cases m;rfl
 let#[u,I,J]:=r.get O;have W:j[i]?=kv y:=by rw[<- S.pre,List.getElem?_take_of_lt ()];exact C
 have Z:j.Nodup:=by rw[<- S.pre];exact S.nd.sublist (QBz _ _)
 refine#[u,J,?_];rcases S.par y (qQ W) with k|k;exact .inl #[k,jP Z W I k];let#[c,e]:=DT (n:=s.1.1.size+1) k;refine .inr #[.inl k,c,e,?_];have q:=x.cell y c e;rw[zP Z W I (by show d.names.lookup y≠_;rw[k];decide)]at q;exact q;exact o.hok.fresh (QAP (x.above y c (qM h)));unfold aD;show _=N.9;rw[QJ,QE,qr];omega
theorem Jf{K:QA}{k:Nat}{name:Str}{z:P0}{body:List z4}{dV kV B pm h ct oc:kn}{an od:Option k0}
  {L:Array (Option kn)}{N:LS}{C:Sp}(lk:K.lookup f=kv #[oc,od,.func (qq name g z body d dV kV B pm an h ct),L]) (R:Wm K h g=kd) (S:FnScope N j d)
  (len:∀vs H Q E,C vs H Q E->vs.9=j.9)
  (p:∀(A:Xz) (outer:List Env) (s:ku) (H:Hp) (vs:LV) (Q:VK) (E:XK),Room k (A.deeper (sh g d s.1.1.size f h))->C vs H Q E ->
   ∃t,SW (tW l P w K mg base N g d f h A outer s H E) body t/\t { nx:=λ_ i=>Q .non i,rt:=Q } (aD N vs) H) :
  FnOk P w K mg base l (k+1) f (qq name g z body d dV kV B pm an h ct) j C:=by
 refine#[len,λA outer s H args us vs Q E O Z hb r Y=>?_];have hl:=len _ _ _ _ Y;have KX:K.In s.heap:=Z.mod.kin.keeps λb o e=>(Z.bs b o e).1;have M:s.1.NoLimit:=Z.mod.nolimit.keeps λb o e=>(Z.bs b o e).1;have m:∀y∈j.zip us,d.names.lookup y.1=kv .local∨(d.names.lookup y.1=kv .cell/\((pL (s.1.1.size+1) d.names []).lookup y.1).isSome=kd):=λ#[n,v] hy=>by rcases S.par n (QA5 hy).1 with q|q;exact .inl q;exact .inr #[q,QAx _ _ _ (.inl q)]
 refine codeAny_call_function O.depth (KX _ _ lk) rfl S.co S.gen rfl (PySem.W.codeRec_of KX R) (hb _ _ _ _ ?_);refine wpAny_newFunctionEnv_cells S.kind m λenv he s1 x=>?_;subst he;refine#[M.keeps x.toInCall.keep,codeAny_func ?_];let#[t,ht,hq]:=p A outer s H vs Q E (O.deeper _) Y;have I:Inv (tW l P w K mg base N g d f h A outer s H E) [] (aD N vs) H s1:=BZ S O.hd Z hl r x;refine qu (ht [] s1 (aD N vs) H _ I hq) (λfl F X=>?_) λe F X=>X;have fin:∀{a:St}{i:Hp}{v:V}{u:kn},Inv (tW l P w K mg base N g d f h A outer s H E) [] a i F->VA v u->Q v i->CE outer P w H s Q u F :=
  λ{a i v u} J G q=>#[v,i,J.os,J.bare,J.base,J.hok,G,q]
 cases fl with|ret u=>let#[v,a,i,J,G,q]:=X;exact fin J G q|next=>let#[a,i,J,q]:=X;exact fin (v:=V.non) (u:=Kz) J rfl q|brk=>let#[_,_,_,q]:=X;exact Qc q|cont=>let#[_,_,_,q]:=X;exact Qc q
end
section
variable{X:Cx}{x:Str}{p pos:Pos}{e:Expr}{es:List Expr}{t:TA}{y T:String}{r:LV->Hp->VK->Prop}
noncomputable def Bx(r:LV->Hp->VK->Prop)(t:TA):TE:=λh H Q=>t h H λz u=>r z u Q
theorem bM(hc:gC X (.builtin y) r)(l:Gl X x)(j:X.mg x=kf)(hv:y2 x=kv (.builtin y))(n:PA X (e::es) t)(i:x≠"__name__":=by decide)(v:(x==("__debug__":Str))=false:=by decide)
  (m:v9 (e::es) X.env=(kb,Gz e X.env)::v9 es X.env:=by rfl) (u:(hQ pos (v9 es X.env)).any (·.1)=false:=by rfl):PE X (.Call (.Name x p) (e::es) [] pos) (Bx r t):=by
 intro z s w H Q I h;refine qw (xF I l j hv ?_ i v);exact PyProof.Rows.callWith_builtin1 (OB (n pos z s w H _ I h) λa b #[k,q,o,f,g]=>hc z b w q k a Q o f g) m u
theorem AY(hc:gC X (.type T) r)(l:Gl X x)(j:X.mg x=kf)(hv:y2 x=kv (.type T))(n:PA X (e::es) t)(i:x≠"__name__":=by decide)(v:(x==("__debug__":Str))=false:=by decide)
  (m:v9 (e::es) X.env=(kb,Gz e X.env)::v9 es X.env:=by rfl) (u:(hQ pos (v9 es X.env)).any (·.1)=false:=by rfl):PE X (.Call (.Name x p) (e::es) [] pos) (Bx r t):=by
 intro z s w H Q I h;refine qw (xF I l j hv ?_ i v);exact qZ (OB (n pos z s w H _ I h) λa b #[k,q,o,f,g]=>hc z b w q k a Q o f g) m u
end
end L2
namespace HT
open PySem PyProof.Rows
theorem U7(A:Xz)(s:ku)(a:Int)(t:Tok)(c:Int)(u:Tok):∃e,qi A s (.int a t) (.int c u) e/\(e=kd↔a=c) :=
 #[(a==c),QBo a t c u,by simp]
section
open PySem.SeqAt
open PySem.AutoSeq1 (wpAny_loadPart')
open PySem.MeetsSeq PySem.MeetsSeq2 PySem.MeetsSeq3
end
section
variable{prog:vx}{w:v8}{A:Xz}{E:cC}{s:ku}
section
variable{sl:k0}{a u:kn}{y z:Option Int}
noncomputable def sIx(n d:Nat):Option Int->Nat
 |none=>d|some v=>if v<0 then(v+(n:Int)).toNat else min v.toNat n
theorem sIx_none(n d:Nat):sIx n d kf=d:=rfl
theorem sIx_nat(n d k:Nat):sIx n d (kv (k:Int))=min k n:=by show(if(k:Int)<0 then((k:Int)+(n:Int)).toNat else min (k:Int).toNat n)=min k n;rw[t3 (),qN]
theorem ai(n d:Nat)(h:d<=n)(o:Option Int):sIx n d o<=n:=by
 cases o with|none=>exact h|some v=>show(if v<0 then(v+(n:Int)).toNat else min v.toNat n)<=n;by_cases hv:v<0;rw[t6 hv];omega;rw[t3 hv];exact Nat.min_le_right _ _
theorem nY(v:Int)(n d:Nat):(if v<0 then max (v+(n:Int)) 0 else min v (n:Int))=((sIx n d (kv v):Nat):Int):=by show(if v<0 then max (v+(n:Int)) 0 else min v (n:Int))=(((if v<0 then(v+(n:Int)).toNat else min v.toNat n):Nat):Int);by_cases hv:v<0;simp only[t6 hv];omega;simp only[t3 hv];omega
theorem OW(y z:Option Int)(n:Nat):WJ y z 1 (n:Int)=(((sIx n 0 y:Nat):Int),((sIx n n z:Nat):Int)):=by
 have h:¬ ((1:Int)<0):=()
 unfold WJ;simp only[h,if_false];refine QCU ?_ ?_;cases y with|none=>rfl|some v=>exact nY v n 0
 cases z with|none=>rfl|some v=>exact nY v n n
theorem IU(i j:Nat):wT (i:Int) (j:Int) 1=j - i:=by
 unfold wT;have h:(1:Int) > 0:=()
 simp only[h,if_true,Int.ediv_one];split<;>omega
theorem HL{v:kn}{o:Option Int}{Q:Option Int->ku->Prop}(p:ef v o)(h:Q o s):ko (k5 prog w) A (Builtin.Slice.slicePartIndex v) Q E s:=by
 cases p with|none=>exact th h|int i t=>exact slicePart_int h
theorem iJ{n:Nat}{Q:Int×Int×Nat->ku->Prop}(f:s.1.IsSliceOf sl a u .none)(e:ef a y)(b:ef u z)
  (h:Q (((sIx n 0 y:Nat):Int),1,sIx n n z - sIx n 0 y) s):ko (k5 prog w) A (QAN (.ref sl) (rk (n:Int))) Q E s:=by
 let#[i,v,g,k]:=id f;unfold QAN Builtin.Slice.sliceFields;refine QC (QC (wU v k (x:=a) rfl (QC (wU v k (x:=u) rfl (QC (wU v k (x:=.none) rfl (QK ?_)))))));refine QC (th ?_);show ko _ _ (if((1:Int)==0)=kd then _ else _) _ _ s;rw[t3 (by decide)];refine QC (HL e (QC (HL b (QC (QK ?_)))));show ko _ _ (match WJ y z 1 (n:Int) with | (y,z)=>rk (y,(1:Int),wT y z 1)) _ _ s;rw[OW y z n];show ko _ _ (rk (((sIx n 0 y:Nat):Int),(1:Int),wT ((sIx n 0 y:Nat):Int) ((sIx n n z:Nat):Int) 1)) _ _ s;rw[IU];exact QK h
theorem U4(xs:Array kn)(i k:Nat):((Qt k).filterMap λ(m:Nat)=>xs[((i:Int)+(m:Int) * 1).toNat]?).toArray=((xs.toList.drop i).take k).toArray:=by
 have e:(λ(m:Nat)=>xs[((i:Int)+(m:Int) * 1).toNat]?)=λm=>xs[i+m]?:=by
  funext m;have:((i:Int)+(m:Int) * 1).toNat=i+m:=()
  rw[this]
 rw[e];have:=pick_run xs i k;rw[List.filterMap_map]at this;have h:((λx=>xs[x]?)∘λx=>i+x)=λm=>xs[i+m]?:=rfl;rw[h]at this;rw[this]
theorem getItem_tuple_cut{t:k0}{x:Array kn}{Q:cC}(k:tj s.1 t x)(i:s.1.IsSliceOf sl a u .none)(l:ef a y)(j:ef u z)
  (o:¬ (sIx x.size 0 y=0/\sIx x.size x.size z=x.size))
  (h:Q (.ref s.1.1.size) { s with heap:=s.1.push { cls:=.type "tuple",data:=.seq ((x.toList.drop (sIx x.size 0 y)).take (sIx x.size x.size z - sIx x.size 0 y)).toArray } })
  (hsz:x.size<=kt):ko (k5 prog w) A (lb (.ref t) (.ref sl)) Q E s:=by
 have v:sizeOk (.seq ((x.toList.drop (sIx x.size 0 y)).take (sIx x.size x.size z - sIx x.size 0 y)).toArray):=by show((x.toList.drop (sIx x.size 0 y)).take (sIx x.size x.size z - sIx x.size 0 y)).toArray.size<=kt;rw[QN,wn,Wt,Qn];omega
 have Y:sIx x.size x.size z<=x.size:=ai _ _ (QT _) z;let#[n,b,f,p]:=id i;have g:s.TypeIs (.ref sl) "slice":=#[n,b,f]
 unfold lb
 try with_reducible refine ql ?_
 first|refine QC (QK ?_)|skip
 refine QC (wpAny_sequenceKey k.typeIs (by decide) ?_);refine QC (qO (name:=QS "__getitem__") k.typeIs wZ
  (qK wZ k.typeIs entry_tuple_getitem ?_ (args_tuple_getitem _ _)))
 show ko _ _ (QAL (.ref t) >>= _) _ _ s;refine QC (tupleItemsOf_ k ?_);refine QC (QCG g ?_);rw[t6 (by decide)];refine QC (iJ i l j ?_);have e:¬ ((((sIx x.size 0 y:Nat):Int)==0&&(1:Int)==1&&(sIx x.size x.size z - sIx x.size 0 y)==x.size)=kd):=by intro q;rw[Qb,Qb]at q;have X:((sIx x.size 0 y:Nat):Int)=0:=qS q.1.1;have r:sIx x.size x.size z - sIx x.size 0 y=x.size:=qS q.2;exact o #[(),()]
 show ko _ _ (if(((sIx x.size 0 y:Nat):Int)==0&&(1:Int)==1&&(sIx x.size x.size z - sIx x.size 0 y)==x.size)=kd then _ else _) _ _ s;rw[t3 e,U4];first
  |exact QC (m:=wa _) (Qz (QK #[_,rfl,QK h]) v)
  |exact QC (m:=wa _) (Qz (QC (QK (QK #[_,rfl,QK h]))) v)
  |exact QC (QC (m:=wa _) (Qz (QK (QK #[_,rfl,QK h])) v))
  |exact QC (QC (m:=wa _) (Qz (QK #[_,rfl,QK h]) v))
end
end
end HT
namespace L2
open PySem PySem.Spec PyProof.Rows
noncomputable abbrev TO:=St->Hp->(Option Int->Hp->Prop)->Prop
def PO(X:Cx)(e:Option Expr)(t:TO):Prop :=
 ∀(h:PB) (s:ku) (x:St) (H:Hp) (Q:Option Int->Hp->Prop),Inv X h x H s->t x H Q ->
  ko (k5 X.prog X.w) X.A (evalPart e X.env) (λu z=>∃o y,Inv X h x y z/\ef u o/\Q o y) X.xe s
def B9:TO:=λ_ H Q=>Q kf H
noncomputable def so(t:TE):TO:=λh H Q=>t h H λx y=>∃i,x=.int i/\Q (kv i) y
theorem VH{ns:LJ}:∀{us:LW},sA (ns.map V.int) us->ri us ns:=by
 induction ns with
 |nil=>intro us r;rw[WR]at r;cases r;exact .nil|cons n ns y =>
  intro us r;rw[QU]at r;cases r with|cons x h=>let#[t,e]:=x;subst e;exact .cons n t (y h)
section
variable{X:Cx}{e:Expr}{te:TE}{y z:Option Expr}{k c:TO}{pos p2:Pos}
theorem ma:PO X kf B9:=by intro x s u H Q I h;rw[nL];exact QK #[kf,H,I,.none,h]
theorem ga(h:PE X e te):PO X (kv e) (so te):=by intro v s w H Q I f;rw[evalPart_some];refine OB (h v s w H _ I f) λu l #[x,j,g,a,b]=>?_;let#[i,rfl,q]:=b;let#[t,rfl]:=a;exact#[kv i,j,g,.int i t,q]
def Ug(X:Cx)(r:V->Option Int->Option Int->Hp->VK->Prop):Prop :=
 ∀(h:PB) (s:ku) (u:St) (H:Hp) (x:V) (v b a:kn) (y z:Option Int) (f:k0) (Q:VK),Inv X h u H s->VA x v->s.1.IsSliceOf f b a .none->ef b y->ef a z->r x y z H Q ->
  ∃T id,typeLookup (.type T) "__getitem__"=rk (kv (.builtin id))/\s.TypeIs v T/\ko (k5 X.prog X.w) X.A (lb v (.ref f)) (EP X h u Q) X.xe s
theorem Ug.or{r i:V->Option Int->Option Int->Hp->VK->Prop}(h:Ug X r)(h':Ug X i):Ug X (λx y z H Q=>r x y z H Q∨i x y z H Q):=by intro u s w H x v b a y z f Q I g m l j q;rcases q with q|q;exact h u s w H x v b a y z f Q I g m l j q;exact h' u s w H x v b a y z f Q I g m l j q
noncomputable def yz(r:V->Option Int->Option Int->Hp->VK->Prop)(te:TE)(k c:TO):TE:=λh H Q=>te h H λx a=>k h a λl w=>c h w λu v=>r x l u v Q
theorem C4{r:V->Option Int->Option Int->Hp->VK->Prop}(F:Ug X r)(J:PE X e te)(hl:PO X y k)(C:PO X z c):PE X (.Subscript e (.Slice y z kf p2) pos) (yz r te k c):=by intro a s g H Q I h;refine QB0 (OB (J a s g H _ I h) λv o #[x,S,P,p,W]=>?_);refine wpAny_Slice (OB (hl a o g S _ P W) λj n #[l,R,O,B,Z]=>OB (C a n g R _ O Z) λi f #[u,m,N,K,Y]=>?_);rw[nL];refine QK ?_;have M:Inv X a g m { f with heap:=f.1.push { cls:=.type "slice",data:=.fields (qG [j,i,.none]) } }:=N.kept (t':=f.toks) λb ob q=>QH _ q;let#[T,id,L,E,G]:=F a { f with heap:=f.1.push { cls:=.type "slice",data:=.fields (qG [j,i,.none]) } } g m x v j i l u f.1.1.size Q M p (Heap.IsSliceOf.new ..) B K Y;show ko (k5 X.prog X.w) X.A (sn e (.Slice y z kf p2) v (.ref f.1.1.size)) (EP X a g Q) X.xe { f with heap:=f.1.push { cls:=.type "slice",data:=.fields (qG [j,i,.none]) } };exact tail_any (ops:=[.ref f.1.1.size,v]) E L G (by with_unfolding_all rfl)
noncomputable def ON(xs:LV)(y z:Option Int):LV:=(xs.drop (HT.sIx xs.9 0 y)).take (HT.sIx xs.9 xs.9 z - HT.sIx xs.9 0 y)
theorem UK(xs:LV)(y z:Option Int):(ON xs y z).9<=xs.length:=by unfold ON;rw[wn,Wt];omega
def Ro(K:QA):V->Option Int->Option Int->Hp->VK->Prop:=λx y z H Q=>∃a h,x=.ref a/\xD K H a h /\
 ¬ (HT.sIx h.9 0 y=0/\HT.sIx h.9 h.9 z=h.9)/\∀p,H p=kf->Q (.ref p) (pA H p (.tup (ON h y z)))
theorem vi:Ug X (Ro X.K):=by
 intro g s W H x v B A y z C Q I l Z n m h;let#[a,w,rfl,p,Y,q]:=h;cases l;let#[f,r,j,i]:=I.tuple p;have u:f.toArray.size=w.length:=by rw[QN];exact r.length.symm
 refine#["tuple",_,wZ.lookup,j.typeIs,?_];refine HT.getItem_tuple_cut j Z n m (by rw[u];exact Y) ?_ (by rw[u];exact i);rw[u];refine#[.ref s.1.1.size,_,I.laid (t':=s.toks) (o:=.tup (ON w y z)) (λb ob q=>QH _ q) (QT _) ?_,rfl,q _ (I.hok.fresh (QT _))];exact#[QW (UK w y z) i,_,(r.drop (HT.sIx w.9 0 y)).take (HT.sIx w.9 w.9 z - HT.sIx w.9 0 y),IsTup.new _ _]
end
noncomputable def JU(n:Nat)(i:Int):Option Nat:=if 0<=i then(if i<n then kv i.toNat else kf) else if -(n:Int)<=i then kv (i+n).toNat else kf
def fE{α:Type}(xs:List α)(i:Int):Option α:=(JU xs.9 i).bind λj=>xs[j]?
theorem KQ{n:Nat}{i:Int}{j:Nat}(h:JU n i=kv j):seqIndex? i n=kv j/\j<n/\-(n:Int)<=i/\i<n:=by unfold JU at h;by_cases y:0<=i;rw[t6 y]at h;by_cases x:i<n;rw[t6 x]at h;have e:i.toNat=j:=Qi h;exact#[by rw[QAl y x,e],(),(),x];rw[t3 x]at h;cases h;rw[t3 y]at h;by_cases x:-(n:Int)<=i;rw[t6 x]at h;have e:(i+n).toNat=j:=Qi h;exact#[by rw[QCH () x,e],(),x,()];rw[t3 x]at h;cases h
theorem vR{α:Type}{xs:List α}{i:Int}{v:α}(h:fE xs i=kv v):∃j,seqIndex? i xs.9=kv j/\xs[j]?=kv v/\j<xs.9/\-(xs.9:Int)<=i/\i<xs.length:=by
 unfold fE at h;cases e:JU xs.9 i with|none=>rw[e]at h;cases h|some j=>rw[e]at h;let#[u,z,y,x]:=KQ e;exact#[j,u,h,z,y,x]
theorem MC{α:Type}{xs:List α}{j:Nat}{v:α}(h:xs[j]?=kv v):fE xs (j:Int)=kv v:=by
 have x:j<xs.length:=(Qf.mp h).1;have e:JU xs.9 (j:Int)=kv j:=by unfold JU;rw[t6 (),t6 ()];simp
 unfold fE;rw[e];exact h
def eY(b:Expr):Prop:=∀o i,subscripted b kb o i=operate [o,i] (lb o i)
def L8(X:Cx)(r:R2):Prop :=
 ∀(k h:Expr) (z:PB) (s:ku) (a:St) (H:Hp) (x y:V) (v u:kn) (Q:VK),Inv X z a H s->VA x v->VA y u->r x y H Q ->
  subscripted h kb v u=operate [v,u] (lb v u)->ko (k5 X.prog X.w) X.A (sn k h v u) (EP X z a Q) X.xe s
def x9(X:Cx)(id:String)(r:V->LV->Hp->VK->Prop):Prop :=
 ∀(h:PB) (s:ku) (y:St) (H:Hp) (x:V) (z:LV) (v:kn) (u:LW) (Q:VK),Inv X h y H s->VA x v->sA z u->r x z H Q ->
  ko (k5 X.prog X.w) X.A (dt (.builtin id) (v::u)) (EP X h y Q) X.xe s
section
variable{X:Cx}{a b:Expr}{ta Y:TE}{pos:Pos}
section
variable{d:PB}{s:ku}{x:V}{u v:kn}
theorem L8.or{r g:R2}(h:L8 X r)(h':L8 X g):L8 X (λx y H Q=>r x y H Q∨g x y H Q):=by intro z w d s k H x y v u Q I f e q i;rcases q with q|q;exact h z w d s k H x y v u Q I f e q i;exact h' z w d s k H x y v u Q I f e q i
theorem x9.or{g:String}{r e:V->LV->Hp->VK->Prop}(h:x9 X g r)(h':x9 X g e):x9 X g (λx xs H Q=>r x xs H Q∨e x xs H Q):=by intro d s y H x xs v z Q I w k q;rcases q with q|q;exact h d s y H x xs v z Q I w k q;exact h' d s y H x xs v z Q I w k q
theorem Kp{r:R2}(g:L8 X r)(i:PE X a ta)(hb:PE X b Y)(f:eY b):PE X (.Subscript a b pos) (ao r ta Y):=by intro d s z H Q I h;exact QB0 (binT i hb I h λv u w x y l j e k q=>g a b d w z l x y v u Q j e k q (f _ _))
def zp(K:QA):R2:=λx y H Q=>∃p h i v,x=.ref p/\y=.int i/\jC K H p h/\fE h i=kv v/\Q v H
def jp(K:QA):R2:=λx y H Q=>∃p h i v,x=.ref p/\y=.int i/\xD K H p h/\fE h i=kv v/\Q v H
def yp:R2:=λx y H Q=>∃z i c,x=.str z/\y=.int i/\z.9<=kt/\fE z.cps.toList i=kv c/\Q (.str #[(qG [c])]) H
theorem bc:L8 X (zp X.K):=by
 intro e f d s o H x y v u Q I E C h Z;let#[p,N,i,z,rfl,rfl,F,G,q]:=h;cases E;let#[t,rfl]:=C;let#[m,r,l,O]:=I.list F;let#[j,k,M,R,L,J]:=vR G;let#[w,A,g]:=r.get M;have hl:=r.9;have P:=KH;have fin:EP X d o Q w s:=#[z,H,I,g,q]
 by_cases W:0<=i;have n:i.toNat=j:=by rw[QAl W J]at k;exact Qi k
 exact item_listR l.isList W () (by rw[n];simpa using A) fin Z;have n:(i+(m.toArray.size:Int)).toNat=j:=by rw[QCH () L]at k;rw[QN,<- hl];exact Qi k
 exact qg (x:=w) l.isList.typeIs QB1.lookup
  (wpAny_getItem_list_neg (Q:=λr B=>r=w/\EP X d o Q r B) l.isList () (by rw[QN]<;>omega) () (by rw[n];simpa using A) #[rfl,fin]) Z
theorem Kk:L8 X (jp X.K):=by
 intro k e d s g H x y v u Q I o n h W;let#[p,G,i,z,rfl,rfl,A,B,q]:=h;cases o;let#[t,rfl]:=n;let#[Z,r,l,J]:=I.tuple A;let#[j,E,C,O,N,M]:=vR B;let#[w,F,f]:=r.get C;have hl:=r.9;have L:=KH;have fin:EP X d g Q w s:=#[z,H,I,f,q]
 exact qg (x:=w) l.typeIs QAQ.lookup
  (QBp (j:=j) (Q:=λr m=>r=w/\EP X d g Q r m) l () () (by rw[QN,<- hl];exact E) (by simpa using F) #[rfl,fin]) W
theorem Vk:L8 X yp:=by
 intro w k d s W H x y v u Q I g f h l;let#[z,i,c,rfl,rfl,A,m,q]:=h;let#[t,rfl]:=g;let#[K,rfl]:=f;let#[j,e,p,C,o,n]:=vR m;have hl:z.cps.toList.9=z.length:=by simp[Str.length]
 rw[hl]at e o n;have B:=KH;exact tail_any (QCe s z t) slot_str_getitem.lookup (getItem_str (c:=c) (by have Z:decide (i < -(2 ^ 63:Int))=false:=dF ();have r:decide (i ≥ 2 ^ 63)=false:=dF ();rw[Z,r,QBf]) (by rw[e];simpa using p) #[.str #[(qG [c])],H,I.tok _,#[_,rfl],q]) l
def cz(K:QA):R2:=λx y H Q=>zp K x y H Q∨jp K x y H Q∨yp x y H Q
theorem Xk:L8 X (cz X.K):=bc.or (Kk.or Vk)
theorem MV(its:LW)(n j:Nat)(u:kn):Q4 (·.setIfInBounds j u) { cls:=.type "list",data:=.seq its.toArray n }={ cls:=.type "list",data:=.seq (its.set j u).toArray n }:=by simp[Q4]
theorem Inv.lst{d:PB}{σ:St}{H:Hp}{s:ku}{p:k0}{xs:LV}(I:Inv X d σ H s)(h:H p=kv (.lst xs)) :
  ∃(its:LW) (n:Nat),sA xs its/\s.1.get? p=kv { cls:=.type "list",data:=.seq its.toArray n }/\xs.9<=sizeLine:=by
 let#[z,its,n,r,e]:=I.hok p _ h;exact#[its,n,r,e,z]
theorem Inv.lstUpd{σ:St}{H:Hp}{p:k0}{xs y:LV}{its its':LW}{n z:Nat}{f:Obj->Obj}(I:Inv X d σ H s)(h:H p=kv (.lst xs))
  (g:s.1.get? p=kv { cls:=.type "list",data:=.seq its.toArray n }) (w:f { cls:=.type "list",data:=.seq its.toArray n }={ cls:=.type "list",data:=.seq its'.toArray z }) (r:sA y its') (k:y.9<=kt) (t:Nat) :
  Inv X d σ (pA H p (.lst y)) { s with heap:=s.1.update p f,toks:=t }:=by
 have e:(s.1.update p f).get? p=kv { cls:=.type "list",data:=.seq its'.toArray z }:=by rw[wz f g (by rw[w]<;>rfl),w]
 refine I.write (x:=p) (e:=p) (by rw[h];trivial) (.inl rfl) (λb u hb q=>(QAy _ _ (Qm hb)).trans q) #[_,e] ?_;exact#[k,its',z,r,e]
def To:V->V->V->Hp->(Hp->Prop)->Prop:=λo i v H Q=>∃p h k j,o=.ref p/\i=.int k/\H p=kv (.lst h)/\JU h.9 k=kv j/\Q (pA H p (.lst (h.set j v)))
theorem V3:Gd X To:=by
 intro d s Z H o i v G J u Q I B C A h;let#[p,K,k,j,rfl,rfl,e,F,q]:=h;cases B;let#[t,rfl]:=C;let#[y,n,r,w,E]:=I.lst e;let#[z,M,g,f]:=KQ F;have hl:=r.9;have L:=KH;have m:Inv X d Z (pA H p (.lst (K.set j v))) { s with heap:=s.1.update p (Q4 (·.setIfInBounds j u)) } :=
  I.lstUpd e w (MV y n j u) (r.set A j) (by rw[qa];exact E) s.toks
 by_cases l:0<=k;have hk:k.toNat=j:=by rw[QAl l f]at z;exact Qi z
 exact PySem.W.ki_setAt w l () (by rw[QN,<- hl];exact f) (by rw[hk];exact#[_,m,q]);have hk:(k+(y.toArray.size:Int)).toNat=j:=by rw[QCH () g]at z;rw[QN,<- hl];exact Qi z
 exact PySem.W.ki_setBack w () (by rw[QN,<- hl];exact g) () (by rw[hk];exact#[_,m,q])
theorem BP(y z:Option Int)(n:Nat):(hE y z kf n).1=((HT.sIx n 0 y:Nat):Int)/\(hE y z kf n).2.1=((HT.sIx n n z:Nat):Int)/\(hE y z kf n).2.2=1:=by
 refine#[?_,?_,rfl];cases y with|none=>simp[hE,HT.sIx]|some i=>simp only[hE,HT.sIx,QCR,show(1:Int) > 0 by decide,if_true];by_cases h:i<0;simp only[h,if_true]<;>omega;simp only[h,if_false]<;>omega
 cases z with|none=>simp[hE,HT.sIx]|some i=>simp only[hE,HT.sIx,QCR,show(1:Int) > 0 by decide,if_true];by_cases h:i<0;simp only[h,if_true]<;>omega;simp only[h,if_false]<;>omega
theorem VN(its:LW)(h y:Option Int):slicePick its.toArray h y kf=((its.drop (HT.sIx its.9 0 h)).take (HT.sIx its.9 its.9 y - HT.sIx its.9 0 h)).toArray:=by let#[k,w,z]:=BP h y its.toArray.size;unfold slicePick;rw[k,w,z];simp only[sliceRange_one,pick_run,QN]<;>rfl
def So(K:QA):V->Option Int->Option Int->Hp->VK->Prop:=λx y z H Q=>∃a h,x=.ref a/\jC K H a h/\∀p,H p=kf->Q (.ref p) (pA H p (.lst (ON h y z)))
theorem O9:Ug X (So X.K):=by intro d s p H x v W Z w k A Q I f n i g h;let#[a,y,rfl,m,q]:=h;cases f;let#[j,r,e,l]:=I.list m;have z:=r.9;refine#["list",_,QB1.lookup,e.isList.typeIs,?_];refine wpAny_getItem_list_slice e.isList n i g .none (by simp) ?_ (by rw[QN]<;>omega);rw[VN,<- z];refine#[.ref s.1.1.size,_,I.laid (t':=s.toks) (o:=.lst (ON y w k)) (λb ob q=>QH _ q) (QT _) ?_,rfl,q _ (I.hok.fresh (QT _))];exact#[QW (UK y w k) l,_,0,(r.drop (HT.sIx y.9 0 w)).take (HT.sIx y.9 y.9 k - HT.sIx y.9 0 w),QO _ rfl]
noncomputable def uG:V->Bool
 | .non=>kd|.bl _=>kd|.int _=>kd|.str _=>kd|_=>kb
noncomputable def Nc:V->V->Bool
 | .non,.non=>kd|.bl a,.bl b=>a==b|.bl a,.int b=>(if a then 1 else 0)==b|.int a,.bl b=>a==(if b then 1 else 0)|.int a,.int b=>a==b|.str a,.str b=>a==b|_,_=>kb
theorem Sk{A:Xz}{y:V}(w:VA y u)(h:VA x v)(k:uG y=kd)(fx:uG x=kd):qi A s u v (Nc y x):=by
 cases y with
 |non =>
  cases w;cases x with|non=>cases h;exact qi.same _|bl b=>cases h;exact qi.none_bool b|int b=>let#[t,rfl]:=h;exact qi.none_int b t|str b=>let#[t,rfl]:=h;exact qi.none_str b t|_=>exact Uz (show kb=kd from fx) QG
 |bl a =>
  cases w;cases x with|non=>cases h;exact qi.bool_none a|bl b=>cases h;exact qi.bool_bool a b|int b=>let#[t,rfl]:=h;exact qi.bool_int a b t|str b=>let#[t,rfl]:=h;exact qi.bool_str a b t|_=>exact Uz (show kb=kd from fx) QG
 |int a =>
  let#[z,rfl]:=w;cases x with|non=>cases h;exact qi.int_none a z|bl b=>cases h;exact qi.int_bool a z b|int b=>let#[t,rfl]:=h;exact QBo a z b t|str b=>let#[t,rfl]:=h;exact QBh a z b t|_=>exact Uz (show kb=kd from fx) QG
 |str a =>
  let#[z,rfl]:=w;cases x with|non=>cases h;exact qi.str_none a z|bl b=>cases h;exact qi.str_bool a z b|int b=>let#[t,rfl]:=h;exact QBi a z b t|str b=>let#[t,rfl]:=h;exact qi.str_str a z b t|_=>exact Uz (show kb=kd from fx) QG
 |_=>exact Uz (show kb=kd from k) QG
def rW(x:V)(u:kn):Bool:=match u with
 | .none=>Nc .non x|.bool b=>Nc (.bl b) x|.int i _=>Nc (.int i) x|.str z _=>Nc (.str z) x|_=>kb
theorem X7{y:V}(r:VA y u)(f:uG y=kd):rW x u=Nc y x:=by
 cases y with|non=>cases r;rfl|bl b=>cases r;rfl|int i=>let#[t,rfl]:=r;rfl|str z=>let#[t,rfl]:=r;rfl|_=>exact Uz (show kb=kd from f) QG
theorem vJ{x:V}:∀{xs:LV}{us:LW},sA xs us->xs.all uG=kd->us.any (rW x)=xs.any λy=>Nc y x
 |_,_,.nil,_=>rfl|y::xs,u::us,.cons r t,f=>by rw[qb,Qb]at f;rw[WC,WC,X7 r f.1,vJ t f.2]
theorem IF{A:Xz}{s:ku}{x:V}{v:kn}(z:VA x v)(fx:uG x=kd):∀{xs:LV}{us:LW},sA xs us->xs.all uG=kd->∀u∈us,qi A s u v (rW x u)
 |_,_,.nil,_=>λu h=>by cases h|y::xs,u::us,.cons r t,f=>λw h=>by rw[qb,Qb]at f;rcases QM.mp h with rfl|h;rw[X7 r f.1];exact Sk r z f.1 fx;exact IF z fx t f.2 w h
def inV(x:V)(xs:LV):Bool:=xs.any λy=>Nc y x
def Su(K:QA)(neg:Bool):R2:=λx y H Q=>∃p h,y=.ref p/\(jC K H p h∨xD K H p h)/\uG x=kd/\h.all uG=kd/\Q (.bl (if neg then !inV x h else inV x h)) H
theorem IY:SE X (vu .In) (Su X.K kb):=by intro d s l H x y v u Q I g i h;let#[p,m,rfl,k,fx,fs,q]:=h;cases i;rcases k with k|k;let#[z,r,e,j]:=I.list k;refine SeqAt.in_listAt (rW x) e.isList (λw f=>IF g fx r fs w (by simpa using f)) #[.bl _,H,I,rfl,?_];rw[show z.toArray.any (rW x)=z.any (rW x) by simp,vJ r fs];exact q;let#[z,r,e,j]:=I.tuple k;refine SeqAt.in_tupleAt (rW x) e (λw f=>IF g fx r fs w (by simpa using f)) #[.bl _,H,I,rfl,?_];rw[show z.toArray.any (rW x)=z.any (rW x) by simp,vJ r fs];exact q
theorem zQ:SE X (vu .NotIn) (Su X.K kd):=by intro d s l H x y v u Q I g i h;let#[p,m,rfl,k,fx,fs,q]:=h;cases i;rcases k with k|k;let#[z,r,e,j]:=I.list k;refine SeqAt.notIn_listAt (rW x) e.isList (λw f=>IF g fx r fs w (by simpa using f)) #[.bl _,H,I,rfl,?_];rw[show z.toArray.any (rW x)=z.any (rW x) by simp,vJ r fs];exact q;let#[z,r,e,j]:=I.tuple k;refine SeqAt.notIn_tupleAt (rW x) e (λw f=>IF g fx r fs w (by simpa using f)) #[.bl _,H,I,rfl,?_];rw[show z.toArray.any (rW x)=z.any (rW x) by simp,vJ r fs];exact q
theorem II:gC X (.builtin "len") (λxs H Q=>∃p z,xs=[.ref p]/\(jC X.K H p z∨xD X.K H p z)/\Q (.int z.9) H):=by intro d s j H xs l Q I r h;let#[p,z,rfl,w,q]:=h;let#[u,rfl,g]:=HF r;cases g;have m:=KH;rcases w with w|w;let#[f,k,e,i]:=I.list w;have y:=k.9;exact Calls.call_len_list e.isList (by simp only[QN]<;>omega) #[.int z.9,H,I.tok _,#[s.toks+1,by rw[QN,y]],q];let#[f,k,e,i]:=I.tuple w;have y:=k.9;exact len_tuple e (by simp only[QN]<;>omega) #[.int z.9,H,I.tok _,#[s.toks+1,by rw[QN,y]],q]
theorem yR:gC X (.builtin "len") (λxs H Q=>∃z,xs=[.str z]/\z.9<=kt/\Q (.int z.9) H):=by intro d s y H xs w Q I r h;let#[z,rfl,k,q]:=h;let#[u,rfl,t,rfl]:=HF r;have e:=KH;exact len_str () #[.int z.9,H,I.tok _,#[_,rfl],q]
theorem gC.or{f:kn}{r k:LV->Hp->VK->Prop}(h:gC X f r)(h':gC X f k):gC X f (λxs H Q=>r xs H Q∨k xs H Q):=by intro d s y H xs z Q I w q;rcases q with q|q;exact h d s y H xs z Q I w q;exact h' d s y H xs z Q I w q
theorem jR:gC X (.type "list") (λxs H Q=>∃p k,xs=[.ref p]/\(jC X.K H p k∨xD X.K H p k)/\∀l,H l=kf->Q (.ref l) (pA H l (.lst k))):=by
 intro d s E H xs G Q I r h;let#[p,k,rfl,m,q]:=h;let#[u,rfl,F]:=HF r;cases F;have fin:∀(y:LW),sA k y->k.9<=kt->∀(z:v5) (g:Nat),(∀b C,s.1.get? b=kv C->z.get? b=kv C) ->
   z.get? s.1.1.size=kv { cls:=.type "list",dict:=kf,data:=.seq y.toArray g,slots:=#[] }->EP X d E Q (.ref s.1.1.size) { s with heap:=z }:=λy f j z g i e =>
  #[.ref s.1.1.size,_,I.laid (t':=s.toks) i (QT _) (show GA X.prog X.w _ z _ (.lst k) from#[j,y,g,f,e]),rfl,q _ (I.hok.fresh (QT _))]
 rcases m with m|m;let#[y,f,W,j]:=I.list m;have Z:=f.9;let#[o,A,hc,n,B]:=W.isList;exact nP p (.inl rfl) A hc B (λz g i e=>fin y f j z g i e) (by simp only[QN]<;>omega);let#[y,f,W,j]:=I.tuple m;have Z:=f.9;let#[o,A,hc,n,B]:=W;exact nP p (.inr rfl) A hc B (λz g i e=>fin y f j z g i e) (by simp only[QN]<;>omega)
theorem yO:gC X (.type "tuple") (λxs H Q=>∃p z,xs=[.ref p]/\((jC X.K H p z/\∀l,H l=kf->Q (.ref l) (pA H l (.tup z)))∨(xD X.K H p z/\Q (.ref p) H))):=by
 intro d s j H xs C Q I r h;let#[p,z,rfl,h]:=h;let#[u,rfl,W]:=HF r;cases W;rcases h with⟨i,q⟩| ⟨i,q⟩
 let#[y,f,g,m]:=I.list i;have n:=f.9;refine call_tuple_list g.isList (λk A=>?_) (by simp only[QN]<;>omega);have Z:Inv X d j H { s with heap:=k }:=I.kept (t':=s.toks) A;have B:Inv X d j (pA H k.1.size (.tup z)) { s with heap:=k.push { cls:=.type "tuple",data:=.seq y.toArray } } :=
  Z.laid (t':=s.toks) (λb o e=>QH _ e) (QT _) (show GA X.prog X.w _ _ _ (.tup z) from#[m,y,f,IsTup.new _ _])
 exact#[.ref k.1.size,_,B,rfl,q _ (Z.hok.fresh (QT _))];let#[y,f,g,m]:=I.tuple i;exact call_tuple_same g #[.ref p,H,I,rfl,q]
def BU(K:QA)(T:String)(x:V)(H:Hp):Prop:=match x with
 | .str _=>T="str"|.int _=>T="int"|.ref p=>(T="list"/\∃y,jC K H p y)∨(T="tuple"/\∃o,K.lookup p=kv o/\o.cls=.type "tuple"/\o.dict=kf) ∨
   (T="dict"/\((∃h,H p=kv (.dK h))∨∃z h,H p=kv (.dT z h)))∨(T="set"/\∃S n,H p=kv (.set S n))
 |_=>False
theorem K2{σ:St}{H:Hp}{T:String}(I:Inv X d σ H s)(r:VA x v)(ty:BU X.K T x H) :
  s.TypeIs v T/\∀a,v=.ref a->∃ob,s.1.get? a=kv ob/\ob.dict=none:=by
 cases x with
 |str z=>let#[t,rfl]:=r;cases(show T="str" from ty);exact#[QCe s z t,λ_ e=>nomatch e]
 |int i=>let#[t,rfl]:=r;cases(show T="int" from ty);exact#[typeIs_int s i t,λ_ e=>nomatch e]
 |ref p =>
  cases r;rcases ty with⟨rfl,l,j⟩| ⟨rfl,o,hk,hc,w⟩| ⟨rfl,hk⟩| ⟨rfl,S,n,hk⟩
  let#[g,_,f,_]:=I.list j;refine#[f.isList.typeIs,λa e=>?_];cases e;let#[o,n,e,c,w,_]:=f;exact#[o,e,w];refine#[#[o,I.kIn p o hk,hc],λa e=>?_];cases e;exact#[o,I.kIn _ o hk,w];have z:∃o,s.1.get? p=kv o/\o.ExactDict:=by
   rcases hk with⟨y,hk⟩| ⟨m,y,hk⟩
   let#[_,_,_,_,o,_,_,e,h,_]:=I.hok p _ hk;exact#[o,e,h];let#[_,_,_,_,o,_,e,h,_]:=I.hok p _ hk;exact#[o,e,h]
  let#[o,e,h]:=z;refine#[#[o,e,h.1],λa k=>?_];cases k;exact#[o,e,h.2.1];let#[o,_,_,_,e,h,_]:=I.hok p _ hk;refine#[#[o,e,h.1],λa k=>?_];cases k;exact#[o,e,h.2.1]
 |_=>exact Qc ty
noncomputable def Uu(K:QA)(T:String)(r:V->LV->Hp->VK->Prop)(m:TE):TE:=λy H Q=>m y H λx h=>BU K T x h/\r x [] h Q
noncomputable def vz(K:QA)(T:String)(r:V->LV->Hp->VK->Prop)(m:TE)(t:TA):TE:=λh H Q=>m h H λx y=>BU K T x y/\t h y λz w=>r x z w Q
end
variable{o e:Expr}{es:List Expr}{m:TE}{t:TA}{name:Str}{apos cpos:Pos}{T g:String}{r:V->LV->Hp->VK->Prop}
theorem Ii(p:l5 T)(w:Slot T name g)(k:typeOf (.builtin g)=rk (.type "method_descriptor"))(Z:x9 X g r)(q:PE X o m)
  (u:fk o name X.env (Gz o X.env)=Gz o X.env:=by rfl) (z:(apos.endLine==cpos.line)=true:=by rfl):PE X (.Call (.Attribute o name apos) [] [] cpos) (Uu X.K T r m):=by
 intro y s f H Q I h;refine QAm u z (OB (q y s f H _ I h) λv l #[x,B,j,i,ty,n]=>?_);let#[A,W]:=K2 j i ty;exact#[T,g,p,w,k,A,W,Wf rfl (QBU (Z y l f B x [] v [] Q j i .nil n))]
theorem Vp(F:l5 T)(k:Slot T name g)(j:typeOf (.builtin g)=rk (.type "method_descriptor"))(L:x9 X g r)(J:PE X o m)(M:PA X (e::es) t)
  (w:fk o name X.env (Gz o X.env)=Gz o X.env:=by rfl)
  (f:((hQ cpos (v9 (e::es) X.env)).all (λx=>!x.1)&&(backToKw cpos (keywordEach [] X.env)).all (λx=>x.1.isSome)
   && decide ((e::es).9+([]:List c0).9+(if([]:List c0).isEmpty then 0 else 1)<30))=true:=by rfl)
  (u:(apos.endLine==cpos.line)=true:=by rfl) (G:v9 (e::es) X.env=(kb,Gz e X.env)::v9 es X.env:=by rfl) (z:(hQ cpos (v9 es X.env)).any (·.1)=false:=by rfl) :
  PE X (.Call (.Attribute o name apos) (e::es) [] cpos) (vz X.K T r m t):=by
 intro y s i H Q I h;refine wpAny_Call_method_late w f u rfl (OB (J y s i H _ I h) λv A #[x,S,p,l,ty,E]=>?_);let#[O,N]:=K2 p l ty;refine#[T,g,F,k,j,O,N,?_];have n:=M cpos y A i S _ p E;rw[G]at n ⊢;refine Wf (by show(kb||(hQ cpos (v9 es X.env)).any (·.1))=kb;rw[z]<;>rfl) (Calls.evalArgs_plain ?_);exact OB n λZ W #[q,R,P,B,C]=>L y W i R x q v Z Q P l B C
end
def jx(X:Cx)(id:String)(r:V->LV->Hp->VK->Prop):Prop :=
 ∀(h:PB) (s:ku) (y:St) (H:Hp) (x:V) (z:LV) (v:kn) (u:LW) (Q:VK),Inv X h y H s->VA x v->sA z u->r x z H Q ->
  ko (k5 X.prog X.w) X.A (dt (.builtin id) (v::u)) (EP X h y Q) X.xe s
theorem sA.one:∀{x:V}{us:LW},sA [x] us->∃u,us=[u]/\VA x u
 |_,_,.cons r .nil=>#[_,rfl,r]
theorem sA.eraseIdx:∀{xs:LV}{us:LW}(i:Nat),sA xs us->sA (xs.eraseIdx i) (us.eraseIdx i)
 |_,_,_,.nil=>.nil|_,_,0,.cons _ t=>t|_,_,i+1,.cons r t=>.cons r (sA.eraseIdx i t)
theorem BO{α:Type}:∀(l:List α) (i:Nat),(l.eraseIdx i).9<=l.9
 |[],_=>QT _|_::_,0=>wJ _|_::r,i+1=>Wu (BO r i)
section
variable{X:Cx}{y:PB}{σ:St}{H:Hp}{s:ku}{l b:k0}{xs v w:LV}
theorem Inv.lset{its its':LW}{n:Nat}{f:Array kn->Array kn}{t':Nat}(I:Inv X y σ H s)(a:H l=kv (.lst xs))
  (e:s.1.get? l=kv { cls:=.type "list",data:=.seq its.toArray n }) (k:f its.toArray=its'.toArray) (hv:sA v its') (h:v.9<=kt) :
  Inv X y σ (pA H l (.lst v)) { s with heap:=s.1.update l (Q4 f),toks:=t' }:=by
 have q:=PySem.IsL.update e f;rw[k]at q;refine I.write (x:=l) (e:=l) (by rw[a];exact trivial) (.inl rfl) (λg u hb z=>(QAy s.1 (Q4 f) (Qm hb)).trans z) #[_,q] ?_;exact#[h,its',_,hv,q]
theorem Inv.lnew{its:LW}{t':Nat}(I:Inv X y σ H s)(hv:sA v its)(h:v.9<=kt) :
  Inv X y σ (pA H s.1.1.size (.lst v)) { s with heap:=s.1.push { cls:=.type "list",data:=.seq its.toArray },toks:=t' } :=
 I.laid (λ_ _ q=>QH _ q) (QT _) #[h,its,0,hv,QO _ rfl]
theorem Inv.fresh(I:Inv X y σ H s):H s.1.1.size=none:=I.hok.fresh (QT _)
theorem Inv.lstM(I:Inv X y σ H s)(h:H l=kv (.lst xs)):xs.9<=kt/\∃(its:LW) (n:Nat),sA xs its/\xs.9=its.9/\s.1.get? l=kv { cls:=.type "list",data:=.seq its.toArray n }:=by let#[z,its,n,r,e]:=I.hok l _ h;exact#[z,its,n,r,r.9,e]
theorem O5{n:Nat}(h:n<=kt):WS n=false:=by unfold WS;exact dF ()
end
section
variable{X:Cx}
def oI:V->LV->Hp->VK->Prop:=λx z H Q=>∃l h y,x=.ref l/\z=[y]/\H l=kv (.lst h)/\h.9<kt/\Q .non (pA H l (.lst (h++[y])))
theorem nZ:jx X "list.append" oI:=by intro k s i H x m v o Q I b f h;let#[l,j,y,rfl,rfl,a,p,q]:=h;cases b;let#[u,rfl,g]:=f.one;let#[z,w,n,r,hl,e]:=I.lstM a;refine QB2 F.slot_list_append #[_,e,rfl] F.entry_list_append (F.args_list_append_2 _ _) (PySem.list_append l w.toArray n u (by rw[QN];omega)) #[e,?_];refine#[.non,_,I.lset (its':=w++[u]) a e (by simp) (r.append (.cons g .nil)) ?_,rfl,q];rw[QJ,Q8];omega
def ya:V->LV->Hp->VK->Prop:=λx z H Q=>∃l b y h,x=.ref l/\z=[.ref b]/\H l=kv (.lst y)/\H b=kv (.lst h)/\y.9+h.9<=kt/\Q .non (pA H l (.lst (y++h)))
theorem mZ:jx X "list.extend" ya:=by
 intro f s K H x E v G Q I i j h;let#[l,b,C,A,rfl,rfl,g,Z,J,q]:=h;cases i;let#[u,rfl,m]:=j.one;cases m;let#[z,w,n,r,hl,e]:=I.lstM g;let#[B,y,p,o,Y,W]:=I.lstM Z;have a:w.toArray.size+y.toArray.size<=sizeLine:=by rw[QN,QN];omega
 have k:¬ (!w.toArray.isEmpty&&WS (w.toArray.size+y.toArray.size))=true:=by rw[O5 a,QBK];exact QG
 refine QB2 F.slot_list_extend #[_,e,rfl] F.entry_list_extend (F.args_list_extend_2 _ _)
  (AutoSeq1.list_extend_list_list_0 l w.toArray n b y.toArray p k (by rw[QN];omega) ()) #[e,W,?_]
 refine#[.non,_,I.lset (its':=w++y) g e (by simp) (r.append o) ?_,rfl,q];rw[QJ];omega
def Yi:V->LV->Hp->VK->Prop:=λx z H Q=>∃l h i k y,x=.ref l/\z=[.int i]/\H l=kv (.lst h)/\-(2 ^ 63)<=i/\i<2 ^ 63/\seqIndex? i h.9=kv k/\h[k]?=kv y/\Q y (pA H l (.lst (h.eraseIdx k)))
theorem c6:jx X "list.pop" Yi:=by
 intro f s A H x B v C Q I m o h;let#[l,j,i,k,y,rfl,rfl,g,K,W,hk,Y,q]:=h;cases m;let#[u,rfl,p]:=o.one;let#[t,rfl]:=p;let#[z,a,n,r,hl,e]:=I.lstM g;let#[w,Z,b]:=r.get Y;refine QB2 F.slot_list_pop #[_,e,rfl] F.entry_list_pop (F.args_list_pop_2 _ _)
  (MeetsSeq.list_pop_at l a.toArray n i t k w (fitsIndex_both K W) (by rw[QN,<- hl];exact hk) (by rw[<- wN];exact Z) (by rw[QN];omega)) #[e,?_]
 refine#[y,_,I.lset (its':=a.eraseIdx k) g e ?_ (r.eraseIdx k) ?_,b,q];show a.toArray.eraseIdxIfInBounds k=(a.eraseIdx k).toArray;rw[List.eraseIdxIfInBounds_toArray];have:=BO j k;omega
end
end L2
namespace Att
open PySem PySem.W PySem.Calls PyProof.Rows
theorem RK{P:Params}{h:v5}:∀(ns:LJ) (vs:LW),WellAll P h vs (ns.map WData.int)->ri vs ns:=by
 intro ns;induction ns with
 |nil=>intro vs w;rw[WR]at w;cases w;exact .nil|cons n ns x =>
  intro vs w;rw[QU]at w;cases w with|cons a b=>cases a;exact .cons _ _ (x _ b)
theorem script_of{l:OpenLaw}{n:Nat}(j:l.most=kv n){P:Params}{h:v5}{args:List WData}{x:LW}
  (y:l.row.toRowW.claim.pre args=kd) (k:WellAll P h x args) :
  ∃a vs ns,x=[kx a]/\args=[WData.list (ns.map WData.int)]/\h.get? a=kv { cls:=.type "list",data:=.seq vs.toArray }/\ri vs ns/\ns.9<=n:=by
 have b:WShape.hasAll [] args [.list .int]=true:=(pre_splitW y).1;have hc:l.pre.holds [] { args:=args }=true:=(pre_splitW y).2;let#[d,r,rfl,p,o]:=hasAllW_cons b;obtain rfl:=hasAllW_nil o;let#[s,rfl,m]:=hasW_list p;let#[ns,rfl]:=items_int m;have z:ns.9<=n:=by
  unfold OpenLaw.pre at hc;have w:(WTm.not (.lt (.lit (.int (n:Int))) (.len (.arg 0)))).holds [] { args:=[.list (ns.map .int)] }=true:=by have w:=(holds_andW hc).1;rw[j]at w;exact w
  have v:=condW_of w (w_not (w_lt w_lit (w_len_list (w_arg rfl))));rw[QE]at v;refine Nat.le_of_not_lt λq=>?_;have g:(n:Int)<((ns.9:Nat):Int):=()
  first
   | (rw[dT g]at v;exact Uz v (by decide))
   | (simp at v;omega)
 cases k with
 |cons f e =>
  cases e;cases f with|list i u=>exact#[_,_,ns,rfl,rfl,i,RK ns _ u,z]
theorem post_true(l:OpenLaw)(args:List WData):l.row.toRowW.claim.post args (.bool kd) args=kd :=
 postW_of (r:=l.row.toRowW) (X:=(kd==kd))
  (show WShape.has [] (.bool kd) .bool=kd by first|rfl|decide|simp[WShape.has,WShape.arms,WShape.armsAll])
  (show(WTm.eq .res (.lit (.bool kd))).value [] { args:=args,res:=kv (.bool kd),after:=args }=kv (.bool (kd==kd)) from w_eq_bool (w_res rfl) w_lit) rfl
end Att
namespace L2
open PySem PySem.Spec PyProof.Rows
theorem cO:∀{vs:LW}{ns:LJ},ri vs ns->sA (ns.map V.int) vs
 |_,_,.nil=>.nil|_,_,.cons n t h=>.cons #[t,rfl] (cO h)
def js(H:Hp):Prop:=∀b,H b=kf∨(∃o h,H b=kv (.frz o (.lst h)))∨∃q,H b=kv (.tbl q)
theorem K6{P:vx}{w:v8}{K:QA}{mg mb:Str->Option kn}{CX:R8}{k:Nat}{fa a:k0}{fd:y3}{x:Str}{sp:Sp}{y:ku}{vs:LW}{ns:LJ}{T c:k0}{X:Str}(hT:∀f:v5,K.In f->∀P q,xP mg f P q->P=T/\q=X)(j:y.1.TableAt c T #[])(hKT:K.lookup T=kf)
  (KX:K.In y.1) (Q:y.1.Ns Vz mg) (hb:y.1.Ns dy mb) (hbb:∀x:Str,x≠"__name__"->mb x=y2 x) (R:y.1.NoLimit) (hg:y.gens=#[])
  (J:y.1.get? a=kv { cls:=.type "list",data:=.seq vs.toArray }) (hi:ri vs ns) (hl:ns.9<=kt) (hr:Room k ln)
  (F:∀f:v5,K.In f->f.Ns Vz mg->FnOk P w K mg f CX k fa fd [x] sp) (B:∀(s:ku) (u:kn),Lz s fd #[[u],[]] [(x,u)])
  (hsp:∀H:Hp,js H->jC K H a (ns.map V.int)->sp [.ref a] H (λv _=>v=.bl kd) λ_ _ _=>False)
  (hCX:∀H e s',CX [] H y (λ_ _ _=>False) e s'->False) :
  lw (k5 P w) ln (.call (.ref fa) #[[.ref a],[]]) (λr s'=>r=.ok (.ret (.bool kd))/\OldK y.1 s'.1/\s'.os=y.os/\Sh s'.gens) y:=by
 have rv:=cO hi;have O:=hi.9;have W:∀H:Hp,js H->jC K H a (ns.map V.int)->lL P w H y.1->(∀b,H b≠kf->b=a∨b=T)->(H a≠kf->K.lookup a=kf)->H T=kv (.tbl X) ->
   lw (k5 P w) ln (.call (.ref fa) #[[.ref a],[]]) (λr s'=>r=.ok (.ret (.bool kd))/\OldK y.1 s'.1/\s'.os=y.os/\Sh s'.gens) y:=by
  intro H hO hS A hA hK hP;have l:∀{b:k0}{o:Obj},y.1.get? b=kv o->H b=kf->(DQ y.1 H).get? b=kv o:=λe n=>z7 e n;have noA:∀{b:k0}{o:Obj}{L:Array DC}{M:Nat},y.1.get? b=kv o->o.data=.dict L M->H b=none:=λ{b o L M} e d=>by
   cases q:H b with|none=>rfl|some u=>rcases hA b (by rw[q];simp) with e'|e';subst e';rw[J]at e;cases e;have d':Data.seq vs.toArray _=Data.dict L M:=d;cases d';subst e';rw[j.2]at e;cases e;have d':Data.fields #[]=Data.dict L M:=d;cases d'
  have Y:∀{b:k0}{m:Str->Option kn},y.1.Ns b m->(DQ y.1 H).Ns b m:=λ{b m} #[o,L,M,e,d,r]=>#[o,L,M,l e (noA e d),d,r]
  have G:K.In (DQ y.1 H):=λb o e=>l (KX b o e) (by
   cases q:H b with|none=>rfl|some u=>rcases hA b (by rw[q];simp) with e'|e';subst e';rw[hK (by rw[q];simp)]at e;cases e;subst e';rw[hKT]at e;cases e)
  have hM:Mod K mg (DQ y.1 H):=#[G,Y Q,#[mb,Y hb,hbb],let#[mc,h1,h2]:=R;#[mc,Y h1,h2]]
  have e0:Env0 P w K mg (DQ y.1 H) ln [] y H:=#[rfl,hM,λb o e=>Fb e,w4 (GZ _ _),trivial,λb hb=>Uz (show b∈([]:List k0) from hb) (by simp),λP q t=>(by let#[rfl,rfl]:=hT _ G P q t;exact hP),A,.of_eq hg]
  refine QCF ((F _ G (Y Q)).run ln [] y H #[[.ref a],[]] [.ref a] [.ref a] _ _ hr e0 (B y (.ref a)) (.cons rfl .nil) (hsp H hO hS)) λr s' h=>?_;cases r with
  |error e=>exact(hCX H e s' h).elim|ok fl =>
   cases fl with
   |next=>exact Qc h|brk=>exact Qc h|cont=>exact Qc h|ret u =>
    let#[v,H',os,bare,un,Z,r',q]:=h;have q':v=.bl true:=q;subst q';obtain rfl:u=Value.bool true:=r';have nx:∀b,b∉vY []:=λb z=>Uz (show b∈([]:List k0) from z) (by simp);refine#[rfl,#[λb o e=>?_,λb o e=>un.there b o e (by simp)],os,bare];rcases hO b with z|⟨ob,xs,z⟩| ⟨tq',z⟩
    exact .inl (un.keep b o e z (nx b) (by simp));let#[S,_]:=A b _ z;let#[e2,_]:=Z b _ (un.frzs b ob _ z);rw[e]at S;cases S;exact .inl e2;have hb:b=T:=by rcases hA b (by rw[z];simp) with rfl|h;let#[ps,S,_]:=A b _ z;rw[J]at S;cases S;exact h
    subst hb;let#[ps,e2,_]:=Z b _ (un.tbls b _ z);have e0:=e.symm.trans j.2;cases e0;exact .inr (.inl #[j.isCodeTable,rfl,#[],ps,rfl,by simpa using e2])
 have aT:a≠T:=λz=>by have e:=j.2;rw[<- z,J]at e;cases e
 have N:∀H:Hp,GA P w H y.1 T (.tbl X):=λH=>#[#[],j.2,trivial,λpos cv g=>by cases g]
 cases hk:K.lookup a with
 |some o =>
  have e:=KX a o hk;rw[J]at e;cases e;refine W (λb=>if b=T then kv (.tbl X) else kf) (λb=>?_) (.inr #[_,vs.toArray,_,hk,rfl,rfl,rfl,by rw[QN,O];exact hl,by simpa using rv]) (λb u z=>?_) (λb z=>?_) (λz=>Uz (t3 aT) z) (t6 rfl);by_cases hb:b=T
  ·exact .inr (.inr #[_,t6 hb])
  exact .inl (t3 hb);by_cases hb:b=T
  ·have p:=(t6 hb).symm.trans z
   cases p;subst hb;exact N _
  have p:=(t3 hb).symm.trans z;cases p;by_cases hb:b=T
  ·exact .inr hb
  exact Uz (t3 hb) z
 |none =>
  have C:∀b,b=T->(if b=T then kv (.tbl X) else if b=a then kv (.frz { cls:=.type "list",data:=.seq vs.toArray } (.lst (ns.map V.int))) else none:Option HO)=kv (.tbl X):=λb h=>t6 h;have I:∀b,b=a->(if b=T then kv (.tbl X) else if b=a then kv (.frz { cls:=.type "list",data:=.seq vs.toArray } (.lst (ns.map V.int))) else none:Option HO)=kv (.frz { cls:=.type "list",data:=.seq vs.toArray } (.lst (ns.map V.int))):=λb h=>(t3 (h▸aT)).trans (t6 h);have E:∀b,b≠T->b≠a->(if b=T then kv (.tbl X) else if b=a then kv (.frz { cls:=.type "list",data:=.seq vs.toArray } (.lst (ns.map V.int))) else none:Option HO)=none:=λb h h2=>(t3 h).trans (t3 h2);refine W (λb=>if b=T then kv (.tbl X) else if b=a then kv (.frz { cls:=.type "list",data:=.seq vs.toArray } (.lst (ns.map V.int))) else kf) (λb=>?_) (.inl (.inr #[{ cls:=.type "list",data:=.seq vs.toArray },I a rfl])) (λb u z=>?_) (λb z=>?_) (λ_=>hk) (C T rfl);by_cases hb:b=T
  ·exact .inr (.inr #[_,C b hb])
  by_cases i:b=a
  ·exact .inr (.inl #[_,_,I b i])
  exact .inl (E b hb i);by_cases hb:b=T
  ·have p:=(C b hb).symm.trans z
   cases p;subst hb;exact N _
  by_cases i:b=a
  ·have p:=(I b i).symm.trans z
   cases p;subst i;exact#[J,by rw[QE];exact hl,vs,_,rv,J]
  have p:=(E b hb i).symm.trans z;cases p;by_cases hb:b=T
  ·exact .inr hb
  by_cases i:b=a
  ·exact .inl i
  exact Uz (E b hb i) z
noncomputable def lD(s:z4):Arguments:=match s with
 | .FunctionDef _ a _ _ _ _ _ _ _ _=>a|_=>{ posonlyargs:=[],args:=[],vararg:=kf,kwonlyargs:=[],kw_defaults:=[],kwarg:=kf,defaults:=[] }
noncomputable def pC(s:z4):List Stmt:=match s with
 | .FunctionDef _ _ b _ _ _ _ _ _ _=>b|_=>[]
noncomputable def OA(s:z4):Scope:=match s with
 | .FunctionDef _ _ _ _ _ _ sc _ _ _=>sc|_=>{ kind:=.function,names:=[],isGenerator:=kb,isCoroutine:=kb }
noncomputable abbrev R0:R8:=λ_ _ _ _ _ _=>False
noncomputable abbrev E0:XK:=λ_ _ _=>False
theorem Xp{X:Cx}:fN R0 X E0:=λ_ _ _ _ _ _ _ h=>h.elim
structure Fun(K:QA)(x qual:Str)(st:z4)(f:k0)(fd:y3):Prop where
 ex:∃(oc:kn) (od:Option k0) (kV doc pm:kn) (an:Option k0) (cdv ct:kn) (osl:Array (Option kn)),
  fd=qq x qual (lD st) (pC st) (OA st) .none kV doc pm an cdv ct/\K.lookup f=kv #[oc,od,.func fd,osl]/\Wm K cdv qual=kd
 kp:wR K (.ref f)=kd
section
variable{P:vx}{w:v8}{K:QA}{mg:Str->Option kn}{base:v5}
section
variable{x y:Str}{st:z4}{f:k0}{u:y3}{z:LS}
theorem Fun.ok{N:LS}{k:Nat}{b:Sp}(F:Fun K x y st f u)(S:FnScope N z (OA st))(len:∀vs H Q E,b vs H Q E->vs.9=z.9)
  (a:∀(v:kn) (A:Xz) (outer:List Env) (s:ku) (H:Hp) (vs:LV) (Q:VK) (E:XK),Room k (A.deeper (sh y (OA st) s.1.1.size f v))->b vs H Q E ->
   ∃t,SW (tW R0 P w K mg base N y (OA st) f v A outer s H E).nox (pC st) t/\t { nx:=λ_ m=>Q .non m,rt:=Q } (aD N vs) H):FnOk P w K mg base R0 (k+1) f u z b:=by
 let#[p,o,kV,l,n,X,v,r,i,rfl,lk,g]:=F.ex;refine Jf lk g S len λA outer s H vs Q E j e=>?_;let#[t,h,q]:=a v A outer s H vs Q E j e;exact#[t,h.nox,q]
theorem Fun.binds(F:Fun K x y st f u)
  (h:∀(kV v a:kn) (b:Option k0) (k ct:kn) (us:LW),us.9=z.9->d9 (qq x y (lD st) (pC st) (OA st) .none kV v a b k ct) #[us,[]]=rk (z.zip us)):oJ K u z []:=by
 let#[j,i,kV,v,a,b,k,ct,e,rfl,lk,g]:=F.ex;exact .all (h kV v a b k ct)
theorem Pk{i:kn}{g e:Option k0}{a:Array (Option kn)}{kV v b h ct:kn}(l:K.lookup f=kv #[i,g,.func (qq x y (lD st) (pC st) (OA st) .none kV v b e h ct),a])
  (c:Wm K h y=kd) (k:wR K (.ref f)=kd):Fun K x y st f (qq x y (lD st) (pC st) (OA st) .none kV v b e h ct):=#[#[i,g,kV,v,b,e,h,ct,a,rfl,l,c],k]
end
end
def Same(H h:Hp):Prop:=∀b o,H b=kv o->h b=kv o
theorem Same.refl(H:Hp):Same H H:=λ_ _ h=>h
theorem Same.trans{H y x:Hp}(a:Same H y)(b:Same y x):Same H x:=λc o h=>b c o (a c o h)
theorem Same.free{H x:Hp}(e:Same H x){l:k0}(h:x l=Option.none):H l=Option.none:=by
 cases q:H l with|none=>rfl|some o=>rw[e l o q]at h;cases h
theorem Same.seq{K:QA}{H x:Hp}{a:k0}{xs:LV}(e:Same H x)(h:jC K H a xs):jC K x a xs:=by rcases h with(h|⟨o,h⟩)|h;exact .inl (.inl (e _ _ h));exact .inl (.inr #[o,e _ _ h]);exact .inr h
noncomputable def RN(env:Env):List (Str×Fz)->List (Str×k0)->List (Str×k0)
 |[],cs=>cs|(n,k)::r,cs=>RN env r (if k==.free then(n,(env.cells.lookup n).getD 0)::cs else cs)
theorem JW{u:gl}{env:Env}(h:∀y∈u.names,y.2=.free->∃c,env.cells.lookup y.1=kv c):ew u env=rk (RN env u.names []):=by
 have key:∀(l:List (Str×Fz)) (v:List (Str×k0)),(∀y∈l,y.2=.free->∃c,env.cells.lookup y.1=kv c) ->
   (forIn l v λ(x:Str×Fz) (r:List (Str×k0))=>(if(x.2==NameKind.free)=kd then(do let c <- cellOf env x.1;rk (ForInStep.yield ((x.1,c)::r))) else rk (ForInStep.yield r):Sem (ForInStep (List (Str×k0)))))=rk (RN env l v):=by
  intro l;induction l with
  |nil=>intro v _;rfl|cons y l a =>
   intro v hl;let#[n,k]:=y;rw[QAA];by_cases hk:k=.free;subst hk;let#[c,hc]:=hl (n,.free) QF rfl;have hc:env.cells.lookup n=kv c:=hc;simp only[beq_self_eq_true,if_true,cellOf,hc,pure_bind,RN,Wv];exact a _ λz w=>hl z (QD _ w);have hb:(k==NameKind.free)=false:=by simpa using hk
   simp only[hb,Qu,if_false,pure_bind,RN];exact a _ λz w=>hl z (QD _ w)
 have e:=key u.names [] h;unfold ew;exact(ak (· >>= rk) e).trans (pure_bind _ _)
theorem OO{env:Env}{x:Str}{c:k0}:∀(l:List (Str×Fz)) (cs:List (Str×k0)),(∀y∈l,y.2=.free->∃c,env.cells.lookup y.1=kv c)->(∀c,cs.lookup x=kv c->env.cells.lookup x=kv c) ->
  (RN env l cs).lookup x=kv c->env.cells.lookup x=kv c
 |[],cs,_,hc,h=>hc c h|(n,k)::r,cs,hl,hc,h=>by
  refine OO r _ (λz a=>hl z (QD _ a)) (λd u=>?_) h;by_cases hk:k=.free;subst hk;let#[e,v]:=hl (n,.free) QF rfl;have v:env.cells.lookup n=kv e:=v;simp only[beq_self_eq_true,if_true,v,Wv,wo]at u;cases w:x==n with|true=>rw[w]at u;cases u;rw[qS w];exact v|false=>rw[w]at u;exact hc d u
  have hb:(k==NameKind.free)=false:=by simpa using hk
  simp only[hb,Qu,if_false]at u;exact hc d u
theorem RM{env:Env}{x:Str}:∀(l:List (Str×Fz)) (cs:List (Str×k0)),((∃c,cs.lookup x=kv c)∨(x,NameKind.free)∈l)->∃c,(RN env l cs).lookup x=kv c
 |[],cs,h=>by rcases h with h|h;exact h;cases h
 | (n,k)::r,cs,h=>by
  refine RM r _ ?_;rcases h with⟨c,h⟩| h;refine .inl ?_;split;rw[wo];split;exact#[_,rfl];exact#[c,h];exact#[c,h];rcases QM.mp h with h|h
  ·cases h
   refine .inl ?_;simp
  exact .inr h
noncomputable def XB:List Bool->Nat->LS->LS
 |b::m,j,x::N=>(if b then#[(qG [46,j])] else x)::XB m (j+1) N|_,_,N=>N
noncomputable def PC:List Bool->St->St
 |b::m,v::σ=>(if b then kf else v)::PC m σ|_,σ=>σ
theorem CJ:∀(m:List Bool) (σ:St),(PC m σ).9=σ.9
 |[],σ=>by unfold PC;rfl|_::_,[]=>by unfold PC;rfl|b::m,v::σ=>by unfold PC;rw[QL,QL,CJ m σ]
theorem LO:∀(m:List Bool) (j:Nat) (N:LS),(XB m j N).9=N.9
 |[],_,N=>by unfold XB;rfl|_::_,_,[]=>by unfold XB;rfl|b::m,j,x::N=>by unfold XB;rw[QL,QL,LO m (j+1) N]
theorem iM:∀(m:List Bool) (j:Nat) (N:LS) (σ:St) (i:Nat) (v:V),(PC m σ)[i]?=kv (kv v)->σ[i]?=kv (kv v)/\(XB m j N)[i]?=N[i]?
 |[],_,N,σ,i,v,h=>by unfold PC at h;unfold XB;exact#[h,rfl]|_::_,_,N,[],i,v,h=>by unfold PC at h;simp at h|b::m,j,[],w::σ,i,v,h=>by
  unfold PC at h;cases i with
  |zero =>
   cases b with|true=>simp at h|false=>simp at h;subst h;exact#[by simp,by unfold XB;rfl]
  |succ i=>have q:=(iM m (j+1) [] σ i v (by simpa using h)).1;exact#[by simpa using q,by unfold XB;rfl]
 |b::m,j,x::N,w::σ,0,v,h=>by
  unfold PC at h;cases b with|true=>simp at h|false=>simp at h;subst h;exact#[by simp,by unfold XB;simp]
 |b::m,j,x::N,w::σ,i+1,v,h=>by unfold PC at h;have q:=iM m (j+1) N σ i v (by simpa using h);unfold XB;exact#[by simpa using q.1,by simpa using q.2]
noncomputable def RL(h sc:gl):gl :=
  { h with names:=h.names.map λ(n,k)=>if(k==.free&&sc.kind==.function&&sc.names.lookup n==kv .cell) then(n,.cell) else(n,k) }
theorem BC(sc:gl)(x:Str):∀(l:List (Str×Fz)),
  (l.map λ(n,k)=>if(k==NameKind.free&&sc.kind==.function&&sc.names.lookup n==kv .cell) then(n,NameKind.cell) else(n,k)).lookup x =
   (l.lookup x).map λk=>if(k==NameKind.free&&sc.kind==.function&&sc.names.lookup x==kv .cell) then NameKind.cell else k
 |[]=>rfl|(n,k)::r=>by
  rw[QU];have e:(if(k==NameKind.free&&sc.kind==.function&&sc.names.lookup n==kv .cell)=kd then(n,NameKind.cell) else(n,k)) =
    (n,if(k==NameKind.free&&sc.kind==.function&&sc.names.lookup n==kv .cell)=kd then NameKind.cell else k):=by split<;>rfl
  show QCV x ((if(k==NameKind.free&&sc.kind==.function&&sc.names.lookup n==kv .cell)=kd then(n,NameKind.cell) else(n,k))::_)=_;rw[e,wo,wo];cases h:x==n with|true=>rw[qS h];simp|false=>exact BC sc x r
structure CompSt(N:LS)(sc scope:gl)(tgs:LS)(mask:List Bool):Prop where
 kind:scope.kind=.function
 nocell:∀y∈scope.names,y.2≠.cell
 names:∀y∈scope.names,y.2=.local->scope.names.lookup y.1=kv .local
 free:∀y∈scope.names,y.2=.free->sc.names.lookup y.1=kv .cell∨sc.names.lookup y.1=kv .free
 loc:∀y∈scope.names,y.2=.local->y.1∈tgs∨y.1=(".0":Str)
 nd:(tgs++XB mask 0 N).Nodup
 no0:(".0":Str)∉tgs++XB mask 0 N
def SA(X:Cx)(h:gl)(y:LS)(x:List Bool)(s:ku)(H:Hp)(ex:List k0):Cx :=
  { X with N:=y++XB x 0 X.N,s₀:=s,H₀:=H,env:=compEnvC h (RN X.env h.names []) s.1.1.size X.env,outer:=X.stack,stack:=X.stack,ex:=ex,fn:=λ_=>kb,pn:=[],xe:=λ_ _=>False }
def NI(k:Nat)(h:List Bool)(σ:St):St:=QAX k kf++PC h σ
section
variable{X:Cx}{f:PB}{σ:St}{H:Hp}{s:ku}{w:gl}{d:LS}{a:List Bool}{ex:List k0}
theorem CompSt.cells(C:CompSt X.N X.env.scope w d a)(ok:X.Ok):∀y∈w.names,y.2=.free->∃c,X.env.cells.lookup y.1=kv c:=λy h x =>
 ok.has y.1 (C.free y h x)
theorem CompSt.kindCF(C:CompSt X.N X.env.scope w d a){x:Str}(h:(c5 w X.env).names.lookup x=kv .cell∨(c5 w X.env).names.lookup x=kv .free):(x,NameKind.free)∈w.names:=by
 have e:=BC X.env.scope x w.names;have u:(c5 w X.env).names.lookup x=(w.names.lookup x).map λk=>if(k==NameKind.free&&X.env.scope.kind==.function&&X.env.scope.names.lookup x==kv .cell) then NameKind.cell else k:=e
 rw[u]at h;cases q:w.names.lookup x with
 |none=>rw[q]at h;simp at h|some k =>
  have y:=qM q;have z:=C.nocell _ y;cases k with|free=>exact y|cell=>exact Uz rfl z|«local»=>rw[q]at h;simp at h|_=>rw[q]at h;simp at h
theorem aW(I:Inv X f σ H s)(C:CompSt X.N X.env.scope w d a)(n:∀b∈ex,nJ X f H b/\b<s.1.1.size){h':v5}{t':Nat}
  (hn:h'.Ns s.1.1.size (λ_=>kf)) (hs:qV s.1.1.size (s.1.push { cls:=.type "dict",data:=.dict #[] }) h') :
  Inv (SA X w d a s H ex) [] (NI d.9 a σ) H { s with heap:=h',toks:=t' }:=by
 have kept:∀b u,s.1.get? b=kv u->h'.get? b=kv u:=λb u e=>hs.extBut b u (Qj (QV e)) (QH _ e);have look:∀x c,(RN X.env w.names []).lookup x=kv c->X.env.cells.lookup x=kv c:=λx c e=>OO w.names [] (C.cells I.ok) (λc z=>by simp at z) e;have nofs:∀b∈ex,b∉vY X.stack:=λb hb z=>by let#[#[_,f1,f2,_],_]:=n b hb;rcases QM.mp (I.stkSub b z) with e|e;exact f1 e;exact f2 e
 refine#[#[I.ok.mod,C.kind,I.ok.glob,I.ok.blt,QT _,λx y c E j=>I.ok.inj x y c (look x c E) (look y c j),λx hx=>?_,λx c hf _=>Uz (show kb=kd from hf) QG,I.ok.hd,I.ok.frames,.inl rfl,λb hb=>?_,I.bs,QW I.ok.bsz I.sz,λb o e hb=>?_,nofs,I.stack,I.stkFree,I.tb],
  rfl,I.bare,Un.kept kept,#[_,hn,λi x v E j h3=>?_],λx c h=>?_,I.hok.fresh (QT _),λx c h=>I.freeC x c (look x c h),λp hp=>Uz (show p∈([]:PB) from hp) (by simp),I.hok.kept kept,?_]
 exact RM w.names [] (.inr (C.kindCF hx));let#[#[_,_,_,_,f4,_],lt]:=n b hb;exact#[Qj lt,λx c e=>f4 x c (look x c e)];let#[#[_,_,_,f3,_],_]:=n b hb;rcases f3 with z|z;exact I.ok.noex b o e z;exact Uz (Qo (QV (I.ok.bs b o e).1) z) (wC _)
 ·
  have hi:d.9<=i:=by rcases QAR i d.9 with z|z;unfold NI at j;rw[qR (by simpa using z),wk]at j;split at j<;>cases j;exact z
  have Z:(XB a 0 X.N)[i - d.9]?=kv x:=by have:(d++XB a 0 X.N)[i]?=kv x:=E;rw[qH hi]at this;exact this
  have O:(PC a σ)[i - d.9]?=kv (kv v):=by unfold NI at j;rw[qH (by simpa using hi)]at j;simpa using j
  let#[g1,g2]:=iM a 0 X.N σ _ v O;rw[g2]at Z;have A:x∈d++XB a 0 X.N:=qQ (show(d++XB a 0 X.N)[i]?=kv x from E);have K:x∉d:=λz=>by have nd:=C.nd;rw[qj]at nd;exact nd.2.2 x z x (qQ (by rw[g2];exact Z)) rfl
  have g:(x,NameKind.free)∈w.names:=by
   rcases h3 with z|z|z;exfalso;have e:(c5 w X.env).names.lookup x=kv .local:=z;have Q:=BC X.env.scope x w.names;have P:(c5 w X.env).names.lookup x=(w.names.lookup x).map λk=>if(k==NameKind.free&&X.env.scope.kind==.function&&X.env.scope.names.lookup x==kv .cell) then NameKind.cell else k:=Q
   rw[P]at e;cases q:w.names.lookup x with
   |none=>rw[q]at e;cases e|some k =>
    rw[q]at e;have L:=qM q;have G:k=.local:=by
     cases k with|«local»=>rfl|free=>simp at e;split at e<;>cases e|_=>simp at e
    subst G;rcases C.loc _ L rfl with z|z;exact K z;exact C.no0 (z▸A)
   exact C.kindCF (.inl z);exact C.kindCF (.inr z)
  let#[m,hnm,hl]:=I.loc;have F:vn X.env.scope x:=.inr (C.free _ g rfl);let#[u,r,l]:=hl _ x v Z g1 F;refine#[u,r,?_];rcases l with⟨k,_⟩| ⟨_,c,hc,Y⟩
  exfalso;have S:X.env.scope.names.lookup x=kv .local:=k;rcases C.free _ g rfl with z|z;have W:X.env.scope.names.lookup x=kv .cell:=z;rw[S]at W;cases W;have W:X.env.scope.names.lookup x=kv .free:=z;rw[S]at W;cases W;let#[R,B]:=RM (env:=X.env) w.names [] (.inr g);have:R=c:=by have:=look x R B;rw[hc]at this;exact(Qi this).symm
  subst this;refine .inr #[?_,R,B,?_];rcases h3 with z|z|z
  ·exfalso
   have e:(c5 w X.env).names.lookup x=kv .local:=z;have Q:=BC X.env.scope x w.names;have P:(c5 w X.env).names.lookup x=(w.names.lookup x).map λk=>if(k==NameKind.free&&X.env.scope.kind==.function&&X.env.scope.names.lookup x==kv .cell) then NameKind.cell else k:=Q
   rw[P]at e;cases q:w.names.lookup x with
   |none=>rw[q]at e;cases e|some k =>
    rw[q]at e;have L:=qM q;have G:k=.local:=by
     cases k with|«local»=>rfl|free=>simp at e;split at e<;>cases e|_=>simp at e
    subst G;rcases C.loc _ L rfl with z|z;exact K z;exact C.no0 (z▸A)
  exact .inl z;exact .inr z;let#[o,J,M]:=Y;exact#[o,kept _ _ J,M]
 let#[v,o,J,M]:=I.cell x c (look x c h);exact#[v,o,kept _ _ J,M];show(NI d.9 a σ).9=(d++XB a 0 X.N).9;unfold NI;rw[QJ,QJ,qr,CJ,LO,I.len]
end
section
variable{X:Cx}{h:PB}{σ a:St}{H k:Hp}{s s':ku}{x:gl}{d:LS}{w:List Bool}{ex:List k0}{D:k0}{y:LV}{its:LW}
theorem eW(I:Inv X h σ H s)(l:∀b∈ex,nJ X h H b/\b<s.1.1.size)(W:D∈ex)(J:Inv (SA X x d w s H ex) [] a k s')(f:k D=kf)(hv:sA y its)(B:y.9<=kt)
  (hl:s'.1.PlainList D its.toArray) {g:v5}(C:qV s.1.1.size s'.1 g):Inv X h σ (pA k D (.lst y)) { s' with heap:=g }:=by
 have un:Un (vY X.stack) ex H k s.1 s'.heap:=J.base;have j:∀b o,s.1.get? b=kv o->b≠s.1.1.size:=λb o e=>Qj (QV e);have E:=l D W;have Z:k s.1.1.size=none:=J.free;have N:D≠s.1.1.size:=Qj E.2;have m:∀b u,b≠s.1.1.size->s'.1.get? b=kv u->g.get? b=kv u:=λb u A e=>C.extBut b u A e;refine I.call' (s':={ s' with heap:=g }) (ch:=ex) J.os #[λb o e n hb i=>?_,λb o e n hb i=>?_,λb o e n i=>?_,λb o e i=>?_,λb p e=>?_,λb o u e=>?_,λb r e=>?_] ?_ J.bare λb hb=>?_;exact m b o (j b o e) (un.keep b o e n hb i);let#[K,q]:=un.slot b o e n hb i;exact#[K,m b _ (j b o e) q];have q:=un.free b o e n i;rw[jA (λ(z:b=D)=>i (by rw[z];exact W))];exact q;let#[Y,q]:=un.there b o e i;exact#[Y,m b Y (j b o e) q];rw[jA (oA (un.tups b p e) f)];exact un.tups b p e;rw[jA (oA (un.frzs b o u e) f)];exact un.frzs b o u e;rw[jA (oA (un.tbls b r e) f)];exact un.tbls b r e;intro b u e;by_cases hb:b=D;subst hb;rw[bA]at e;cases e;let#[n,q]:=hl;exact#[B,its,n,hv,m _ _ N q];rw[jA hb]at e;refine(J.hok b u e).stay (λc v hc q=>m c v ?_ q) (λc q=>?_) λc p q=>?_;rintro rfl;rcases hc with z|z;subst z;rw[Z]at e;cases e;rw[Z]at z;cases z;rw[jA (oA q f)];exact q;rw[jA (oA q f)];exact q;let#[#[P,M,O,L,G,F],_]:=l b hb;exact#[L,M,G,F]
end
section
variable{X:Cx}{s:ku}{V Z K:Expr}{U:List Expr}{d:gl}{pos:Pos}{B:TI}{g:TG}{tc:TT}{te:TE}{Y:LS}{j:List Bool}{l:PB}
def Ir(X:Cx)(U:List Expr)(t:TT):Prop:=∀(l:PB) (s:ku) (h:St) (H:Hp) (Q:Bool->Hp->Prop),Inv X l h H s->t h H Q ->
 ko (k5 X.prog X.w) X.A (forIn U kd λc r=>if r=kd then do let ok <- isTrue c X.env (Gz c X.env);rk (ForInStep.yield ok) else rk (ForInStep.yield r)) (TP X l h Q) X.xe s
theorem aX:Ir X [] (λ_ H Q=>Q kd H):=λl s x H Q I h=>by rw[QBO];exact QK #[H,I,h]
theorem tX{c:Expr}{t:TT}(hc:PT X c t):Ir X [c] t:=λl s x H Q I h=>by rw[QAA];simp only[if_true];refine QC (QC (OB (hc l s x H Q I h) λb y q=>QK ?_));dsimp only;rw[QBO];exact QK q
theorem jH{prog:vx}{w:v8}{A:Xz}{R:Result->ku->Prop}{y:Expr}{it q:kn}{env:Env}(I:Nat->ku->Prop)
  (W:∀n s,I n s->ko (k5 prog w) A (li it) (λr k=>match r with
   |none=>R (.ok .next) k|some v=>ko (k5 prog w) A (fv y it v) (λ_ u=>ko (k5 prog w) A (d8 y env v) (λ_ f =>
     ko (k5 prog w) A (forIn U kd λc r=>if r=kd then do let ok <- isTrue c env (Gz c env);rk (ForInStep.yield ok) else rk (ForInStep.yield r)) (λok z =>
      if ok=kd then ko (k5 prog w) A (Gz V env) (λx e =>
       ko (k5 prog w) A (dt (.builtin "list.append") [q,x]) (λ_ b=>∃m,m<n/\I m b) (λ_ _=>False) e) (λ_ _=>False) z
      else ∃m,m<n/\I m z) (λ_ _=>False) f) (λ_ _=>False) u) (λ_ _=>False) k) (λ_ _=>False) s)
  (n:Nat) (h:I n s) :
  lw (k5 prog w) A (.compLoop (.ListComp V [#[y,Z,U,0]] d pos) 0 it q env) R s:=by
 refine codeAny_loop rfl I (λn s G=>?_) n h;show ko _ A ((compTurn (.ListComp V [#[y,Z,U,0]] d pos) 0 it q env).onRaise (λx=>do noteFrame x env;theTreesLotGoes x)) _ _ s;refine wpAny_noted ?_;rw[compTurn_list];refine QC (QBk (QC (qu (W n s G) (λr k o=>?_) λ_ _ a=>a.elim)));cases r with
 |none=>exact QK o|some v =>
  refine QC (qu o (λ_ u p=>?_) λ_ _ a=>a.elim);refine QC (qu p (λ_ f F=>QC (qu F (λok z i=>?_) λ_ _ a=>a.elim)) λ_ _ a=>a.elim);cases ok with|false=>exact QK #[rfl,i]|true=>exact QC (QC (qu i (λx e E=>QC (qu E (λ_ b C=>QK (QK #[rfl,C])) λ_ _ a=>a.elim)) λ_ _ a=>a.elim))
def N2(B:TI)(g:TG)(tc:TT)(te:TE)(k:Nat)(j:List Bool):TE:=λa H Q=>B a H λJ q=>∃W:Nat->Nat->LV->St->Hp->Prop,(∃m,W 0 m [] (NI k j a) q) /\
 ∀i m h v u,W i m h v u->(J.stop i u/\h.9<=kt/\∀p,u p=kf->Q (.ref p) (pA u p (.lst h))) ∨
  (J.go i u/\∀x f,J.yld i u x f->g x v f λz o=>tc z o λb e=>if b=kd then te z e λy n=>h.9<kt/\∃w,w < m/\W (i+1) w (h++[y]) z n else ∃w,w < m/\W (i+1) w h z e)
def Ds(X:Cx)(l:PB)(H:Hp)(s:ku)(C:k0):Prop :=
 H C=kf/\C≠X.env.locals/\X.s₀.1.1.size<=C/\(∀x c,X.env.cells.lookup x=kv c->c≠C)/\(∀p∈X.pn++l,p.1≠C)/\∃m,s.1.Ns C m
theorem XT{pos':Pos}{use:Option (kn->Sem Unit)}(hc:X.calm=kd)(hi:PI X K Z B)(C:CompSt X.N X.env.scope d Y j)
  (inner:∀s H ex,PG (SA X d Y j s H ex) K g/\Ir (SA X d Y j s H ex) U tc/\PE (SA X d Y j s H ex) V te)
  (hs:∀x,gp Z X.env x=rk x) {σ:St}{H:Hp}{Q:VK}{QQ:cC}(I:Inv X l σ H s) (h:N2 B g tc te Y.9 j σ H Q)
  (fin:∀(D:k0) (f:Hp) (s6:ku) (F:k0),Inv X l σ f s6->Ds X l f s6 F->Q (.ref D) f->compPost (k5 X.prog X.w) X.A X.xe use QQ (.ref D) F (.ok .next) s6) :
  ko (k5 X.prog X.w) X.A (ni (.ListComp V [#[K,Z,U,0]] d pos) d X.env pos' (newList []) kb (Gz Z X.env) use) QQ X.xe s:=by
 refine wpAny_comprehension_free (use:=use) rfl hs (JW (C.cells I.ok)) C.kind C.names (OB (hi l s σ H _ I h) λv s1 h1=>OB h1 λitv s2 h2=>?_);let#[it,a,tn,J,E,e,I2,T,st2,f2,W,#[m0,w0],turn]:=h2;subst e;refine Qz ?_;have I3:Inv X l σ E { s2 with heap:=s2.1.push { cls:=.type "list",data:=.seq ([]:LW).toArray } }:=I2.kept (t':=s2.toks) λb o e=>QH _ e;generalize hS:({ s2 with heap:=s2.1.push { cls:=.type "list",data:=.seq ([]:LW).toArray } }:ku)=s3 at I3;have sz3:s3.1.1.size=s2.1.1.size+1:=by rw[<- hS];exact WK ..
 have lst3:s3.1.PlainList s2.1.1.size ([]:LW).toArray:=#[0,by rw[<- hS];exact QO _ rfl]
 have old3:∀b o,s2.1.get? b=kv o->s3.1.get? b=kv o:=λb o e=>by rw[<- hS];exact QH _ e
 generalize hDd:s2.1.1.size=D at sz3 lst3;have fD:nJ X l E D:=by rw[<- hDd];exact I2.fpOk (QT _) (I2.hok.fresh (QT _))
 have fpl:∀b∈a,b<D:=λb hb=>by let#[o,e,_]:=T.obj _ _ st2 b hb;rw[<- hDd];exact QV e
 have hex:∀b∈D::a,nJ X l E b/\b<s3.1.1.size:=λb hb=>by rcases QM.mp hb with z|z;subst z;exact#[fD,by rw[sz3];exact Nat.lt_succ_self _];exact#[f2 b z,by rw[sz3];exact WD (fpl b z)]
 refine QBG C.nocell (by intro y hy;simp at hy) (λh' hn hsb=>?_) C.kind;have J0:Inv (SA X d Y j s3 E (D::a)) [] (NI Y.9 j σ) E { s3 with heap:=h',toks:=s3.toks+([]:List (Str×kn)).9 }:=aW I3 C hex hn hsb;have kept:∀b u,s3.1.get? b=kv u->h'.get? b=kv u:=λb u e=>hsb.extBut b u (Qj (QV e)) (QH _ e);let#[pg,pf,pl]:=inner s3 E (D::a);have loop:∀s4:ku,s4={ s3 with heap:=h',toks:=s3.toks+([]:List (Str×kn)).9 } ->
   lw (k5 X.prog X.w) X.A (.compLoop (.ListComp V [#[K,Z,U,0]] d pos) 0 (.ref it) (.ref D) (compEnvC d (RN X.env d.names []) s3.1.1.size X.env))
    (compPost (k5 X.prog X.w) X.A X.xe use QQ (.ref D) s3.1.1.size) s4:=by
  rintro s4 rfl;have exok:∀{f:Hp},(∀b∈D::a,f b=kf)->∀(pp:PB),(∀p∈pp,p.1∉a)->∀b∈a,nJ (SA X d Y j s3 E (D::a)) pp f b:=λ{f} hn pp hpp b hb=>by have g:=J0.ok.exf b (QD _ hb);exact#[hn b (QD _ hb),g.1,J0.ok.exfs b (QD _ hb),.inl (QD _ hb),g.2,λp G z=>hpp p (by simpa[SA]using G) (z▸hb)]
  have DX:=J0.ok.exf D QF;have Dfp:D∉a:=λz=>wC _ (fpl D z);refine jH (λn M=>∃i m f L k,Inv (SA X d Y j s3 E (D::a)) [] m f M/\tn i M.1/\(∀b∈D::a,f b=kf)/\sA L k/\M.1.PlainList D k.toArray/\W i n L m f) ?_ m0
   #[0,_,E,[],[],J0,T.keep _ _ _ (T.keep _ _ _ st2 λb hb o e=>old3 b o e) λb hb o e=>kept b o e,λb hb=>((hex b hb).1).1,.nil,lst3.at λo e=>kept _ _ e,w0]
  rintro n s5 ⟨i,P,H5,L,k,I5,st5,fr5,va5,ls5,w5⟩;let#[R,lo]:=id ls5;have pinD:∀{m:St}{f:Hp}{M:ku},Inv (SA X d Y j s3 E (D::a)) [] m f M->(∀b∈D::a,f b=kf)->M.1.get? D=kv { cls:=.type "list",dict:=kf,data:=.seq k.toArray R } ->
    Inv (SA X d Y j s3 E (D::a)) [(D,{ cls:=.type "list",dict:=kf,data:=.seq k.toArray R })] m f M:=λ{m f M} I' fr' e' =>
   I'.pins_of λp G=>by
    have e:p=(D,{ cls:=.type "list",dict:=kf,data:=.seq k.toArray R }):=by simpa using G
    subst e;exact#[e',fr' D QF,DX.1,J0.ok.exfs D QF,λv z=>by cases z]
  have S:∀p∈[(D,({ cls:=.type "list",dict:=kf,data:=.seq k.toArray R }:Obj))],p.1∉a:=λp G=>by
   have e:p=(D,{ cls:=.type "list",dict:=kf,data:=.seq k.toArray R }):=by simpa using G
   subst e;exact Dfp
  have I5':=pinD I5 fr5 lo;rcases turn i n L P H5 w5 with⟨stop,hz,qn⟩| ⟨go,step⟩
  refine OB (T.done (SA X d Y j s3 E (D::a)) rfl rfl rfl hc i _ s5 P H5 (λ_ _=>False) I5' (exok fr5 _ S) st5 stop) λr s6 #[hr,I6]=>?_;subst hr;let#[m6,hn6,_]:=I6.loc;have l6:s6.1.PlainList D k.toArray:=#[R,(I6.pin _ (Qa _ (QI.mpr rfl))).1]
  have I6':Inv (SA X d Y j s3 E (D::a)) [] P H5 s6:=I6.pins_of λp G=>by simp at G
  have Iout:Inv X l σ (pA H5 D (.lst L)) s6:=eW I3 hex QF I6' (fr5 D QF) va5 hz l6 (qV.refl _ _);have lC:H5 s3.1.1.size=none:=I6'.free;refine fin D _ s6 s3.1.1.size Iout #[?_,wy I3.lt,I3.sz,λx c e z=>?_,λp G z=>?_,m6,hn6] (qn D (fr5 D QF));rw[jA (λ(z:s3.1.1.size=D)=>Uz (hex D QF).2 (by rw[z];exact wC _))];exact lC;let#[v,q]:=I3.cell x c e;exact Uz q.lt (by rw[z];exact wC _);exact Uz (QV (I3.pin p G).1) (by rw[z];exact wC _);refine OB (T.item (SA X d Y j s3 E (D::a)) rfl rfl rfl hc i _ s5 P H5 (λ_ _=>False) I5' (exok fr5 _ S) st5 go) λr s6 #[u,hr,h6]=>?_;subst hr;refine OB h6 λ_ s7 #[x,H7,I7,r7,y7,st7,fr7]=>?_;have hD7:=(I7.pin _ (Qa _ (QI.mpr rfl)))
  have fr7':∀b∈D::a,H7 b=none:=λb hb=>by rcases QM.mp hb with z|z;subst z;exact hD7.2.1;exact fr7 b z
  have I7':=I7.pinned (exok fr7' _ S) (T.obj _ _ st7);have bk:∀{m:St}{f:Hp}{M:ku},Inv (SA X d Y j s3 E (D::a)) ([(D,{ cls:=.type "list",dict:=kf,data:=.seq k.toArray R })]++uM a s7.1) m f M ->
    M.1.get? D=kv { cls:=.type "list",dict:=kf,data:=.seq k.toArray R }/\tn (i+1) M.1/\(∀b∈D::a,f b=kf):=λ{m f M} I'=>by
   have hD:=I'.pin (D,{ cls:=.type "list",dict:=kf,data:=.seq k.toArray R }) (Qa _ (Qp _ (QI.mpr rfl)));refine#[hD.1,T.keep _ _ _ st7 λb hb o e=>(I'.pin (b,o) (Qa _ (Qa _ (kF hb e)))).1,λb hb=>?_];rcases QM.mp hb with z|z;subst z;exact hD.2.1;let#[o,e,_]:=T.obj _ _ st7 b z;exact(I'.pin (b,o) (Qa _ (Qa _ (kF z e)))).2.1
  refine OB (pg _ s7 P H7 x u _ I7' r7 (step x H7 y7)) λ_ s8 #[O,H8,I8,q8]=>?_;refine OB (pf _ s8 O H8 _ I8 q8) λok s9 #[H9,I9,q9]=>?_;cases ok with
  |false=>let#[m',hm,w']:=q9;let#[b1,b2,b3]:=bk I9;exact#[m',hm,i+1,O,H9,L,k,I9.pins_of λp G=>by simp at G,b2,b3,va5,#[R,b1],w']|true =>
   refine OB (pl _ s9 O H9 _ I9 q9) λy s10 #[yv,H10,I10,r10,hz,m',hm,w']=>?_;let#[b1,b2,b3]:=bk I10;have hlen:=va5.9;refine wpAny_list_append_plain (hsz:=by rw[QN];omega) (show s10.1.PlainList D k.toArray from#[R,b1]) λh11 hl11 hs11=>?_;refine#[m',hm,i+1,O,H10,L++[yv],k++[y],?_,T.keep _ _ _ b2 λb hb o e=>(hs11.2 b (λz=>Dfp (z▸hb))).trans e,b3,va5.append (.cons r10 .nil),by simpa using hl11,w'];have I10':Inv (SA X d Y j s3 E (D::a)) [] O H10 s10:=I10.pins_of λp G=>by simp at G
   exact I10'.turned (t':=s10.toks) (λb o hb e=>(hs11.2 b hb).trans e) (b3 D QF) DX.1 (.inl QF) DX.2 λp G=>by simp[SA]at G
 refine codeAny_compStart_list (loop _ rfl) (T.self X.A 0 _ _ _ (T.keep _ _ _ (T.keep _ _ _ st2 λb hb o e=>old3 b o e) λb hb o e=>kept b o e) (loop _ rfl))
theorem DM{σ:St}{H:Hp}{F:k0}(I:Inv X l σ H s)(f:Ds X l H s F){h':v5}(h:qV F s.1 h'):Inv X l σ H { s with heap:=h' }:=by let#[v,u,z,y,x,_]:=f;exact I.turned (t':=s.toks) (λb o hb e=>(h.2 b hb).trans e) v u (.inr z) y x
theorem Fa(hc:X.calm=kd)(w:PI X K Z B)(C:CompSt X.N X.env.scope d Y j)
  (y:∀s H ex,PG (SA X d Y j s H ex) K g/\Ir (SA X d Y j s H ex) U tc/\PE (SA X d Y j s H ex) V te)
  (u:∀x,gp Z X.env x=rk x:=by intro _;rfl):PE X (.ListComp V [#[K,Z,U,0]] d pos) (N2 B g tc te Y.9 j):=by
 intro l s b H Q I h;rw[eval_ListComp];refine XT hc w C y u I h λD a e F k f q=>?_;let#[m,v]:=f.2.2.2.2.2;exact#[m,v,λi z=>#[.ref D,a,DM k f z,rfl,q]]
theorem ca{cpos u:Pos}{i:Nat}{x:Str}(hc:X.calm=kd)(S:X.N.Nodup)(n:X.N[i]?=kv x)(p:X.env.scope.names.lookup x=kv .local)
  (Q:PI X K Z B) (C:CompSt X.N X.env.scope d Y j)
  (y:∀s H ex,PG (SA X d Y j s H ex) K g/\Ir (SA X d Y j s H ex) U tc/\PE (SA X d Y j s H ex) V te)
  (M:∀x,gp Z X.env x=rk x) (k:Cz (.ListComp V [#[K,Z,U,0]] d cpos) (kv (.Name x u)) pos.line X.env=rk kd) :
  PS X (.Assign [.Name x u] (.ListComp V [#[K,Z,U,0]] d cpos) pos) (Rh (N2 B g tc te Y.9 j) (yY i)):=by
 intro l s σ H D0 I h;rw[exec_Assign_Name_used _ _ _ _ k];refine QC (QBk (QC ?_));show ko _ X.A (do let _ <- ni (.ListComp V [#[K,Z,U,0]] d cpos) d X.env _ (newList []) kb (Gz Z X.env) (kv (d8 (.Name x u) X.env))) _ _ s;refine QC (qu (XT (use:=kv (d8 (.Name x u) X.env)) (QQ:=λ_ o=>SP X l D0 .next o) hc Q C y M I h λD H' J F I6 f q=>?_) (λ_ o O=>QK (QK O)) λ_ _ e=>e);show ko _ X.A (d8 (.Name x u) X.env (.ref D)) _ _ J;refine QBw (fO I6 S n (.inl p) (v:=.ref D) rfl (λG I7 #[a,E,R]=>?_) (.inr p));let#[f0,W,f2,r,f4,m,P]:=f;have L:F≠a:=by rcases R with z|z;rw[z];exact W;exact λe=>r x a z e.symm
 have w:G.1.Ns F m:=P.sameBut E L;exact#[m,w,λh' b=>#[_,H',DM I7 #[f0,W,f2,r,f4,m,w] b,q]]
end
end L2
namespace L2.L3
open PySem PySem.Spec PyProof.Rows
def bp(K:QA):R2:=λx y H Q=>match x,y with
 | .int i,.int j=>Q (.int (i+j)) H|.str a,.str b=>a.9+b.9<=kt/\Q (.str (a++b)) H|.ref a,.ref b=>∃z h,jC K H a z/\jC K H b h/\z.9+h.9<=kt/\∀p,H p=kf->Q (.ref p) (pA H p (.lst (z++h)))|_,_=>False
noncomputable def Po:R2:=λx y H Q=>match x,y with
 | .int i,.int j=>Q (.int (i - j)) H|_,_=>False
def ZJ(x:Str)(n:Int):Str:=Txt.mul x n
noncomputable def Ao(K:QA):R2:=λx y H Q=>match x,y with
 | .int i,.int j=>Dz i j/\Q (.int (i * j)) H|.str a,.int k=>(-(2 ^ 31)<=k/\k<2 ^ 31/\a.9 * k.toNat<=kt)/\Q (.str (ZJ a k)) H|_,_=>False
noncomputable def Ye:R2:=λx y H Q=>match x,y with
 | .int i,.int j=>(0<j/\j<2 ^ 200)/\Q (.int (i / j)) H|_,_=>False
noncomputable def Eo:R2:=λx y H Q=>match x,y with
 | .int i,.int j=>0<j/\Q (.int (i % j)) H|_,_=>False
section
variable{X:Cx}
theorem op_add:SE X (hZ .Add) (bp X.K):=by
 intro w s n H x y v u Q I g f h;cases x with
 |int i =>
  cases y with|int j=>exact _root_.L2.op_add w s n H _ _ v u Q I g f #[i,j,rfl,rfl,h]|_=>exact Qc h
 |str a =>
  cases y with|str b=>exact uV w s n H _ _ v u Q I g f #[a,b,rfl,rfl,h.1,h.2]|_=>exact Qc h
 |ref a =>
  cases y with
  |ref b =>
   let#[xs,ys,N,M,hz,q]:=h;cases g;cases f;let#[k,r,#[#[S,R,A,G],L,W,E,d1,p],z1]:=I.list N;let#[z,Y,#[#[B,l,m,e],J,Z,C,d2,o],z2]:=I.list M;simp only at E p C o;subst E p C o;have hl:=r.9;have O:=Y.9;refine concat_meets #[_,W,rfl] #[_,Z,rfl] noFill_list_add seq_list_add PySem.F.slot_list_add PySem.F.entry_list_add (PySem.F.args_list_add_2 _ _) (list_addW a b k.toArray z.toArray L J R l G e (by simp;omega)) #[W,Z,?_];have P:k.toArray++z.toArray=(k++z).toArray:=by simp
   rw[P];exact#[.ref _,_,I.lnew (t':=s.toks) (r.append Y) (by rw[QJ];omega),rfl,q _ I.fresh]
  |_=>exact Qc h
 |_=>exact Qc h
theorem op_sub:SE X (hZ .Sub) Po:=by
 intro z s w H x y v u Q I a k h;cases x with
 |int i =>
  cases y with|int j=>exact _root_.L2.op_sub z s w H _ _ v u Q I a k #[i,j,rfl,rfl,h]|_=>exact Qc h
 |_=>exact Qc h
theorem Ta:SE X (hZ .FloorDiv) Ye:=by
 intro z s a H x y v u Q I k w h;cases x with
 |int i =>
  cases y with
  |int j =>
   let#[t,rfl]:=k;let#[b,rfl]:=w;let#[#[f,e],q]:=h;refine floordiv_int () ?_ (.inl (PyProof.noPylong_of_log2 ?_));rw[Int.fdiv_eq_ediv_of_nonneg i ()];exact#[.int _,H,I.tok _,#[_,rfl],q];have:j.natAbs<2 ^ 200:=()
   have:=(Nat.log2_lt (show j.natAbs≠0 by omega)).mpr this;omega
  |_=>exact Qc h
 |_=>exact Qc h
theorem op_mod:SE X (hZ .Mod) Eo:=by
 intro z s w H x y v u Q I a k h;cases x with
 |int i =>
  cases y with|int j=>exact _root_.L2.op_mod z s w H _ _ v u Q I a k #[i,j,rfl,rfl,h.1,h.2]|_=>exact Qc h
 |_=>exact Qc h
theorem kj:SE X (hZ .Mult) (Ao X.K):=by
 intro g s n H x y v u Q I f w h;cases x with
 |int i =>
  cases y with|int j=>let#[t,rfl]:=f;let#[z,rfl]:=w;exact mul_int #[.int _,H,I.tok _,#[_,rfl],h.2] h.1|_=>exact Qc h
 |str a =>
  cases y with
  |int k =>
   let#[t,rfl]:=f;let#[z,rfl]:=w;let#[#[Y,r,p],q]:=h;refine SB.mul #[?_,λ_ _=>?_,λ_ _=>?_] λz o=>#[.str (ZJ a k),H,I.tok _,#[_,rfl],q]
   have m:decide (k < -(2 ^ 63:Int))=false:=dF ();have l:decide (k ≥ 2 ^ 63)=false:=dF ();rw[m,l];rfl;have e:(a.9:Int) * k=((a.9 * k.toNat:Nat):Int):=by rw[Int.natCast_mul,Int.toNat_of_nonneg ()]
   have:=Int.le_ediv_of_mul_le (a:=(a.9:Int)) (b:=2 ^ 63 - 1) (c:=k) () (by rw[e];omega);omega;unfold Builtin.Str.tooLong;exact dF ()
  |_=>exact Qc h
 |_=>exact Qc h
end
end L2.L3
namespace L2
open PySem PySem.Spec PyProof.Rows
section
variable{x:Type}[DecidableEq x]
section
variable{p:x×V}{r kvs:List (x×V)}{vs:List (x×kn)}{u:kn}
noncomputable def ZL(kvs:List (x×V))(k:x):Option V:=(kvs.find? λh=>decide (h.1=k)).map (·.2)
noncomputable def EU(kvs:List (x×V))(k:x)(v:V):List (x×V) :=
 if(kvs.any λh=>decide (h.1=k))=kd then kvs.map (λh=>if h.1=k then(h.1,v) else h) else kvs++[(k,v)]
theorem JL{k:x}(e:p.1=k):ZL (p::r) k=kv p.2:=by simp[ZL,wK,e]
theorem YL{k:x}(e:¬ p.1=k):ZL (p::r) k=ZL r k:=by simp[ZL,wK,e]
theorem XR(k:x):∀kvs:List (x×V),(kvs.any λh=>decide (h.1=k))=(ZL kvs k).isSome
 |[]=>rfl|p::r=>by rw[WC];by_cases e:p.1=k;simp only[JL e,dT e,QCE,Option.isSome_some];rw[YL e,dF e,QAk];exact XR k r
theorem NS(kvs:List (x×V))(k:x)(v:V):(EU kvs k v).9<=kvs.9+1:=by unfold EU;split;rw[QE];omega;rw[QJ,QL,qY];omega
theorem gU.isSome_eq{o:Option V}{u:Option kn}(r:gU o u):o.isSome=u.isSome:=by
 cases o with
 |none=>cases u with|none=>rfl|some _=>exact(show False from r).elim
 |some _=>cases u with|none=>exact(show False from r).elim|some _=>rfl
theorem KV.val(r:KV kvs vs)(k:x):gU (ZL kvs k) (Ez vs k):=by
 unfold KV at r;induction r with
 |nil=>exact True.intro|@cons p q g y h t a =>
  let#[w,f]:=h;by_cases e:p.1=k;have v:q.1=k:=w.symm.trans e;have b:Ez (q::y) k=kv q.2:=by simp[Ez,wK,v]
  rw[JL e,b];exact f;have v:¬ q.1=k:=λz=>e (w.trans z);have b:Ez (q::y) k=Ez y k:=by simp[Ez,wK,v]
  rw[YL e,b];exact a
theorem KV.any(r:KV kvs vs)(k:x):(kvs.any λy=>decide (y.1=k))=vs.any λy=>decide (y.1=k):=by
 unfold KV at r;induction r with|nil=>rfl|cons h t z=>rw[WC,WC,z,h.1]
theorem KV.repl(r:KV kvs vs)(k:x){y:V}(a:VA y u) :
  KV (kvs.map λv=>if v.1=k then(v.1,y) else v) (vs.map λv=>if v.1=k then(v.1,u) else v):=by
 unfold KV at r ⊢;induction r with|nil=>exact .nil|@cons p q i g h t b=>rw[QU,QU];refine .cons ?_ b;let#[w,f]:=h;by_cases e:p.1=k;rw[t6 e,t6 (w.symm.trans e)];exact#[w,a];rw[t3 e,t3 (λz=>e (w.trans z))];exact#[w,f]
theorem KV.put(r:KV kvs vs)(k:x){y:V}(h:VA y u):KV (EU kvs k y) (stored vs k u):=by unfold EU stored;rw[r.any k];by_cases e:(vs.any λz=>decide (z.1=k))=kd;rw[t6 e,t6 e];exact r.repl k h;rw[t3 e,t3 e];exact Paired.snoc r #[rfl,h]
theorem KV.length(r:KV kvs vs):kvs.9=vs.length:=qC r
end
end
theorem UM{P:vx}{w:v8}{k:Key}{u:kn}(r:VA (kV k) u):(xE P w).is k u=true:=by
 cases k with|inl i=>let#[t,e]:=(show ∃t,u=Value.int i t from r);subst e;exact US P w i t|inr x=>let#[t,e]:=(show ∃t,u=Value.str x t from r);subst e;exact XS P w x t
end L2
namespace L2.L3
open PySem PySem.Spec PyProof.Rows
section
variable{r kvs:List KE}{xs:List (NK×k0×kn)}
noncomputable abbrev KE:=NK×k0×V
noncomputable def AG(kvs:List KE)(k:NK):Option V:=(kvs.find? λp=>decide (p.1=k)).map (·.2.2)
def TL(kvs:List KE)(k:NK)(b:k0)(v:V):List KE :=
 if(AG kvs k).isSome=kd then kvs.map (λp=>if p.1=k then(p.1,p.2.1,v) else p) else kvs++[(k,b,v)]
noncomputable abbrev KD:List KE->List (NK×k0×kn)->Prop:=y0 λ(p:NK×k0×V) (q:NK×k0×kn)=>p.1=q.1/\p.2.1=q.2.1/\VA p.2.2 q.2.2
theorem UR{p:KE}{k:NK}(e:p.1=k):AG (p::r) k=kv p.2.2:=by simp[AG,wK,e]
theorem BR{p:KE}{k:NK}(e:¬ p.1=k):AG (p::r) k=AG r k:=by simp[AG,wK,e]
theorem KD.val(r:KD kvs xs)(k:NK):gU (AG kvs k) ((d7 xs k).map (·.2)):=by
 induction r with
 |nil=>exact True.intro|@cons p q a x h t v =>
  let#[u,_,w]:=h;by_cases e:p.1=k;have y:q.1=k:=u.symm.trans e;have b:d7 (q::x) k=kv q.2:=by simp[d7,wK,y]
  rw[UR e,b];exact w;have y:¬ q.1=k:=λz=>e (u.trans z);have b:d7 (q::x) k=d7 x k:=by simp[d7,wK,y]
  rw[BR e,b];exact v
theorem KD.put(r:KD kvs xs)(k:NK)(b:k0){y:V}{u:kn}(v:VA y u):KD (TL kvs k b y) (p6 xs k b u):=by
 have e:(AG kvs k).isSome=(d7 xs k).isSome:=by rw[(r.val k).isSome_eq,QAg]
 unfold TL p6;rw[e];by_cases q:(d7 xs k).isSome=kd;rw[t6 q,t6 q];clear e q;induction r with|nil=>exact .nil|@cons p q i g h t a=>rw[QU,QU];refine .cons ?_ a;let#[x,w,f]:=h;unfold putAt;by_cases e:p.1=k;rw[t6 e,t6 (x.symm.trans e)];exact#[x,w,v];rw[t3 e,t3 (λz=>e (x.trans z))];exact#[x,w,f]
 rw[t3 q,t3 q];exact Paired.snoc r #[rfl,rfl,v]
theorem OS(kvs:List KE)(k:NK)(b:k0)(v:V):(TL kvs k b v).9<=kvs.9+1:=by unfold TL;split;rw[QE];omega;rw[QJ,QL,qY];omega
end
mutual
def Zm(K:QA)(H:Hp):NK->V->Prop
 | .s x,v=>v=.str x|.t ks,v=>∃a h,v=.ref a/\xD K H a h/\KyVs K H ks h
def KyVs(K:QA)(H:Hp):List NK->LV->Prop
 |[],xs=>xs=[]|k::ks,xs=>∃x r,xs=x::r/\Zm K H k x/\KyVs K H ks r
end
def vO(K:QA)(H:Hp)(b:k0)(k:NK):Prop:=Zm K H k (.ref b)/\T5 k<=6
theorem JI{P:vx}{w:v8}{A:Xz}(h:A.units+60<Z1):(zF P w).room A.in1:=by show A.in1.units+8<Z1;rw[QAs];omega
def iG(K:QA)(H:Hp)(kvs:List KE):Prop:=∀p∈kvs,vO K H p.2.1 p.1
theorem Inv.big{X:Cx}{x:PB}{σ:St}{H:Hp}{s:ku}(I:Inv X x σ H s):y1<s.1.1.size:=by have h:Vz<s.1.1.size:=(I.mod.glob.keeps I.bk).lt;exact Nat.lt_trans (by decide) h
section
variable{X:Cx}{y:PB}{σ:St}{H:Hp}{s:ku}{a b:k0}
mutual
theorem iq(I:Inv X y σ H s):∀{k:NK}{x:V}{u:kn},Zm X.K H k x->VA x u->L0 s.1 k u
 | .s z,x,u,e,r=>by cases(show x=.str z from e);exact r|.t ks,x,u,#[a,xs,e,q,p],r=>by subst e;cases r;let#[h,v,#[o,g,f,n,w],_]:=I.tuple q;exact#[a,h.toArray,rfl,#[o,g,f,n,w],by simpa using ky_vs I p v]
theorem ky_vs(I:Inv X y σ H s):∀{ks:List NK}{xs:LV}{us:LW},KyVs X.K H ks xs->sA xs us->NKvs s.1 ks us
 |[],xs,us,e,r=>by cases(show xs=[] from e);cases r;rfl|k::ks,xs,us,#[x,r,e,p,q],rv=>by
  subst e;cases rv with|cons h t=>exact#[_,_,rfl,iq I p h,ky_vs I q t]
end
theorem ES{k:NK}(I:Inv X pins σ H s)(h:vO X.K H b k):(zF X.prog X.w).is s.1 k b:=#[iq I h.1 rfl,h.2]
theorem ZK{ep:Nat}{kvs:List KE}(I:Inv X pins σ H s)(e:H a=kv (.dT ep kvs))(hk:iG X.K H kvs):kvs.9<=kt/\(a==y1)=kb/\∃xs,KD kvs xs/\s.1.DictOfH (zF X.prog X.w) a xs:=by
 let#[z,y,xs,r,o,l,j,i,g,k,v]:=(show GA X.prog X.w H s.1 a (.dT ep kvs) from I.hok a _ e)
 refine#[z,y,xs,r,o,l,ep,j,i,g,k,?_,v];clear k v z e;induction r with
 |nil=>intro x h;exact nomatch h
 |@cons p q n m u t b=>intro x h;rcases QM.mp h with e|h;subst e;rw[<- u.1,<- u.2.1];exact ES I (hk p QF);exact b (λp f=>hk p (QD _ f)) x h
theorem ZT{kvs:List (Key×V)}(I:Inv X pins σ H s)(e:H a=kv (.dK kvs)):kvs.9<=kt/\(a==y1)=kb/\∃vs,KV kvs vs/\s.1.DictOf (xE X.prog X.w) a vs :=
 show GA X.prog X.w H s.1 a (.dK kvs) from I.hok a _ e
end
theorem L7{X:Cx}{h:PB}{σ:St}{H:Hp}{s:ku}{a:k0}{ep:Nat}(I:Inv X h σ H s)(e:H a=kv (.dT ep [])):(a==y1)=kb/\s.1.DictOf (xE X.prog X.w) a []:=by
 let#[z,y,g,r,o,f,b,k,v,u,i]:=(show GA X.prog X.w H s.1 a (.dT ep []) from I.hok a _ e)
 cases r;have x:f=#[]:=by apply WL.mp;simpa using u
 subst x;exact#[y,o,#[],ep,b,k,v,λe x=>by simp at x,.nil,Q1]
def kD:Key->xk
 | .inl i=>.int i|.inr x=>.str x
mutual
def tD:NK->xk
 | .s x=>.str x|.t h=>.tuple (tDs h)
def tDs:List NK->List xk
 |[]=>[]|k::ks=>tD k::tDs ks
end
theorem G6{a b:Key}(e:kD a=kD b):a=b:=by
 cases a with
 |inl i=>cases b with|inl j=>injection e with e;rw[e]|inr y=>exact nomatch (show j5 i=j3 y from e)
 |inr x=>cases b with
  |inl j=>exact nomatch (show j3 x=j5 j from e)
  |inr y=>injection e with e;rw[e]
mutual
theorem MU:∀{a b:NK},tD a=tD b->a=b
 | .s x,.s y,e=>by rw[PyData.str.inj e]|.s x,.t l,e=>QBq e|.t k,.s y,e=>QBq e|.t k,.t l,e=>by rw[tDs_inj (PyData.tuple.inj e)]
theorem tDs_inj:∀{a b:List NK},tDs a=tDs b->a=b
 |[],[],_=>rfl|[],_::_,e=>(nomatch e)
 |_::_,[],e=>(nomatch e)
 |x::xs,y::ys,e=>by have e:tD x::tDs xs=tD y::tDs ys:=e;injection e with e1 e2;rw[MU e1,tDs_inj e2]
end
def zK(K:QA)(H:Hp)(b:Bool)(o:HO)(ks:List xk)(vs:LV):Prop:=match b with
 |true=>∃x,∃h:List KE,o=.dT x h/\ks=h.map (λp=>tD p.1)/\vs=h.map (·.2.2)/\iG K H h/\(h.map (·.1)).Nodup|false=>(∃h:List (Key×V),h≠[]/\o=.dK h/\ks=h.map (λp=>kD p.1)/\vs=h.map (·.2)/\(h.map (·.1)).Nodup)∨∃x,o=.dT x []/\ks=[]/\vs=[]
theorem zK.len{K:QA}{H:Hp}{b:Bool}{o:HO}{ks:List xk}{vs:LV}(h:zK K H b o ks vs):ks.9=vs.length:=by
 cases b with|true=>let#[y,x,_,rfl,rfl,_]:=h;simp|false=>rcases h with⟨x,_,_,rfl,rfl,_⟩| ⟨_,_,rfl,rfl⟩<;>simp
def nR(K:QA)(H:Hp)(a:k0)(y:V)(r:Option V):Prop:=match y with
 | .str z=>(∃h,H a=kv (.dK h)/\r=ZL h (.inr z))∨∃x,H a=kv (.dT x [])/\r=kf|.ref b=>∃x h k,H a=kv (.dT x h)/\iG K H h/\vO K H b k/\r=AG h k|_=>False
def Cm(K:QA)(H:Hp)(a:k0)(y v:V)(Q:Hp->Prop):Prop:=match y with
 | .str z=>(∃h,H a=kv (.dK h)/\h.9<kt/\Q (pA H a (.dK (EU h (.inr z) v))))∨∃u,H a=kv (.dT u [])/\Q (pA H a (.dK [(.inr z,v)]))|.ref b=>∃u h k,H a=kv (.dT u h)/\iG K H h/\vO K H b k/\h.9<kt/\∀x,Q (pA H a (.dT x (TL h k b v)))|_=>False
theorem rO{v:V}{o:Option kn}(r:gU (kv v) o):∃w,o=kv w/\VA v w:=by
 cases o with|none=>exact(show False from r).elim|some w=>exact#[w,rfl,r]
section
variable{X:Cx}
section
variable{c:PB}{s:ku}{σ:St}{H:Hp}{a:k0}{u:kn}{o:Option V}{h':v5}{pos:Pos}
theorem cc(P:X.A.units+66<Z1):L8 X (λx y H Q=>∃a v,x=.ref a/\nR X.K H a y (kv v)/\Q v H):=by
 intro n Y c s σ H x y v u Q I J C h E;let#[a,r,rfl,g,q]:=h;cases J;cases y with
 |str z =>
  rcases g with⟨W,e,l⟩| ⟨N,e,l⟩
  rotate_left
  cases l;let#[_,M,G,f,m]:=ZT I e;let#[i,B,w]:=rO (v:=r) (o:=Ez G (.inr z)) (by rw[l];exact f.val _);exact qg (x:=i) m.typeIs QAY.lookup
   (wpAny_getItem_of (Q:=λr Z=>r=i/\EP X c σ Q r Z) (UM (k:=.inr z) C) m.mapOf B #[rfl,r,H,I.tok _,w,q]) E
 |ref b =>
  let#[N,W,k,e,hk,O,l]:=g;cases C;let#[_,M,F,f,m]:=ZK I e hk;let#[i,B,w]:=rO (v:=r) (o:=(d7 F k).map (·.2)) (by rw[l];exact f.val _);let#[p,L,j]:=Option.map_eq_some_iff.mp B;refine qg (x:=i) m.typeIs QAY.lookup
   (wpAny_getItem_heap (Q:=λr Z=>r=i/\EP X c σ Q r Z) (JI ()) (ES I O) m L ?_) E
  exact#[j,r,H,I.tok _,by rw[j];exact w,q]
 |_=>exact Qc g
theorem Yc(r:X.A.units+66<Z1){y:V}{Q:VK}(I:Inv X c σ H s)(f:VA y u)(g:nR X.K H a y o)(q:Q (.bl o.isSome) H) :
  ko (k5 X.prog X.w) X.A (vu .In u (.ref a)) (EP X c σ Q) X.xe s:=by
 cases y with
 |str z =>
  rcases g with⟨i,e,l⟩| ⟨j,e,l⟩
  rotate_left
  subst l;let#[x,v]:=L7 I e;exact wpAny_in_of (UM (k:=.inr z) f) x v.mapOf #[.bl kb,H,I.tok _,rfl,q];let#[_,x,p,h,v]:=ZT I e;refine wpAny_in_of (UM (k:=.inr z) f) x v.mapOf #[.bl o.isSome,H,I.tok _,?_,q];rw[<- (h.val (.inr z)).isSome_eq,<- l];rfl
 |ref b=>let#[j,i,k,e,hk,m,l]:=g;cases f;let#[_,x,n,h,v]:=ZK I e hk;refine wpAny_in_heap (JI ()) (ES I m) x v #[.bl o.isSome,H,I.tok _,?_,q];have q:=(h.val k).isSome_eq;rw[QAg]at q;rw[<- q,<- l];rfl|_=>exact Qc g
theorem iV(r:X.A.units+66<Z1){y:V}{Q:VK}(I:Inv X c σ H s)(f:VA y u)(g:nR X.K H a y o)(q:Q (.bl (!o.isSome)) H) :
  ko (k5 X.prog X.w) X.A (vu .NotIn u (.ref a)) (EP X c σ Q) X.xe s:=by
 cases y with
 |str z =>
  rcases g with⟨i,e,l⟩| ⟨j,e,l⟩
  rotate_left
  subst l;let#[x,v]:=L7 I e;exact Mz (UM (k:=.inr z) f) x v.mapOf #[.bl kd,H,I.tok _,rfl,q];let#[_,x,p,h,v]:=ZT I e;refine Mz (UM (k:=.inr z) f) x v.mapOf #[.bl (!o.isSome),H,I.tok _,?_,q];rw[<- (h.val (.inr z)).isSome_eq,<- l];rfl
 |ref b=>let#[j,i,k,e,hk,m,l]:=g;cases f;let#[_,x,n,h,v]:=ZK I e hk;refine wpAny_notIn_heap (JI ()) (ES I m) x v #[.bl (!o.isSome),H,I.tok _,?_,q];have q:=(h.val k).isSome_eq;rw[QAg]at q;rw[<- q,<- l];rfl|_=>exact Qc g
theorem TQ{t':Nat}{ob:HO}(I:Inv X c σ H s)(h:xn (H a))(y:qV a s.1 h')(v:∃q,h'.get? a=kv q)(new:GA X.prog X.w (pA H a ob) h' a ob) :
  Inv X c σ (pA H a ob) { s with heap:=h',toks:=t' } :=
 I.write (x:=a) (e:=a) h (.inl rfl) (λb q hb z=>(y.2 b hb).trans z) v new
theorem OM{t':Nat}{kvs:List KE}{xs:List (NK×k0×kn)}(I:Inv X c σ H s)(y:xn (H a))(k:(a==y1)=kb)(z:kvs.9<=kt)(h:KD kvs xs)
  (j:h'.DictOfH (zF X.prog X.w) a xs) (v:qV a s.1 h'):∃ep,Inv X c σ (pA H a (.dT ep kvs)) { s with heap:=h',toks:=t' }:=by
 let#[q,i,ep,x,g,f,e,_,b]:=j;exact#[ep,TQ I y v #[q,x] #[z,k,xs,h,q,i,x,g,f,e,b]]
def setD(K:QA)(o y v:V)(H:Hp)(Q:Hp->Prop):Prop:=match o with
 | .ref a=>Cm K H a y v Q|_=>False
theorem TR(M:X.A.units+66<Z1):Gd X (setD X.K):=by
 intro c s σ H o y v J L u Q I W n m h;cases o with
 |ref a =>
  cases W;cases y with
  |str z =>
   rcases h with⟨f,e,l,q⟩| ⟨B,e,q⟩
   rotate_left
   let#[i,j]:=L7 I e;refine QBV (hsz:=Qs _) (UM (k:=.inr z) n) j λh' x g=>#[_,?_,q]
   have Y:∃q,h'.get? a=kv q:=let#[q,_,_,r,_]:=x;#[q,r]
   exact TQ I (by rw[e];exact True.intro) g Y #[by simp;decide,i,_,.cons #[rfl,m] .nil,x];let#[p,i,G,w,j]:=ZT I e;have hl:(EU f (.inr z) v).9<=sizeLine:=by have:=NS f (.inr z) v;omega
   refine QBV (hsz:=by rw[<- w.9];exact p) (UM (k:=.inr z) n) j λh' x g=>#[_,?_,q]
   have Y:∃q,h'.get? a=kv q:=let#[q,_,_,r,_]:=x;#[q,r]
   exact TQ I (by rw[e];exact True.intro) g Y #[hl,i,_,w.put _ m,x]
  |ref b =>
   let#[B,f,k,e,hk,C,l,q]:=h;cases n;let#[p,i,F,w,j]:=ZK I e hk;have hl:(TL f k b v).9<=sizeLine:=by have:=OS f k b v;omega
   refine wpAny_setItem_heap (hsz:=by rw[<- qC w];exact p) (JI ()) (ES I C) j λh' x g=>?_;let#[Z,E]:=OM (t':=_) I (by rw[e];exact True.intro) i hl (w.put k b m) x g;exact#[_,E,q Z]
  |_=>exact Qc h
 |_=>exact Qc h
theorem Gf{P:vx}{w:v8}(h:v5)(hb:y1<h.1.size):GA P w H (h.push { cls:=.type "dict",data:=.dict #[] }) h.1.size (.dT 0 []) :=
 #[Qs _,beq_eq_false_iff_ne.mpr (Qm (Qj hb)),[],.nil,_,#[],QO _ rfl,#[rfl,rfl,rfl],rfl,rfl,Q1]
theorem Da:PE X (.Dict [] [] pos) (λ_ H Q=>∀p,H p=kf->Q (.ref p) (pA H p (.dT 0 []))):=λc s σ H Q I h =>
 wpAny_Dict_empty #[.ref s.1.1.size,_,I.laid (a:=s.1.1.size) (o:=.dT 0 []) (t':=s.toks) (λ_ _ q=>QH _ q) (QT _) (Gf s.1 (Inv.big I)),rfl,h _ (I.hok.fresh (QT _))]
theorem Ca(hu:X.A.units+66<Z1){k v:Expr}{l j:TE}(hk:PE X k l)(hv:PE X v j) :
  PE X (.Dict [kv k] [v] pos) (λσ H Q=>∀p,H p=kf->l σ (pA H p (.dT 0 [])) λy i=>j σ i λv h=>h p=kv (.dT 0 [])/\∃b ks,y=.ref b/\vO X.K h b ks/\∀ep,Q (.ref p) (pA h p (.dT ep [(ks,b,v)]))):=by
 intro c s σ H Q I q;have E:=I.hok.fresh (QT s.1.1.size);have N:=I.laid (a:=s.1.1.size) (o:=.dT 0 []) (h':=s.1.push { cls:=.type "dict",data:=.dict #[] }) (t':=s.toks) (λ_ _ q=>QH _ q) (QT _) (Gf s.1 (Inv.big I));refine wpAny_Dict_any rfl rfl (by simp) (by simp) (pairTrees_cons_walk (OB (hk c _ σ _ _ N (q _ E)) λu n #[y,i,M,Y,W]=>OB (hv c n σ i _ M W) λm R #[z,h,g,r,e,b,ks,G,J,Z]=>pairTrees_nil_walk ?_));subst G;cases Y;let#[S,F,P,x,L]:=ZK g e (λp C=>nomatch C);cases x;show ko _ _ (forIn [(kx b,m)] PUnit.unit _) _ _ _;rw[QAA];refine QC (QC (wpAny_dictSet_heap (hsz:=Qs _) (show X.A.units+8<Z1 by omega) (ES g J) L λh' f B=>QK ?_));show ko _ _ (forIn ([]:List (kn×kn)) _ _) _ _ _;rw[QBO];let#[w,O]:=OM (t':=_) (kvs:=[(ks,b,z)]) g (by rw[e];exact True.intro) F (by simp;decide) (.cons #[rfl,rfl,r] .nil) f B;exact QK #[.ref _,_,O,rfl,Z w]
end
end
mutual
inductive Rep(K:QA)(H:Hp):V->xk->Prop where
 |non:Rep K H .non .none
 |bl (b:Bool):Rep K H (.bl b) (.bool b)
 |int (i:Int):Rep K H (.int i) (.int i)
 |str (x:Str):Rep K H (.str x) (.str x)
 |lst {a:k0}{xs:LV}{ds:List xk}:jC K H a xs->Reps K H xs ds->Rep K H (.ref a) (.list ds)
 |tup {a:k0}{xs:LV}{ds:List xk}:xD K H a xs->Reps K H xs ds->Rep K H (.ref a) (.tuple ds)
 |dct {b:Bool}{a:k0}{o:HO}{ks:List xk}{xs:LV}{ds:List xk}:H a=kv o->zK K H b o ks xs->Reps K H xs ds->Rep K H (.ref a) (.dict (ks.zip ds))
inductive Reps(K:QA)(H:Hp):LV->List xk->Prop where
 |nil:Reps K H [] []
 |cons {x:V}{d:xk}{xs:LV}{ds:List xk}:Rep K H x d->Reps K H xs ds->Reps K H (x::xs) (d::ds)
end
section
variable{K:QA}{H:Hp}{R:LV->List xk->Prop}{xs:LV}{ds:List xk}
theorem Rep.both{P:V->xk->Prop}(z:P .non .none)(v:∀b,P (.bl b) (.bool b))(int:∀i,P (.int i) (.int i))(str:∀x,P (.str x) (.str x))
    (lst:∀{a:k0}{xs:LV}{ds:List xk},jC K H a xs->Reps K H xs ds->R xs ds->P (.ref a) (.list ds))
    (tup:∀{a:k0}{xs:LV}{ds:List xk},xD K H a xs->Reps K H xs ds->R xs ds->P (.ref a) (.tuple ds))
    (dct:∀{b:Bool}{a:k0}{o:HO}{ks:List xk}{xs:LV}{ds:List xk},H a=kv o->zK K H b o ks xs->Reps K H xs ds->R xs ds->P (.ref a) (.dict (ks.zip ds)))
    (u:R [] []) (y:∀{x:V}{d:xk}{xs:LV}{ds:List xk},Rep K H x d->Reps K H xs ds->P x d->R xs ds->R (x::xs) (d::ds)) :
    (∀{x:V}{d:xk},Rep K H x d->P x d)/\∀{xs:LV}{ds:List xk},Reps K H xs ds->R xs ds :=
  #[λh=>Rep.rec (motive_1:=λx d _=>P x d) (motive_2:=λx d _=>R x d) z v int str @lst @tup @dct u @y h,
   λh=>Reps.rec (motive_1:=λx d _=>P x d) (motive_2:=λx d _=>R x d) z v int str @lst @tup @dct u @y h]
theorem Reps.ind(z:R [] [])(y:∀{x:V}{d:xk}{xs:LV}{ds:List xk},Rep K H x d->R xs ds->R (x::xs) (d::ds))(h:Reps K H xs ds):R xs ds :=
 (Rep.both (P:=λ_ _=>True) trivial (λ_=>trivial) (λ_=>trivial) (λ_=>trivial) (λ_ _ _=>trivial) (λ_ _ _=>trivial) (λ_ _ _ _=>trivial) z λh _ _ r=>y h r).2 h
theorem Reps.length(h:Reps K H xs ds):xs.9=ds.length:=Reps.ind (R:=λxs ds=>xs.9=ds.9) rfl (λ_ e=>ak Nat.succ e) h
end
section
variable{X:Cx}{y:PB}{σ:St}{H:Hp}{s:ku}
mutual
theorem YS{h:v5}:∀{k:NK}{u:kn},L0 h k u->∃z,Reads h u (tD k) z
 | .s x,u,#[t,e]=>by subst e;exact#[_,.str x t]|.t ks,u,#[a,its,e,#[o,e1,c,n,d],q]=>by subst e;let#[z,v]:=nks_reads q;exact#[_,.tuple e1 c d v]
theorem nks_reads{h:v5}:∀{ks:List NK}{us:LW},NKvs h ks us->∃x,Bz h us (tDs ks) x
 |[],us,e=>by cases(show us=[] from e);exact#[_,.nil]|k::ks,us,#[v,r,e,p,q]=>by subst e;let#[x,u]:=YS p;let#[bs,z]:=nks_reads q;exact#[_,.cons u z]
end
section
variable{kvs:List (Key×V)}{xs:List (NK×k0×kn)}{vs:List (Key×kn)}
theorem T3(I:Inv X pins σ H s){kvs:List KE}(r:KD kvs xs)(hk:iG X.K H kvs):∃z,Bz s.1 (xs.map λx=>.ref x.2.1) (kvs.map λp=>tD p.1) z:=by
 induction r with|nil=>exact#[_,.nil]|@cons p x _ _ h t u=>let#[z,q]:=u λp v=>hk p (QD _ v);let#[bs,y]:=YS (ES I (hk p QF)).1;rw[h.2.1]at y;exact#[_,.cons y q]
theorem vS{P:vx}{w:v8}{es:List DC}(hk:KV kvs vs)(u:Pairs (xE P w) es vs):(∃v,Bz s.1 (es.map (·.key)) (kvs.map λp=>kD p.1) v)/\es.map (·.val)=vs.map (·.2):=by
 unfold KV at hk;induction hk generalizing es with
 |nil=>cases u;exact#[#[_,.nil],rfl]|cons h t e =>
  cases u with
  |cons a b c =>
   let#[#[v,q],k]:=e c;refine#[?_,by rw[QU,QU,k,b]];rw[QU,QU];rw[<- h.1]at a;rcases AA a with⟨i,t,z,y⟩| ⟨x,t,z,y⟩
   rw[z,y];exact#[_,.cons (.int i t) q];rw[z,y];exact#[_,.cons (.str x t) q]
theorem Z9{kvs:List KE}(r:KD kvs xs):sA (kvs.map (·.2.2)) (xs.map (·.2.2)):=by
 induction r with|nil=>exact .nil|cons h _ x=>exact .cons h.2.2 x
theorem Y9(r:KV kvs vs):sA (kvs.map (·.2)) (vs.map (·.2)):=by
 induction r with|nil=>exact .nil|cons h _ x=>exact .cons h.2 x
theorem SZ(I:Inv X pins σ H s){b:Bool}{a:k0}{o:HO}{ks:List xk}{xs:LV}(h:H a=kv o)(q:zK X.K H b o ks xs):∃ob es ep us,s.1.get? a=kv ob/\ob.cls=.type "dict"/\ob.dict=kf/\ob.data=.dict es ep/\(a==y1)=kb /\
  (∃j,Bz s.1 (es.toList.map (·.key)) ks j)/\sA xs us/\es.toList.map (·.val)=us:=by
 cases b with
 |true=>let#[e,kvs,rfl,rfl,rfl,hk,_]:=q;let#[_,v,f,x,ob,es,ep,k,y,w,u,_]:=ZK I h hk;refine#[ob,es,ep,_,k,y.1,y.2.1,w,v,?_,Z9 x,?_];rw[u,QX];exact T3 I x hk;rw[u,QX];rfl|false =>
  rcases q with⟨kvs,_,rfl,rfl,rfl,_⟩| ⟨e,rfl,rfl,rfl⟩
  rotate_left
  let#[_,v,f,x,ob,es,ep,k,y,w,u,_]:=ZK I h λ_ z=>nomatch z;cases x;exact#[ob,es,ep,[],k,y.1,y.2.1,w,v,#[_,by rw[u];exact .nil],.nil,by rw[u];rfl];let#[_,v,vs,x,ob,es,ep,k,y,w,_,u,_]:=ZT I h;let#[i,g]:=vS (s:=s) x u;exact#[ob,es,ep,_,k,y.1,y.2.1,w,v,i,Y9 x,g]
theorem Rep.reads2(I:Inv X pins σ H s):(∀{x:V}{d:xk},Rep X.K H x d->∀u,VA x u->∃y,Reads s.1 u d y)/\∀{xs:LV}{ds:List xk},Reps X.K H xs ds->∀us,sA xs us->∃y,Bz s.1 us ds y:=by
 refine Rep.both (P:=λx d=>∀u,VA x u->∃y,Reads s.1 u d y) (R:=λxs ds=>∀us,sA xs us->∃y,Bz s.1 us ds y) (λu r=>?_) (λb u r=>?_) (λi u r=>?_) (λx u r=>?_) (λh q v u r=>?_) (λh q v u r=>?_) (λ{b a o w xs ds} h q r v u l=>?_) (λus r=>?_) λ_ _ p m us r=>?_;cases r;exact#[_,.none];cases r;exact#[_,.bool b];let#[t,rfl]:=r;exact#[_,.int i t];let#[t,rfl]:=r;exact#[_,.str x t];cases r;let#[g,k,#[o,n,e,c,_,d],_]:=I.list h;let#[y,z]:=v _ k;exact#[_,.list e c d (by simpa using z)];cases r;let#[g,k,#[o,e,c,n,d],_]:=I.tuple h;let#[y,z]:=v _ k;exact#[_,.tuple e c d (by simpa using z)];cases l;let#[ob,L,M,us,C,B,J,A,G,#[y,W],Z,Y]:=SZ I h q;let#[bs,f]:=v _ Z;have hl:w.9=ds.length:=by rw[q.len,Reps.length r]
 have F:(w.zip ds).map (λx=>x.1)=w:=Ww (w4 hl);have E:(w.zip ds).map (λx=>x.2)=ds:=WM (w4 hl.symm);exact#[_,.dict C B A (by rw[F];exact W) (by rw[E,Y];exact f)];cases r;exact#[_,.nil];cases r with|cons r j=>let#[y,z]:=p _ r;let#[bs,f]:=m _ j;exact#[_,.cons z f]
theorem Rep.reads(I:Inv X pins σ H s){x:V}{d:xk}{u:kn}(h:Rep X.K H x d)(r:VA x u):∃y,Reads s.1 u d y:=(Rep.reads2 I).1 h u r
def ZD(d:xk):Prop:=d.canLay0=kd/\d.depth<=64
noncomputable def rEq(K:QA)(neg:Bool):R2:=λx y H Q=>match x,y with
 | .int i,.int j=>Q (.bl (if neg then !decide (i=j) else decide (i=j))) H|.str a,.str b=>Q (.bl (if neg then !decide (a=b) else decide (a=b))) H|.bl a,.bl b=>Q (.bl (if neg then !decide (a=b) else decide (a=b))) H|x,y=>∃z h,Rep K H x z/\Rep K H y h/\ZD z/\ZD h/\Q (.bl (if neg then !PyData.eqv z h else Qw z h)) H
theorem op_eq(C:X.A.units+64<Z1):SE X (vu .Eq) (rEq X.K kb):=by
 intro z s g H x y v u Q I o n h;have k:(∃f e,Rep X.K H x f/\Rep X.K H y e/\ZD f/\ZD e/\Q (.bl (if kb=kd then !PyData.eqv f e else Qw f e)) H)->ko (k5 X.prog X.w) X.A (vu .Eq v u) (EP X z g Q) X.xe s:=by rintro⟨f,e,m,l,⟨Z,B⟩,⟨Y,W⟩,q⟩;let#[E,r]:=m.reads I o;let#[bs,p]:=l.reads I n;exact SeqAt.compareEq_reads r p Z Y () #[.bl _,H,I,rfl,q]
 have sc:R9 x y=kd->Q (.bl (decide (x=y))) H->ko (k5 X.prog X.w) X.A (vu .Eq v u) (EP X z g Q) X.xe s:=λm l=>_root_.L2.op_eq z s g H x y v u Q I o n #[m,l];cases x with
 |int i =>
  cases y with|int j=>exact sc rfl (by simpa[rEq]using h)|_=>exact k h
 |str a =>
  cases y with|str b=>exact sc rfl (by simpa[rEq]using h)|_=>exact k h
 |bl a =>
  cases y with|bl b=>exact sc rfl (by simpa[rEq]using h)|_=>exact k h
 |_=>exact k h
theorem op_ne(C:X.A.units+64<Z1):SE X (vu .NotEq) (rEq X.K kd):=by
 intro z s g H x y v u Q I o n h;have k:(∃f e,Rep X.K H x f/\Rep X.K H y e/\ZD f/\ZD e/\Q (.bl (if kd=kd then !PyData.eqv f e else Qw f e)) H)->ko (k5 X.prog X.w) X.A (vu .NotEq v u) (EP X z g Q) X.xe s:=by rintro⟨f,e,m,l,⟨Z,B⟩,⟨Y,W⟩,q⟩;let#[E,r]:=m.reads I o;let#[bs,p]:=l.reads I n;exact SeqAt.compareNe_reads r p Z Y () #[.bl _,H,I,rfl,q]
 have sc:R9 x y=kd->Q (.bl (!decide (x=y))) H->ko (k5 X.prog X.w) X.A (vu .NotEq v u) (EP X z g Q) X.xe s:=λm l=>_root_.L2.op_ne z s g H x y v u Q I o n #[m,l];cases x with
 |int i =>
  cases y with|int j=>exact sc rfl (by simpa[rEq]using h)|_=>exact k h
 |str a =>
  cases y with|str b=>exact sc rfl (by simpa[rEq]using h)|_=>exact k h
 |bl a =>
  cases y with|bl b=>exact sc rfl (by simpa[rEq]using h)|_=>exact k h
 |_=>exact k h
noncomputable def PY(f:Int->Int->Bool):R2:=λx y H Q=>match x,y with
 | .int i,.int j=>Q (.bl (f i j)) H|_,_=>False
theorem jQ{op:h7}{f:Int->Int->Bool}(b:SE X (vu op) (ja λi j=>.bl (f i j))):SE X (vu op) (PY f):=by
 intro z s w H x y v u Q I a k h;cases x with
 |int i =>
  cases y with|int j=>exact b z s w H _ _ v u Q I a k #[i,j,rfl,rfl,h]|_=>exact Qc h
 |_=>exact Qc h
noncomputable def inStr(b a:Str):Bool:=match a.cps.toList with
 |[c]=>decide (c∈b.cps.toList)|_=>!(wj b a 0 b.9 1).isEmpty
theorem xT(b a:Str):inStr b a=!(wj b a 0 b.9 1).isEmpty:=by
 unfold inStr;split;rename_i c e;have x:a=#[(qG [c])]:=by
  let#[h]:=a;have:h=(qG [c]):=by apply WL.mp;simpa using e
  rw[this]
 rw[x];exact(StrLaws.found_one b c).symm;rfl
def bS(K:QA)(neg:Bool):R2:=λx y H Q=>match y with
 | .str b=>match x with
  | .str a=>Q (.bl (if neg then !inStr b a else inStr b a)) H|_=>False
 | .ref p=>Su K neg x (.ref p) H Q∨(∃d h,Rep K H x d/\(Rep K H (.ref p) (.list h)∨Rep K H (.ref p) (.tuple h))/\ZD d/\ZD (.list h)/\Q (.bl (if neg then !(h.any λy=>Qw y d) else h.any λy=>Qw y d)) H)∨(∃o,nR K H p x o/\Q (.bl (if neg then !o.isSome else o.isSome)) H)|_=>False
theorem YO{ds:List xk}(h:ZD (.list ds)):qk ds=kd/\wb ds<=63:=by let#[x,y]:=h;simp only[QAZ]at x;simp only[QA6]at y;exact#[x,()]
theorem Cp(Y:X.A.units+66<Z1):SE X (vu .In) (bS X.K kb):=by
 intro z s i H x y v u Q I e w h;cases y with
 |str b =>
  cases x with|str a=>refine EY z s i H _ _ v u Q I e w #[a,b,rfl,rfl,?_];rw[<- xT];simpa[bS]using h|_=>exact Qc h
 |ref p =>
  rcases h with h|⟨d,Z,r,k,l,n,q⟩| ⟨o,g,q⟩
  rotate_left 2
  cases w;exact Yc Y I e g q;exact IY z s i H _ _ v u Q I e w h;let#[B,j]:=r.reads I e;let#[m,W]:=YO n;rcases k with k|k;let#[bs,f]:=k.reads I w;exact SeqAt.in_list_reads f j m l.1 () #[.bl _,H,I,rfl,q];let#[bs,f]:=k.reads I w;exact SeqAt.in_tuple_reads f j m l.1 () #[.bl _,H,I,rfl,q]
 |_=>exact Qc h
theorem E4(Y:X.A.units+66<Z1):SE X (vu .NotIn) (bS X.K kd):=by
 intro z s i H x y v u Q I e w h;cases y with
 |str b =>
  cases x with|str a=>refine yQ z s i H _ _ v u Q I e w #[a,b,rfl,rfl,?_];rw[<- xT];simpa[bS]using h|_=>exact Qc h
 |ref p =>
  rcases h with h|⟨d,Z,r,k,l,n,q⟩| ⟨o,g,q⟩
  rotate_left 2
  cases w;exact iV Y I e g q;exact zQ z s i H _ _ v u Q I e w h;let#[B,j]:=r.reads I e;let#[m,W]:=YO n;rcases k with k|k;let#[bs,f]:=k.reads I w;exact SeqAt.notIn_list_reads f j m l.1 () #[.bl _,H,I,rfl,q];let#[bs,f]:=k.reads I w;exact SeqAt.notIn_tuple_reads f j m l.1 () #[.bl _,H,I,rfl,q]
 |_=>exact Qc h
end
end
section
variable{X:Cx}
theorem yN:∀{bs:List Bool}{us:LW},sA (bs.map V.bl) us->∀(i:Nat) (v:kn),us[i]?=kv v->∃b,bs[i]?=kv b/\v=Value.bool b
 |[],_,.nil,i,v,h=>by simp at h|b::bs,_,.cons r t,0,v,h=>by simp at h;subst h;exact#[b,by simp,r]|b::bs,_,.cons r t,i+1,v,h=>by let#[c,y,x]:=yN (bs:=bs) t i v (by simpa using h);exact#[c,by simpa using y,x]
theorem OY(bs:List Bool):(Qt bs.9).all (λi=>bs.getD i kd)=bs.all id:=by
 rw[qF,Ql,Ql];constructor;intro h b hb;let#[i,y,e]:=QBW hb;have:=h i (by simpa using y);simp[QA7,y,e]at this;simpa using this;intro h i y;have x:i<bs.length:=by simpa using y
 have:=h bs[i] (qz x);simpa[QA7,x]using this
theorem NY(bs:List Bool):(Qt bs.9).any (λi=>bs.getD i kb)=bs.any id:=by
 rw[qF,Wx,Wx];constructor;rintro⟨i,x,e⟩;have h:i<bs.length:=by simpa using x
 exact#[bs[i],qz h,by simpa[QA7,h]using e];rintro⟨b,hb,e⟩;let#[i,x,y]:=QBW hb;exact#[i,by simpa using x,by simp[QA7,x,y];simpa using e]
def xp(K:QA):LV->Hp->VK->Prop:=λh H Q=>match h with
 |[.ref a]=>∃bs:List Bool,jC K H a (bs.map V.bl)/\Q (.bl (bs.all id)) H|_=>False
def vp(K:QA):LV->Hp->VK->Prop:=λh H Q=>match h with
 |[.ref a]=>∃bs:List Bool,jC K H a (bs.map V.bl)/\Q (.bl (bs.any id)) H|_=>False
theorem y8(l:X.calm=kd):gC X (.builtin "all") (xp X.K):=by
 intro k s Z H f W Q I r h
 match f,h with
 |[.ref a],#[bs,hq,q] =>
  let#[u,rfl,j]:=HF r;cases j;let#[x,w,p,C]:=I.list hq;have hl:=w.9;rw[QE]at hl;refine call_all_walk (Wi p.isList ?_);have y:a<s.1.1.size:=by let#[o,n,e,_]:=p;exact QV e
  refine#[s.1.1.size,_,_,_,_,_,λi=>bs.getD i kd,rfl,Walks.list (A:=X.A.in1) (I.ok.hd l) s.1.1.size a (Qj y) x.toArray,#[#[_,QO _ rfl,rfl,rfl],?_],?_,?_];let#[o,n,e,c,d,sq]:=p;exact#[o,QH _ e,c,n,sq];intro i v B F G m z;let#[b,hb,rfl]:=yN w i v (by simpa using m);refine wF ?_;have:bs.getD i kd=b:=by simp[QA7,hb]
  rw[<- this];exact z;intro E g hk;have Y:(Qt x.toArray.size).all (λi=>bs.getD i kd)=bs.all id:=by rw[QN,<- hl,OY]
  rw[Y];exact#[.bl _,H,I.kept (t':=g) (λb o e=>hk b o (by simp;exact Qj (QV e)) (QH _ e)),rfl,q]
theorem j8(l:X.calm=kd):gC X (.builtin "any") (vp X.K):=by
 intro k s Z H f W Q I r h
 match f,h with
 |[.ref a],#[bs,hq,q] =>
  let#[u,rfl,j]:=HF r;cases j;let#[x,w,p,C]:=I.list hq;have hl:=w.9;rw[QE]at hl;refine call_any_walk (Wi p.isList ?_);have y:a<s.1.1.size:=by let#[o,n,e,_]:=p;exact QV e
  refine#[s.1.1.size,_,_,_,_,_,λi=>bs.getD i kb,rfl,Walks.list (A:=X.A.in1) (I.ok.hd l) s.1.1.size a (Qj y) x.toArray,#[#[_,QO _ rfl,rfl,rfl],?_],?_,?_];let#[o,n,e,c,d,sq]:=p;exact#[o,QH _ e,c,n,sq];intro i v B F G m z;let#[b,hb,rfl]:=yN w i v (by simpa using m);refine wF ?_;have:bs.getD i kb=b:=by simp[QA7,hb]
  rw[<- this];exact z;intro E g hk;have Y:(Qt x.toArray.size).any (λi=>bs.getD i kb)=bs.any id:=by rw[QN,<- hl,NY]
  rw[Y];exact#[.bl _,H,I.kept (t':=g) (λb o e=>hk b o (by simp;exact Qj (QV e)) (QH _ e)),rfl,q]
def Io(K:QA):LV->Hp->VK->Prop:=λx H Q=>(∃z,x=[.str z]/\z.9<=kt/\Q (.int z.9) H)∨∃a h,x=[.ref a]/\(jC K H a h∨xD K H a h)/\Q (.int h.9) H
theorem A7:gC X (.builtin "len") (Io X.K):=λx s y H z u Q I r h=>h.elim (yR x s y H z u Q I r) (II x s y H z u Q I r)
noncomputable def cV:V->Option kn
 | .ty n=>kv (.type n)|.ref C=>kv (.ref C)|_=>kf
def Sx(K:QA)(H:Hp)(x:V)(t:kn):Prop:=(∃a h,x=.ref a/\jC K H a h/\t=.type "list")∨∃a h,x=.ref a/\xD K H a h/\t=.type "tuple"
def Ki(K:QA):LV->Hp->VK->Prop:=λy H Q=>match y with
 |[x,c]=>∃t h b,(TyOf K H x t∨Sx K H x t)/\cV c=kv h/\QBN K t h=kv b/\Q (.bl b) H|_=>False
theorem E7:gC X (.builtin "isinstance") (Ki X.K):=by
 intro m s Y H w Z Q I r h
 match w,h with
 |[x,c],#[t,cv,b,ty,hc,hk,q] =>
  let#[u,k,rfl,f,v]:=ye r;have e:k=cv:=by
   cases c with|ty n=>have l:k=Value.type n:=v;have j:kv (Value.type n)=kv cv:=hc;rw[l];exact Qi j|ref C=>have l:k=kx C:=v;have j:kv (kx C)=kv cv:=hc;rw[l];exact Qi j|_=>cases hc
  subst e;rcases ty with ty|⟨a,w,rfl,i,rfl⟩| ⟨a,w,rfl,i,rfl⟩
  exact XZ I f ty hk λy=>#[.bl b,H,I.tok y,rfl,q]
  cases f;let#[g,p,#[o,n,e,c,_,d],_]:=I.list i;exact qJ QAf I.kIn #[o,e,c] hk (λz=>nomatch z) λy=>#[.bl b,H,I.tok y,rfl,q]
  cases f;let#[g,p,#[o,e,c,n,d],_]:=I.tuple i;exact qJ QBn I.kIn #[o,e,c] hk (λz=>nomatch z) λy=>#[.bl b,H,I.tok y,rfl,q]
def jt(K:QA):V->Option Int->Option Int->Hp->VK->Prop:=λx h y H Q=>match x with
 | .str z=>z.9<=kt/\Q (.str (wq z h y)) H|.ref a=>So K (.ref a) h y H Q∨Ro K (.ref a) h y H Q|_=>False
theorem xi:Ug X (jt X.K):=by
 intro y s m H x v E C Y B b Q I p W r e h;cases x with
 |str z =>
  let#[t,rfl]:=p;let#[J,q]:=h;refine#["str",_,F.slot_str_getitem.lookup,QCe _ _ _,?_];have fin:∀l u:Option (Int×Tok),l.map (·.1)=Y->u.map (·.1)=B->s.1.IsSlice b l u kf->ko (k5 X.prog X.w) X.A (lb (.str z t) (.ref b)) (EP X y m Q) X.xe s:=λl u M L Z=>by refine wpAny_getItem_str_slice Z rfl ?_;subst M L;exact post_val_or_str #[QW (Txt.slice_le z _ _) J,λN k=>#[.str (wq z _ _),H,I.tok k,#[_,rfl],q]]
  let#[o,f,hc,g]:=W;cases r with
  |none =>
   cases e with|none=>exact fin kf kf rfl rfl #[o,f,hc,g]|int j n=>exact fin kf (kv (j,n)) rfl rfl #[o,f,hc,g]
  |int i G =>
   cases e with|none=>exact fin (kv (i,G)) kf rfl rfl #[o,f,hc,g]|int j n=>exact fin (kv (i,G)) (kv (j,n)) rfl rfl #[o,f,hc,g]
 |ref a=>rcases h with h|h;exact O9 y s m H _ v E C Y B b Q I p W r e h;exact vi y s m H _ v E C Y B b Q I p W r e h
 |_=>exact Qc h
end
section
variable{h h':v5}{j:k0}{z:Src}{k:Nat}{xs:Array kn}
inductive Src where
 |l (a:k0)|t (a:k0)
def Src.adr:Src->k0
 | .l a=>a|.t a=>a
def gE(h:v5)(j:k0):Src->Nat->Prop
 | .l a,k=>h.IsListIter j a k|.t a,k=>h.IsTupleIter j a k
def NB(h:v5):Src->Array kn->Prop
 | .l a,xs=>h.IsList a xs|.t a,xs=>h.IsTuple a xs
theorem gE.keep(x:gE h j z k)(e:∀o,h.get? j=kv o->h'.get? j=kv o):gE h' j z k:=by
 cases z with|l a=>let#[o,u,y]:=x;exact#[o,e o u,y]|t a=>let#[o,u,y]:=x;exact#[o,e o u,y]
theorem gE.obj(x:gE h j z k):∃o,h.get? j=kv o/\∀v,o.data≠.cell v:=by
 cases z with|l a=>let#[o,u,w,y]:=x;exact#[o,u,λv q=>by rw[y]at q;cases q]|t a=>let#[o,u,w,y]:=x;exact#[o,u,λv q=>by rw[y]at q;cases q]
theorem NB.ext{b:k0}(x:NB h z xs)(e:QAC b h h')(n:z.adr≠b):NB h' z xs:=by
 cases z with|l a=>exact QCW.extBut x e n|t a=>exact Heap.IsTuple.extBut x e n
theorem NB.lt(x:NB h z xs):z.adr<h.1.size:=by
 cases z with|l a=>let#[o,y,_]:=x;exact QV y|t a=>let#[o,y,_]:=x;exact QV y
theorem gE.lt(x:gE h j z k):j<h.1.size:=by let#[o,y,_]:=x.obj;exact QV y
end
section
variable{prog:vx}{w:v8}{A:Xz}{E:cC}{s:ku}
section
variable{j t:k0}{k:Nat}{xs:Array kn}{x:kn}{Q:cC}{z:Src}
theorem Cj(p:s.1.IsTupleIter j t k)(pt:s.1.IsTuple t xs)(a:xs[k]?=kv x)
  (q:∀h',h'.IsTupleIter j t (k+1)->qV j s.1 h'->Q x { s with heap:=h' }):ko (k5 prog w) A (qT (.ref j)) Q E s:=by
 let#[ob,y,b,h]:=id p;let#[e,v,_,f,u]:=pt;unfold qT;refine QC (qO (name:=QS "__next__") p.typeIs qe (qK qe p.typeIs WY ?_ (WU _)));show ko _ _ (RB (.ref j) 0 >>= _) _ _ _;refine QC (wU y h (x:=.ref t) rfl ?_);show ko _ _ (if(kx t==Kz)=kd then _ else _) _ _ _;rw[t3 (show ¬ (kx t==Kz)=kd from QG)];show ko _ _ (RB (.ref j) 1 >>= _) _ _ _;refine QC (wU y h (x:=.int k 0) rfl ?_);show ko _ _ (seqItems? (.ref t) >>= _) _ _ _;refine QC (QBL v u ?_);simp only[qN,a];refine QC (QAa y h (by simp) (QK #[x,rfl,QK (q _ ?_ (Q3 ..))]));refine#[_,wz _ y (QA8 (WZ h _)),(QB3 ..).trans b,?_];rw[WZ h];simp[g7]
theorem sV(u:A.handled=kf)(p:s.1.IsTupleIter j t k)(pt:s.1.IsTuple t xs)(f:xs[k]?=kf)
  (q:∀h' e,QAC j s.1 h'->(∃o,h'.get? e=kv o/\o.cls=.type "StopIteration")->E (.ref e) { s with heap:=h' }):ko (k5 prog w) A (qT (.ref j)) Q E s:=by
 let#[ob,y,l,h]:=id p;let#[g,b,_,i,v]:=pt;unfold qT;refine QC (qO (name:=QS "__next__") p.typeIs qe (qK qe p.typeIs WY ?_ (WU _)));show ko _ _ (RB (.ref j) 0 >>= _) _ _ _;refine QC (wU y h (x:=.ref t) rfl ?_);show ko _ _ (if(kx t==Kz)=kd then _ else _) _ _ _;rw[t3 (show ¬ (kx t==Kz)=kd from QG)];show ko _ _ (RB (.ref j) 1 >>= _) _ _ _;refine QC (wU y h (x:=.int k 0) rfl ?_);show ko _ _ (seqItems? (.ref t) >>= _) _ _ _;refine QC (QBL b v ?_);simp only[qN,f];refine QC (QB4 (QC (QAa y h (by simp) ?_)));refine QC (m:=me (.type "StopIteration") []) ?_;simp only[me,mu];refine QC (Qz ?made (by size_fits));refine QC (m:=Hz _ _) (QCX (a:=Kz) (by first|rfl | (rw[Hz];rfl)) ?arg);refine Qz ?made2 (by size_fits);simp only[Rt];refine QC (QBr ?_);first|rw[show A.in1.handled=kf from u]|rw[u]
 refine QC (QK (QCY (q _ _ (((Q3 ..).extBut.push _).push _) #[_,QO _ rfl,rfl])))
theorem Mb(p:gE s.1 j z k)(pt:NB s.1 z xs)(h:xs[k]?=kv x)
  (q:∀h',gE h' j z (k+1)->qV j s.1 h'->Q x { s with heap:=h' }):ko (k5 prog w) A (qT (.ref j)) Q E s:=by
 cases z with|l a=>exact wpAny_nextOf_list_item p pt h q|t a=>exact Cj p pt h q
theorem N5(y:A.handled=kf)(p:gE s.1 j z k)(pt:NB s.1 z xs)(h:xs[k]?=kf)
  (q:∀h' e,QAC j s.1 h'->(∃o,h'.get? e=kv o/\o.cls=.type "StopIteration")->E (.ref e) { s with heap:=h' }):ko (k5 prog w) A (qT (.ref j)) Q E s:=by
 cases z with|l a=>exact wpAny_nextOf_list_end y p pt h q|t a=>exact sV y p pt h q
noncomputable def Src.it:Src->Obj
 | .l a=>{ cls:=.type "list_iterator",data:=.fields (qG [.ref a,.int 0 0]) }|.t a=>{ cls:=.type "tuple_iterator",data:=.fields (qG [.ref a,.int 0 0]) }
theorem NR(pt:NB s.1 z xs)(q:Q (.ref s.1.1.size) { s with heap:=s.1.push z.it }):ko (k5 prog w) A (eH (.ref z.adr)) Q E s:=by
 cases z with|l a=>exact Wi pt q|t a=>exact QBs pt q
theorem F9(h:v5)(z:Src):gE (h.push z.it) h.1.size z 0:=by
 cases z with|l a=>exact#[_,QO _ rfl,rfl,rfl]|t a=>exact#[_,QO _ rfl,rfl,rfl]
end
end
section
variable{prog:vx}{w:v8}{A:Xz}{E:cC}{s:ku}
theorem si{h h':v5}{b:k0}{z:Src}{xs:Array kn}(x:NB h z xs)(e:qV b h h')(n:z.adr≠b):NB h' z xs:=x.ext e.extBut n
end
section
variable{X:Cx}{w:PB}{σ:St}{H:Hp}{s:ku}{h':v5}
theorem _root_.L2.Inv.turnedL{t':Nat}{ch:List k0}(I:Inv X w σ H s)(k:∀b o,b∉ch->s.1.get? b=kv o->h'.get? b=kv o)(f:∀b∈ch,nJ X w H b):Inv X w σ H { s with heap:=h',toks:=t' }:=by
 have h:∀b u,H b=kv u->b∉ch:=λb u e z=>by rw[(f b z).1]at e;cases e
 have a:X.env.locals∉ch:=λz=>(f _ z).2.1 rfl;refine I.step (g':=s.gens) (d':=s.drawn) (ch:=ch) (λb hb=>?_) (λb o _ _ hc e _=>k b o hc e) (λb o _ _ hc e _=>#[o.slots,k b o hc e]) (λ_ _ _ _ n=>n)
  (λb o hc e=>#[o,k b o hc e]) (λ_ _ e=>e) (λ_ _ _ e=>e) (λ_ _ e=>e) (λm y=>?_) (λb u e=>?_) I.bare
 let#[_,l,_,j,i,g]:=f b hb;exact#[j,l,i,g];let#[o,p,Y,x,r]:=y;exact#[o,p,Y,k _ o a x,r];refine(I.hok b u e).stay (λc v hc q=>k c v ?_ q) (λ_ q=>q) λ_ _ q=>q;rcases hc with z|z;rw[z];exact h b u e;exact h c _ z
def G0(K:QA)(H:Hp):Src->LV->Prop
 | .l a,xs=>jC K H a xs|.t a,xs=>xD K H a xs
theorem _root_.L2.Inv.src(I:Inv X w σ H s){z:Src}{xs:LV}(h:G0 X.K H z xs):∃its:LW,sA xs its/\NB s.1 z its.toArray/\xs.9<=sizeLine:=by
 cases z with|l a=>let#[its,x,p,y]:=I.list h;exact#[its,x,p.isList,y]|t a=>let#[its,x,p,y]:=I.tuple h;exact#[its,x,p,y]
theorem _root_.L2.Inv.src_inj(I:Inv X w σ H s){z:Src}{xs x:LV}(h:G0 X.K H z xs)(h':G0 X.K H z x):xs=x:=by
 cases z with|l a=>exact I.list_inj h h'|t a=>exact I.tuple_inj h h'
theorem _root_.L2.Inv.pair{p:k0}{a b:kn}{x y:V}{t':Nat}(I:Inv X w σ H s)(k:∀b u,s.1.get? b=kv u->h'.get? b=kv u)(v:s.1.1.size<=p)(e:h'.get? p=kv { cls:=.type "tuple",data:=.seq (qG [a,b]) })(z:VA x a)(h:VA y b) :
  Inv X w σ (pA H p (.tup [x,y])) { s with heap:=h',toks:=t' } :=
 I.laid k v #[by rw[Q5];show 2<=_;decide,[a,b],.cons z (.cons h .nil),_,e,rfl,_,rfl]
end
section
variable{prog:vx}{w:v8}{A:Xz}{E:cC}{s:ku}
section
variable{it d:k0}{z:Obj}{es:Array DC}{i ep:Nat}{c u:kn}{Q:Option kn->ku->Prop}
theorem JD:W7 "dict_itemiterator"=true:=by decide +kernel
theorem XJ(l:List String)(h:(l.contains "dict_itemiterator" || l.contains "object")=kb):(l.any λt=>[Value.type "dict_itemiterator",Value.type "object"].contains (.type t))=false:=by
 rw[QBx];intro t x;rw[Bool.or_eq_false_iff]at h;have v:t≠"dict_itemiterator":=λe=>by subst e;rw[Qk.mpr x]at h;cases h.1
 have y:t≠"object":=λe=>by subst e;rw[Qk.mpr x]at h;cases h.2
 simp[v,y]
theorem M5{e:DC}
  (m:d6 s.1 it d i es.size ep c u) (X:s.1.get? d=kv z) (B:z.data=.dict es ep) (I:es[i]?=kv e)
  (q:∀h',n6 h' it d (i+1) es.size ep e.key e.val s.1.1.size->h'.get? s.1.1.size=kv { cls:=.type "tuple",data:=.seq (qG [e.key,e.val]) } ->
   h'.1.size=s.1.1.size+1->(∀b o,b≠it->s.1.get? b=kv o->h'.get? b=kv o)->Q (kv (.ref s.1.1.size)) { s with heap:=h' }) :
  ko (k5 prog w) A (li (.ref it)) Q E s:=by
 have F:s.TypeIs (.ref it) "dict_itemiterator":=#[_,m,rfl]
 show ko _ _ (bind _ _) _ _ _;refine QC (W8 (qO F qU (qK qU F Wo ?_ (Wj _))));show ko _ _ (bind _ _) _ _ _;refine QC (QK (QC (QC (QC (qt F (QK (QC (QAb m rfl ?_))))))));rw[JD];show ko _ _ (if(kx d==Kz)=kd then _ else _) _ _ _;rw[t3 (show ¬ (kx d==Kz)=kd from QG)];show ko _ _ (wV (.ref d) >>= _) _ _ _;refine QC (QK (QC (wG X B ?_)));rw[t3 (show ¬ (((es.size:Nat):Int) != ((es.size:Nat):Int))=kd by simp)];refine QC (QK (QC (w6 X B ?_)));rw[t3 (show ¬ (((ep:Nat):Int) != ((ep:Nat):Int))=kd by simp)];refine QK ?_;have J:(if((i:Nat):Int)<0 then kf else es[((i:Nat):Int).toNat]?)=kv e:=by rw[t3 (),qN];exact I
 simp only[J];refine QC ?_;show ko _ _ (fb (.ref it) >>= _) _ _ _;refine QC (qt F (QK (QC (Wg F ?_))));rw[JD,t6 rfl];rw[show(List.any _ λt=>[Value.type "dict_itemiterator",Value.type "object"].contains (.type t))=kb from XJ _ (by decide +kernel),t3 QG];refine QC (wO m (by simp) λa h r=>?_);have h:d6 a it d (i+1) es.size ep c u:=h;refine QC (ql ?_);have C:({ s with heap:=a }:ku).TypeIs (.ref it) "dict_itemiterator":=#[_,h,rfl]
 show ko _ _ (Builtin.Dict_items.isOneOf (.ref it) _ >>= _) _ _ _;refine QC (Wg C ?_);rw[XJ _ (by decide +kernel),t3 QG];refine QC (Wg C ?_);rw[XJ _ (by decide +kernel),t3 QG];show ko _ _ (mu [e.key,e.val] >>= _) _ _ _;refine QC (QBP ?_);have p:a.1.size=s.1.1.size:=r.1;have y:d6 (a.push { cls:=.type "tuple",data:=.seq (qG [e.key,e.val]) }) it d (i+1) es.size ep c u:=QH _ h;show ko _ _ (Builtin.Dict_items.ownedTupleIsFree (.ref it) >>= _) _ _ _;refine QC ?_;show ko _ _ (RB (.ref it) 0 >>= _) _ _ _;refine QC (wU y rfl (x:=.none) rfl (QK ?_));rw[t6 rfl];show ko _ _ (RB (.ref it) 6 >>= _) _ _ _;refine QC (wU y rfl (x:=c) rfl ?_);refine QC (wU y rfl (x:=u) rfl ?_);refine QC (wO y (by simp) λN K l=>?_);refine QC (wO K (by simp) λM W j=>?_);refine QC (wO W (by simp) λL Z g=>?_);refine QC (wO Z (by simp) λG Y f=>?_);refine QC (wpAny_letGo (QK ?_));refine QK #[_,rfl,QK ?_];have k:it<a.1.size:=QV h;have pt:G.get? a.1.size=kv { cls:=.type "tuple",data:=.seq (qG [e.key,e.val]) } :=
  f.extBut _ _ (wy k) (g.extBut _ _ (wy k) (j.extBut _ _ (wy k) (l.extBut _ _ (wy k) (QO _ rfl))))
 have n:G.1.size=a.1.size+1:=by rw[f.1,g.1,j.1,l.1,WK]
 have v:n6 G it d (i+1) es.size ep e.key e.val a.1.size:=Y;rw[p]at pt n v;have:=q G v pt n λb o hb x=>f.extBut _ _ hb (g.extBut _ _ hb (j.extBut _ _ hb (l.extBut _ _ hb (QH _ (r.extBut _ _ hb x)))));show Q (kv (.ref a.1.size)) _;rw[p];exact this
theorem bQ(f:A.handled=kf)
  (h:d6 s.1 it d i es.size ep c u) (x:s.1.get? d=kv z) (y:z.data=.dict es ep) (g:es[i]?=kf)
  (q:∀h',QAC it s.1 h'->Q kf { s with heap:=h' }) :
  ko (k5 prog w) A (li (.ref it)) Q E s:=by
 have v:s.TypeIs (.ref it) "dict_itemiterator":=#[_,h,rfl]
 show ko _ _ (bind _ _) _ _ _;refine QC (W8 (qO v qU (qK qU v Wo ?_ (Wj _))));show ko _ _ (bind _ _) _ _ _;refine QC (QK (QC (QC (QC (qt v (QK (QC (QAb h rfl ?_))))))));rw[JD];show ko _ _ (if(kx d==Kz)=kd then _ else _) _ _ _;rw[t3 (show ¬ (kx d==Kz)=kd from QG)];show ko _ _ (wV (.ref d) >>= _) _ _ _;refine QC (QK (QC (wG x y ?_)));rw[t3 (show ¬ (((es.size:Nat):Int) != ((es.size:Nat):Int))=kd by simp)];refine QC (QK (QC (w6 x y ?_)));rw[t3 (show ¬ (((ep:Nat):Int) != ((ep:Nat):Int))=kd by simp)];refine QK ?_;have j:(if((i:Nat):Int)<0 then kf else es[((i:Nat):Int).toNat]?)=none:=by rw[t3 (),qN];exact g
 simp only[j];refine QC ?_;show ko _ _ (fb (.ref it) >>= _) _ _ _;refine QC (qt v (QK ?_));rw[JD,t6 rfl];refine QC (wO h (by simp) λl e k=>?_);refine QC (m:=me (.type "StopIteration") []) ?_;simp only[me,mu];refine QC (Qz ?made (by size_fits));refine QC (m:=Hz _ _) (QCX (a:=Kz) (by first|rfl | (rw[Hz];rfl)) ?arg);refine Qz ?made2 (by size_fits);simp only[Rt];refine QC (QBr ?_);first|rw[show A.in1.handled=kf from f]|rw[f]
 refine QC (QK (QCY ?_));refine QC (QAt (T:="StopIteration") (b:=kd) #[_,QO _ rfl,rfl] (by kernel_rfl) ?_);rw[t6 rfl];exact QK (q _ ((k.extBut.push _).push _))
theorem P6{v:k0}{Q:cC}(hv:s.1.IsItemsView v d)(h:s.1.get? d=kv z)(x:z.data=.dict es ep)
  (q:Q (.ref s.1.1.size) { s with heap:=s.1.push { cls:=.type "dict_itemiterator",data:=.fields (qG [.none,.bool kb,.ref d,.int 0 0,.int es.size 0,.int ep 0,.none,.none]) } }) :
  ko (k5 prog w) A (eH (.ref v)) Q E s:=by
 have a:=Heap.IsItemsView.typeIs hv;let#[u,y,b,k]:=id hv;refine QB5 a QAz (qK QAz a F.entry_dict_items_iter ?_ (F.args_dict_items_iter_1 _));show ko _ _ (bind _ _) _ _ _;refine QC (QK (QC ?_));show ko _ _ (bind _ _) _ _ _;refine QC (wU y k rfl (QK (QC ?_)));show ko _ _ (bind _ _) _ _ _;refine QC (wG h x (QC (w6 h x ?_)));simp only[JD,if_true];refine Qz (QK #[_,rfl,"dict_itemiterator",_,#[_,QO _ rfl,rfl],qU.lookup,q]) (show _<=kt+2 by simp[Builtin.Dict_items.ownedTupleFields,Q5])
theorem BW{Q:cC}(h:s.1.get? d=kv z)(x:z.cls=.type "dict")(v:(d==y1)=kb)
  (q:Q (.ref s.1.1.size) { s with heap:=s.1.push { cls:=.type "dict_items",data:=.fields (qG [.ref d]) } }):ko (k5 prog w) A (dt (.builtin "dict.items") [.ref d]) Q E s:=by
 have y:s.TypeIs (.ref d) "dict":=#[_,h,x]
 refine qK F.slot_dict_items y F.entry_dict_items ?_ (F.args_dict_items_1 _);show ko _ _ (bind _ _) _ _ _;refine QC ?_;show ko _ _ (bind _ _) _ _ _;refine QC (Wp y ?_);refine QK ?_;show ko _ _ ((if(d==y1)=kd then _ else _) >>= _) _ _ _;rw[v,t3 QG];exact QC (QK (QC (Qz (QK #[_,rfl,q]) (show _<=kt+2 by simp[Q5]))))
theorem ZY{X:Type}[DecidableEq X]{h:RD prog w X}{d a:k0}{xs:List (X×k0×kn)}{k:X}{v:kn}{Q:cC}(K:h.room A)(f:h.is s.1 k a)(C:s.1.DictOfH h d xs)(hsz:xs.9<=kt)
  (G:∀p,d7 xs k=kv p->Q p.2 { s with toks:=s.toks+h.draws k })
  (F:d7 xs k=kf->∀h',h'.DictOfH h d (p6 xs k a v)->qV d s.1 h'->Q v { s with heap:=h',toks:=s.toks+h.draws k }) :
  ko (k5 prog w) A (mA d (.ref a) v) Q E s:=by
 let#[o,es,ep,m,hc,l,Y,r,Z]:=id C;have I:es.size=xs.length:=by have:=ak wI Y;simpa using this
 unfold mA;refine ql (QC (h.pyHash K f (QC (wpAny_dictFind_heap K f m l Y r Z (λq=>?_) λj p B=>?_))));have b:=atKey_none_of_get q;have n:=not_mem_keys_of_get q;refine QC (QB4 (QC (wpAny_updateDictKeys m l (QK (F b _ ?_ (Q3 ..))) () (by simp))));refine#[_,_,ep+1,wz _ m (Obj.isFreed_of_dict (QBH l _)),Obj.ExactDict.mapDictKeys hc _,QBH l _,?_,?_,?_];rw[QCZ b];simp[Y,hB];rw[QCZ b];intro x g;rcases Qg.mp g with g|g;exact h.keeps (r x g) m l (Q3 ..);rw[QI.mp g];exact h.keeps f m l (Q3 ..);rw[QCZ b,QR];exact qj.mpr #[Z,by simp,λx g y W e=>by rw[QU,WR,QI]at W;rw[e,W]at g;exact n g];have b:=atKey_of_get Z B;have J:es[j]?=kv (hB h (k,p)):=by
  have:es.toList[j]?=kv (hB h (k,p)):=by rw[Y,Qd,B];rfl
  simpa using this
 refine QC (wG m l ?_);rw[J];exact QC (QB4 (QK (G p b)))
theorem yU{y:Type}[DecidableEq y]{h:RD prog w y}{d a:k0}{xs:List (y×k0×kn)}{k:y}{v:kn}{Q:cC}(f:h.room A.in1)(x:h.is s.1 k a)(b:s.1.DictOfH h d xs)(hsz:xs.9<=kt)(l:(d==y1)=kb)
  (n:∀p,d7 xs k=kv p->Q p.2 { s with toks:=s.toks+h.draws k })
  (m:d7 xs k=kf->∀h',h'.DictOfH h d (p6 xs k a v)->qV d s.1 h'->Q v { s with heap:=h',toks:=s.toks+h.draws k }) :
  ko (k5 prog w) A (dt (.builtin "dict.setdefault") [.ref d,.ref a,v]) Q E s:=by
 have e:s.TypeIs (.ref d) "dict":=Heap.DictOfH.typeIs b;refine qK F.slot_dict_setdefault e F.entry_dict_setdefault ?_ (F.args_dict_setdefault_3 _ _ _);show ko _ _ (bind _ _) _ _ _;refine QC ?_;show ko _ _ (bind _ _) _ _ _;refine QC (Wp e ?_);refine QK ?_;show ko _ _ (if(d==y1)=kd then _ else _) _ _ _;rw[l,t3 QG];exact QC (ZY f x b hsz (λp g=>QK #[_,rfl,n p g]) λj h' q o=>QK #[_,rfl,m j h' q o])
end
end
def kL(K:QA):V->LV->Hp->VK->Prop:=λx z H Q=>∃a b v w h k,x=.ref a/\z=[.ref b,v]/\H a=kv (.dT w h)/\iG K H h/\vO K H b k/\h.9<kt /\
   (∀u,AG h k=kv u->Q u H)/\(AG h k=kf->∀y,Q v (pA H a (.dT y (TL h k b v))))
theorem lZ{X:Cx}(R:X.A.units+66<Z1):x9 X "dict.setdefault" (kL X.K):=by
 intro m s L H x N v P Q I o r h;let#[a,b,y,ep,f,k,rfl,rfl,e,hk,F,l,Z,Y]:=h;cases o;let#[u,O,rfl,q,g]:=ye r;cases q;let#[W,n,M,w,G]:=ZK I e hk;have hl:(TL f k b y).9<=sizeLine:=by have:=OS f k b y;omega
 refine yU (JI ()) (ES I F) G (by rw[<- qC w];exact W) n (λp C=>?_) λE S j B=>?_;have z:=w.val k;rw[C]at z;cases ev:AG f k with|none=>rw[ev]at z;exact(show False from z).elim|some u=>rw[ev]at z;exact#[u,H,I.tok _,z,Z u ev]
 have z:=w.val k;rw[E]at z;cases ev:AG f k with|some u=>rw[ev]at z;exact(show False from z).elim|none=>let#[i,J]:=OM (t':=_) I (by rw[e];exact True.intro) n hl (w.put k b g) j B;exact#[y,_,J,g,Y ev i]
def Cy(ep n:Nat)(a:k0):It :=
  #[λi H=>∃h p,H a=kv (.dT ep h)/\h.9=n/\h[i]?=kv p,
   λi H v x=>∃q p,H q=kf/\v=.ref q/\x=pA H q (.tup [.ref p.2.1,p.2.2])/\∀h,H a=kv (.dT ep h)->h[i]?=kv p,
   λi H=>∃h,H a=kv (.dT ep h)/\h.9=n/\n<=i]
theorem aH{α h:Type}{R:α->h->Prop}:∀{l:List α}{m:List h}{i:Nat}{x:α},y0 R l m->l[i]?=kv x->∃y,m[i]?=kv y/\R x y
 |_,_,i,_,.nil,e=>by simp at e|_,_,0,_,.cons r _,e=>by simp at e;subst e;exact#[_,rfl,r]|_,_,i+1,x,.cons _ t,e=>by let#[y,u,z]:=aH (i:=i) (x:=x) t (by simpa using e);exact#[y,by simpa using u,z]
theorem FU{P:vx}{w:v8}{K:QA}{es:List Expr}{kk:Nat}{pp:Pos}{a it:k0}{n ep:Nat}:Turn0 P w K (.Tuple es kk pp) (Cy ep n a) [it] it (λi h=>∃ok Y,d6 h it a i n ep ok Y) where
 mem:=by simp
 obj:=λi h st b hb=>by let#[ok,Y,st]:=st;rw[QI]at hb;subst hb;exact#[_,st,λv q=>by cases(show Data.fields _=Data.cell v from q)]
 keep:=λi h h' st k=>by let#[ok,Y,st]:=st;exact#[ok,Y,k it (by simp) _ st]
 item:=by
  intro X J C L hc i Z s σ H E I A st G;subst J C L;let#[j,p,e,F,ep]:=G;let#[ok,Y,st]:=st;let#[z,y,xs,r,o,u,N,h2,M,B,h5]:=(show GA X.prog X.w H s.1 a (.dT _ j) from I.hok a _ e)
  have l:u.size=n:=by have:=ak wI B;rw[QE,Qn]at this;rw[this,<- qC r,F]
  let#[q,hq,rq]:=aH r ep;have he:u[i]?=kv (hB (zF X.prog X.w) q):=by
   have:u.toList[i]?=kv (hB (zF X.prog X.w) q):=by rw[B,Qd,hq];rfl
   simpa using this
  subst l;refine M5 st N M he λh' b1 b3 b4 b5=>#[_,rfl,wpAny_letOwnedTupleGo_items b1 λm c1 sb=>?_]
  have hp:=I.hok.fresh (QT s.1.1.size);have W:it<s.1.1.size:=QV st;have g:∀b∈[it],b<s.1.1.size:=λb hb=>by rw[QI]at hb;subst hb;exact W
  have kept:∀b o,b∉[it]->s.1.get? b=kv o->m.get? b=kv o:=λb o hb q=>by rw[QI]at hb;exact(sb.2 b hb).trans (b5 b o hb q)
  have f:m.get? s.1.1.size=kv { cls:=.type "tuple",data:=.seq (qG [.ref q.2.1,q.2.2]) }:=(sb.2 _ (wy W)).trans b3;have I1:=I.pair (x:=.ref p.2.1) (y:=p.2.2) (h':=s.1.push { cls:=.type "tuple",data:=.seq (qG [.ref q.2.1,q.2.2]) }) (t':=s.toks) (λb o e=>QH _ e) (QT _) (QO _ rfl) (show kx q.2.1=kx p.2.1 by rw[rq.2.1]) rq.2.2;have I2:=I1.turnedL (h':=m) (t':=s.toks) (ch:=[it]) (λb o hb e=>by
   rcases QBI e with⟨q1,q2⟩| q;subst q1 q2;exact f;exact kept b o hb q) λb hb=>by
   let#[f0,S,f2,R,Q,O]:=A b hb;exact#[by rw[jA (Qj (g b hb))];exact f0,S,f2,R,Q,O]
  refine#[.ref s.1.1.size,_,I2,rfl,#[s.1.1.size,p,hp,rfl,rfl,λkvs' g1=>?_],#[_,_,c1],λb hb=>?_];rw[e]at g1;cases g1;exact ep;rw[jA (Qj (g b hb))];exact(A b hb).1
 done:=by
  intro X J C L hc i Z s σ H E I A st G;subst J C L;let#[j,e,F,ep]:=G;let#[ok,Y,st]:=st;let#[z,y,xs,r,o,u,N,h2,M,B,h5]:=(show GA X.prog X.w H s.1 a (.dT _ j) from I.hok a _ e)
  have l:u.size=n:=by have:=ak wI B;rw[QE,Qn]at this;rw[this,<- qC r,F]
  subst l;let#[f0,S,f2,R,Q,O]:=A it (by simp);exact bQ (I.ok.hd hc) st N M (QA0 ep) λh' eb=>#[rfl,I.turned (t':=s.toks) (λb o hb e=>eb b o hb e) f0 S R Q O]
section
variable{prog:vx}{w:v8}{A:Xz}{E:cC}{s:ku}
section
variable{d it:k0}{h:Obj}{es:Array DC}{ep i:Nat}{Q:Option kn->ku->Prop}
theorem FG:W7 "dict_keyiterator"=false:=by decide +kernel
theorem gc{Q:cC}(u:(d==y1)=kb)(x:s.1.get? d=kv h)(hc:h.cls=.type "dict")(y:h.data=.dict es ep)
  (q:Q (.ref s.1.1.size) { s with heap:=s.1.push { cls:=.type "dict_keyiterator",data:=.fields (qG [.ref d,.int 0 0,.int es.size 0,.int ep 0]) } }) :
  ko (k5 prog w) A (eH (.ref d)) Q E s:=by
 have z:s.TypeIs (.ref d) "dict":=#[_,x,hc]
 refine QB5 z QCS (qK QCS z F.entry_dict_iter ?body (F.args_dict_iter_1 _))
 case body =>
  show ko _ _ (bind _ _) _ _ _;refine QC ?sl
  case sl =>
   show ko _ _ (bind _ _) _ _ _;refine QC (Wp z (QK ?go))
   case go =>
    have e:Wq d=rk PUnit.unit:=by unfold Wq;rw[u];rfl
    show ko _ _ (Wq d >>= _) _ _ _;rw[e];refine QC (QK (QC (wG x y (QC (w6 x y (QC (Qz (QK #[_,rfl,"dict_keyiterator",_,#[_,QO _ rfl,rfl],qX.lookup,?_]))))))));simpa[g7]using q
theorem Lb{e:DC}
  (u:s.1.IsKeyIter it d i es.size ep) (z:s.1.get? d=kv h) (v:h.data=.dict es ep) (f:es[i]?=kv e)
  (q:∀h',h'.IsKeyIter it d (i+1) es.size ep->qV it s.1 h'->Q (kv e.key) { s with heap:=h' }) :
  ko (k5 prog w) A (li (.ref it)) Q E s:=by
 have k:=u.typeIs;let#[j,a,b,x]:=id u;show ko _ _ (bind _ _) _ _ _;refine QC (W8 (qO k qX (qK qX k Wz ?_ (Wr _))));show ko _ _ (bind _ _) _ _ _;refine QC (QK (QC (QC (QC (wA k (QK (QC (QAb a x ?_))))))));rw[FG];show ko _ _ (if(kx d==Kz)=kd then _ else _) _ _ _;rw[t3 (show ¬ (kx d==Kz)=kd from QG)];show ko _ _ (wV (.ref d) >>= _) _ _ _;refine QC (QK (QC (wG z v ?_)));rw[t3 (show ¬ (((es.size:Nat):Int) != ((es.size:Nat):Int))=kd by simp)];refine QC (QK (QC (w6 z v ?_)));rw[t3 (show ¬ (((ep:Nat):Int) != ((ep:Nat):Int))=kd by simp)];refine QK ?_;have g:(if((i:Nat):Int)<0 then kf else es[((i:Nat):Int).toNat]?)=kv e:=by rw[t3 (),qN];exact f
 simp only[g];refine QC ?_;show ko _ _ (fb (.ref it) >>= _) _ _ _;refine QC (wA k (QK (QC (QA9 k ?_))));rw[FG];show ko _ _ (setField (.ref it) 1 _ >>= _) _ _ _;refine QC (QAa a x (by simp) ?_);have y:(s.1.update it (Obj.mapFields (·.setIfInBounds 1 (g7 ((i:Int)+1))))).IsKeyIter it d (i+1) es.size ep :=
  #[_,wz _ a (QA8 (WZ x _)),(QB3 ..).trans b,by rw[WZ x];simp[g7]]
 refine QC (ql (QC (QA9 (s:={ s with heap:=s.1.update it (Obj.mapFields (·.setIfInBounds 1 (g7 ((i:Int)+1)))) }) y.typeIs ?_)));show ko _ _ (rk e.key) _ _ _;exact QK (QK #[_,rfl,QK (q _ y (Q3 ..))])
theorem rS(e:A.handled=kf)
  (y:s.1.IsKeyIter it d i es.size ep) (x:s.1.get? d=kv h) (u:h.data=.dict es ep) (f:es[i]?=kf)
  (q:∀h',QAC it s.1 h'->Q kf { s with heap:=h' }) :
  ko (k5 prog w) A (li (.ref it)) Q E s:=by
 have v:=y.typeIs;let#[l,k,g,z]:=id y;show ko _ _ (bind _ _) _ _ _;refine QC (W8 (qO v qX (qK qX v Wz ?_ (Wr _))));show ko _ _ (bind _ _) _ _ _;refine QC (QK (QC (QC (QC (wA v (QK (QC (QAb k z ?_))))))));rw[FG];show ko _ _ (if(kx d==Kz)=kd then _ else _) _ _ _;rw[t3 (show ¬ (kx d==Kz)=kd from QG)];show ko _ _ (wV (.ref d) >>= _) _ _ _;refine QC (QK (QC (wG x u ?_)));rw[t3 (show ¬ (((es.size:Nat):Int) != ((es.size:Nat):Int))=kd by simp)];refine QC (QK (QC (w6 x u ?_)));rw[t3 (show ¬ (((ep:Nat):Int) != ((ep:Nat):Int))=kd by simp)];refine QK ?_;have j:(if((i:Nat):Int)<0 then kf else es[((i:Nat):Int).toNat]?)=none:=by rw[t3 (),qN];exact f
 simp only[j];refine QC ?_;show ko _ _ (fb (.ref it) >>= _) _ _ _;refine QC (wA v (QK ?_));rw[FG];show ko _ _ (setField (.ref it) 0 .none >>= _) _ _ _;refine QC (QAa k z (by simp) ?_);refine QC (m:=me (.type "StopIteration") []) ?_;simp only[me,mu];refine QC (Qz ?made (by size_fits));refine QC (m:=Hz _ _) (QCX (a:=Kz) (by first|rfl | (rw[Hz];rfl)) ?arg);refine Qz ?made2 (by size_fits);simp only[Rt];refine QC (QBr ?_);first|rw[show A.in1.handled=kf from e]|rw[e]
 refine QC (QK (QCY ?_));refine QC (QAt (T:="StopIteration") (b:=kd) #[_,QO _ rfl,rfl] (by kernel_rfl) ?_);rw[t6 rfl];exact QK (q _ (((Q3 ..).extBut.push _).push _))
end
end
noncomputable def Fy(ep n:Nat)(a:k0):It :=
  #[λi H=>∃h p,H a=kv (.dT ep h)/\h.9=n/\h[i]?=kv p,
   λi H v x=>x=H/\∀h,H a=kv (.dT ep h)->∃p,h[i]?=kv p/\v=.ref p.2.1,
   λi H=>∃h,H a=kv (.dT ep h)/\h.9=n/\n<=i]
theorem UY{P:vx}{w:v8}{K:QA}{S:Expr}{a it:k0}{n ep:Nat}:Turn P w K S (Fy ep n a) [it] it (λi h=>h.IsKeyIter it a i n ep) where
 mem:=by simp
 obj:=λi h st b hb=>by let#[o,e,c,d]:=st;rw[QI]at hb;subst hb;exact#[o,e,λv z=>by rw[d]at z;cases z]
 keep:=λi h Y st k=>st.at λo e=>k it (by simp) o e
 item:=by
  intro X B Z C hc i u s Q H E I l st A;subst B Z C;let#[f,p,e,W,ep]:=A;let#[z,y,R,r,o,x,G,h2,F,m,h5]:=(show GA X.prog X.w H s.1 a (.dT _ f) from I.hok a _ e)
  have g:x.size=n:=by have:=ak wI m;rw[QE,Qn]at this;rw[this,<- qC r,W]
  let#[q,hq,rq]:=aH r ep;have he:x[i]?=kv (hB (zF X.prog X.w) q):=by
   have:x.toList[i]?=kv (hB (zF X.prog X.w) q):=by rw[m,Qd,hq];rfl
   simpa using this
  subst g;let#[O,N,f2,M,L,J]:=l it (by simp);refine Lb st G F he λY j sb=>?_;have I1:Inv X u Q H { s with heap:=Y }:=I.turned (t':=s.toks) (λb o hb e=>(sb.2 b hb).trans e) O N M L J;let#[oi,ei,ci,di]:=id j;exact#[_,rfl,go_of (s:={ s with heap:=Y }) ei ci di (by decide) #[.ref p.2.1,H,I1,show kx q.2.1=kx p.2.1 by rw[rq.2.1],#[rfl,λks hk=>by rw[e]at hk;cases hk;exact#[p,ep,rfl]],j,λb hb=>(l b hb).1]]
 done:=by
  intro X B Z C hc i u s Q H E I l st A;subst B Z C;let#[f,e,W,ep]:=A;let#[z,y,R,r,o,x,G,h2,F,m,h5]:=(show GA X.prog X.w H s.1 a (.dT _ f) from I.hok a _ e)
  have g:x.size=n:=by have:=ak wI m;rw[QE,Qn]at this;rw[this,<- qC r,W]
  subst g;let#[O,N,f2,M,L,J]:=l it (by simp);exact rS (I.ok.hd hc) st G F (QA0 ep) λY eb=>#[rfl,I.turned (t':=s.toks) (λb o hb e=>eb b o hb e) O N M L J]
 self:=λ_ _ _ _ _ st h=>wpAny_pyIter_keyiter st h
open PySem.SeqAt
open AutoSeq1 (wpAny_loadPart')
open MeetsSeq MeetsSeq2 MeetsSeq3
noncomputable def Om:LS->LS->Bool
 |[],[]=>kb|[],_::_=>kd|_::_,[]=>kb|x::a,y::b=>if(x==y)=kd then Om a b else decide (x.cps.toList<y.cps.toList)
theorem pP{vs:LW}{z:LS}(h:Sy vs z):vs.9=z.9/\∀(i:Nat) (x:Str),z[i]?=kv x->∃t:Tok,vs[i]?=kv (Value.str x t):=by
 induction h with
 |nil=>exact#[rfl,λi x e=>by simp at e]|cons y t _ u =>
  refine#[by rw[QL,QL,u.1],λi x e=>?_];cases i with|zero=>simp at e;subst e;exact#[t,rfl]|succ i=>simp at e;simpa using u.2 i x e
theorem rZ(l b:k0)(v x:Array kn)(n B:Nat)(L X:Option k0)(W o:Array (Option kn))(a ts:LS)(I:Sy v.toList a)(G:Sy x.toList ts)(k:Nat) :
  ∀i:Nat,v.size - i=k->i<=v.size->i<=x.size->Meets (Builtin.«list.__eq__.loop» #[[.ref l,.ref b,g7 i,g7 0],[]])
   (λA R s=>s.1.get? l=kv { cls:=.type "list",dict:=L,data:=.seq v n,slots:=W }/\s.1.get? b=kv { cls:=.type "list",dict:=X,data:=.seq x B,slots:=o } /\
    R (.ok (.ret (.bool (Om (a.drop i) (ts.drop i))))) s):=by
 let#[S,Q]:=pP I;let#[O,N]:=pP G;rw[Qn]at S O;induction k with
 |zero =>
  intro i hk F p e w A R s h;let#[E,g,d,Z,K]:=s;let#[hl,hb,h]:=h;wp_walk using Q0 hl,Q0 hb;have m:v[((i:Nat):Int).toNat]?=none:=by simp;omega
  rw[m];wp_walk using Q0 hl,Q0 hb;have Y:a.drop i=[]:=by simp;omega
  rw[Y]at h;have f:Om [] (ts.drop i)=decide (v.size<x.size):=by
   cases z:ts.drop i with
   |nil =>
    have:ts.9<=i:=by simpa using z
    exact(dF ()).symm
   |cons y r =>
    have:i<ts.length:=by by_cases c:i<ts.9;exact c;rw[ww ()]at z;cases z
    exact(dT ()).symm
  rw[f]at h;exact h
 |succ k C =>
  intro i hk F p e w A R s h;let#[E,g,d,Z,K]:=s;let#[hl,hb,h]:=h;wp_walk using Q0 hl,Q0 hb;have j:i<a.length:=()
  let#[t,ev]:=Q i a[i] (Qr j);have m:v[((i:Nat):Int).toNat]?=kv (.str a[i] t):=by simpa using ev
  rw[m];have Y:a.drop i=a[i]::a.drop (i+1):=QAc j;rw[Y]at h;by_cases c:i<ts.9;let#[u,J]:=N i ts[i] (Qr c);have f:x[((i:Nat):Int).toNat]?=kv (.str ts[i] u):=by simpa using J
  have M:ts.drop i=ts[i]::ts.drop (i+1):=QAc c;rw[M]at h;have h:R (.ok (.ret (.bool (if(a[i]==ts[i])=kd then Om (a.drop (i+1)) (ts.drop (i+1)) else decide (a[i].cps.toList<ts[i].cps.toList))))) _:=h;rw[f];refine QC (EqAt.str_str a[i] t ts[i] u e w _ _ ?_);have hc:((i:Int)+1)=((i+1:Nat):Int):=by push_cast;rfl
  cases q:(a[i]==ts[i]) with|true=>rw[q,t6 rfl]at h;wp_walk;rw[hc];exact#[QBt plain_eq_loop _,QAD entry_eq_loop (by rw[WG plain_eq_loop _];exact C (i+1) () () () e w A R _ #[hl,hb,h])]|false=>rw[q,t3 QG]at h;wp_walk using Q0 hl,Q0 hb;rw[m,f];show ko _ _ (vu .Lt (.str a[i] t) (.str ts[i] u) >>= _) _ _ _;refine QC (PySem.P.lt_str ?_);exact QK h
  have f:x[((i:Nat):Int).toNat]?=none:=by simp;omega
  rw[f];wp_walk using Q0 hl,Q0 hb;rw[ww (show ts.9<=i by omega)]at h;have:decide (v.size<x.size)=false:=dF ();have h:R (.ok (.ret (.bool kb))) _:=h;rw[<- this]at h;exact h
theorem iZ(l b:k0)(y x:Array kn)(n e:Nat)(f v:Option k0)(a z:Array (Option kn))(k ts:LS)(j:Sy y.toList k)(i:Sy x.toList ts) :
  Meets (Builtin.«list.__lt__» #[[.ref l,.ref b],[]])
   (λA R s=>s.1.get? l=kv { cls:=.type "list",dict:=f,data:=.seq y n,slots:=a }/\s.1.get? b=kv { cls:=.type "list",dict:=v,data:=.seq x e,slots:=z } /\
    R (.ok (.ret (.bool (Om k ts)))) s):=by
 intro u w A R s h;let#[p,g,d,m,o]:=s;let#[hl,hb,h]:=h;have q:=AutoSeq1.sub_list_list;wp_walk using Q0 hl,Q0 hb;exact#[QBt plain_eq_loop _,QAD entry_eq_loop (by rw[WG plain_eq_loop _];exact rZ l b y x n e f v a z k ts j i _ 0 rfl (Qs _) (Qs _) u w A R _ #[hl,hb,h])]
section
variable{prog:vx}{w:v8}{A:Xz}{E:cC}{s:ku}
theorem bV{l b:k0}{y x:Array kn}{n a:Nat}{e u:Option k0}{k z:Array (Option kn)}{v ts:LS}{Q:Bool->ku->Prop}(f:A.units<Z1)(hl:s.1.get? l=kv { cls:=.type "list",dict:=e,data:=.seq y n,slots:=k })(hb:s.1.get? b=kv { cls:=.type "list",dict:=u,data:=.seq x a,slots:=z })
  (i:Sy y.toList v) (g:Sy x.toList ts) (h:Q (Om v ts) s):ko (k5 prog w) A (keyLt' ro (.ref l) (.ref b)) Q E s:=by
 rw[keyLt'_oneType,oneLt'_eq];simp only[if_true];refine QC (wpAny_cRoomFor f (QC (wpAny_callSpecialIfBound?_slot (T:="list") #[_,hl,rfl] F.slot_list_lt ?_)));refine QB2 F.slot_list_lt #[_,hl,rfl] F.entry_list_lt (F.args_list_lt_2 _ _) (iZ l b y x n a e u k z v ts i g) #[hl,hb,?_];exact wF h
end
end L2.L3
namespace L2.L3
open PySem PySem.Spec PyProof.Rows PySem.W
def uD{α:Type}(n:Nat)(P:α->Prop):KasT α->Prop
 | .ret a=>P a|.ask i j k=>i<n/\j<n/\∀b,uD n P (k b)
theorem uD.bnd{α x:Type}{n:Nat}{P:α->Prop}{R:x->Prop}{f:α->KasT x}(y:∀a,P a->uD n R (f a)):∀{t:KasT α},uD n P t->uD n R (t.bind f)
 | .ret a,h=>y a h|.ask i j k,#[h1,h2,h]=>#[h1,h2,λb=>uD.bnd y (h b)]
theorem uD.wp{α:Type}{n:Nat}{P:α->Prop}{x:Nat->Nat->(Bool->ku->Prop)->ku->Prop}{Q:α->ku->Prop}{s:ku}(y:∀i j,i<n->j<n->∀C:Bool->ku->Prop,(∀b,C b s)->x i j C s)(z:∀a,P a->Q a s):∀{t:KasT α},uD n P t->t.kasWp x Q s
 | .ret a,h=>z a h|.ask i j k,#[h1,h2,h]=>y i j h1 h2 _ λb=>uD.wp y z (h b)
def Pm(n:Nat)(p:Array Nat):Prop:=p.Perm (qG (Qt n))
section
variable{n:Nat}
section
variable{p:Array Nat}
theorem Pm.lt(h:Pm n p)(x:0<n)(i:Nat):p.getD i 0<n:=by
 by_cases c:i<p.size;have e:p.getD i 0=p[i]:=by simp[QB6,c]
 rw[e];have m:p[i]∈p.toList:=by simp
 have:=(qI.mp h).mem_iff.mp m;simpa using this;have e:p.getD i 0=0:=by simp[QB6,c]
 rw[e];exact x
theorem Pm.rev(h:Pm n p)(i j:Nat):Pm n (kas_rev p i j):=(mirror_perm _ _ _ _).trans h
theorem cR{p:Array Nat}(h:Pm n p)(x:0<n):∀(f m:Nat),uD n (λ_=>True) (kas_asc p f m)
 |0,m=>trivial|f+1,m=>#[h.lt x _,h.lt x _,λb=>by
  cases b with|true=>exact trivial|false=>exact cR h x f (m+1)]
theorem uJ(x:0<n):∀(f:Nat) {p:Array Nat}(h:Pm n p) (m q:Nat),uD n (λr=>Pm n r.1) (kas_desc f p m q)
 |0,p,h,m,q=>h|f+1,p,h,m,q=>#[h.lt x _,h.lt x _,λb=>by
  cases b with
  |true=>show uD n _ (if q > 0 then _ else _);split;exact uJ x f (h.rev _ _) _ _;exact uJ x f h _ _|false =>
   refine#[h.lt x _,h.lt x _,λb=>?_];cases b with|true=>exact h|false=>exact uJ x f h _ _]
theorem vP(x:0<n)(h:Pm n p)(a b:Nat):uD n (λr=>Pm n r.2) (kas_tail3 a b p):=by refine uD.bnd (f:=λm=>.ret (m,kas_rev p 0 a)) (λm _=>?_) (cR (h.rev _ _) x _ _);exact h.rev _ _
theorem xJ(x:0<n)(h:Pm n p)(a b:Nat):uD n (λr=>Pm n r.2) (kas_descPart a b p):=by refine uD.bnd (λr y=>?_) (uJ x _ h _ _);split;exact vP x (Pm.rev y _ _) _ _;exact vP x y _ _
theorem K0(x:0<n)(h:Pm n p)(b:Nat):uD n (λr=>Pm n r.2) (kas_count b p):=by
 refine uD.bnd (λm _=>?_) (cR h x _ _);split;exact h;split
 ·refine#[h.lt x _,h.lt x _,λc=>?_]
  cases c with|true=>exact h|false=>exact xJ x (h.rev _ _) _ _
 exact xJ x h _ _
theorem IJ(x:0<n){p:Array Nat}(h:Pm n p)(k:Nat):∀(f l r:Nat),uD n (λ_=>True) (kas_place p k f l r)
 |0,l,r=>trivial|f+1,l,r=>by
  show uD n _ (if l ≥ r then _ else _);split;exact trivial;refine#[h.lt x _,h.lt x _,λb=>?_];cases b with|true=>exact IJ x h k f _ _|false=>exact IJ x h k f _ _
theorem pY(x:0<n):∀(f:Nat) {p:Array Nat}(h:Pm n p) (k:Nat),uD n (Pm n) (kas_bin f p k)
 |0,p,h,k=>h|f+1,p,h,k=>uD.bnd (λl _=>pY x f ((bubble_perm _ _ _).trans h) _) (IJ x h _ _ _ _)
theorem Y8(x:0<n):uD n (Pm n) (kas_sort n):=by refine uD.bnd (λr h=>?_) (K0 x (QBA _) _);split;exact pY x _ h _;exact h
end
end
theorem sO{α:Type}(vs:List α)(d:α):(Qt vs.9).map (λi=>vs.getD i d)=vs:=by apply wE;intro i;rw[Qd];by_cases c:i<vs.9;rw[WP c];simp[c];rw[Q7 (by simp;omega),Q7 ()];rfl
section
variable{prog:vx}{w:v8}{A:Xz}{E:cC}{s:ku}
theorem Jq{M:Model}{vs:LW}{Q:SortKind->ku->Prop}(k:2<=vs.9)(z:∀v∈vs,s.TypeIs v "list")(h:Q ro s):ko M A (keyKind' vs.toArray) Q E s:=by
 cases vs with
 |nil=>simp at k|cons v r =>
  rw[keyKind'_eq,QB7,map_eq_pure_bind];refine QC (QC (kas_mapM (r:=kf) _ (λu y e q=>?_) (QK ?_)));rw[kas_first_eq];exact QC (QCG (z u y) (QK q));rw[t3 (by simp),t3 (by simp),oneTypeOnly'_eq,QB7,map_eq_pure_bind];refine QC (QC (QC (kas_mapM (r:=.type "list") _ (λu y e q=>QCG (z u y) q) (QK ?_))));have b:((v::r).map λ_=>Value.type "list").toArray[0]?=kv (.type "list"):=by simp
  have a:(((v::r).map λ_=>Value.type "list").toArray.all λx=>x==Value.type "list")=true:=by simp only[List.all_toArray,QCI,Ql];intro _ _;rfl
  rw[b];simp only[a,if_true];exact QK (QK h)
theorem Rj{a:k0}{vs:LW}{n:Nat}{P:PySem.Fin->ku->Prop}(Y:s.1.get? a=kv (rn "list" vs.toArray n))(K:vs.9<64)(S:∀v∈vs,∃b o,v=.ref b/\b≠a/\s.1.get? b=kv o/\o.cls=.type "list")
  (G:∀B:v5,(∀b o,b≠a->s.1.get? b=kv o->B.get? b=kv o)->∀x∈vs,∀y∈vs,∀C:Bool->ku->Prop,(∀k,C k { s with heap:=B })->ko (k5 prog w) A (keyLt' ro x y) C (λ_ _=>False) { s with heap:=B })
  (k:∀out:LW,out.Perm vs->P (.done (.ret .none)) { s with heap:=sortedHeap s.1 a vs out.toArray }):ko (k5 prog w) A (Builtin.«list.sort» #[[.ref a],[]]) P E s:=by
 have ha:a<s.1.1.size:=QV Y;have J:=Q3 s.1 a (Q4 λ_=>(#[]:Array kn));obtain⟨Z,X⟩:∃Z,(s.1.update a (Q4 λ_=>(#[]:Array kn))).get? a=kv (rn "list" #[] Z):=#[_,QAE Y λ_=>#[]]
 have r:(((s.1.update a (Q4 λ_=>(#[]:Array kn))).push (rn "tuple" vs.toArray 0)).push (rn "list" #[] 0)).get? a=kv (rn "list" #[] Z):=QH _ (QH _ X);have kept:∀b o,b≠a->s.1.get? b=kv o->(((s.1.update a (Q4 λ_=>(#[]:Array kn))).push (rn "tuple" vs.toArray 0)).push (rn "list" #[] 0)).get? b=kv o:=λb o hb e=>QH _ (QH _ ((J.2 b hb).trans e));rw[list_sort_plain];refine QC (QCJ Y rfl (QC (Wa Y rfl ?_ (by rw[QN];omega) (Qs _))));refine QC (QBX X rfl (QC (QBP ?_ (by show vs.9<=_;omega))));refine QC (QAn (ql ?_) (Qs _));show ko (k5 prog w) A _ P E { s with heap:=((s.1.update a (Q4 λ_=>(#[]:Array kn))).push (rn "tuple" vs.toArray 0)).push (rn "list" #[] 0) };dsimp only;have fin:∀out:LW,out.Perm vs->ko (k5 prog w) A (do
   let h:=(<- seqEpoch a) != Z
   Builtin.List.listUpdate (.ref a) λ_=>out.toArray
   if h then rule "list.sort.modified";raiseError "ValueError" "list modified during sort"
   ret .none) P E { s with heap:=((s.1.update a (Q4 λ_=>(#[]:Array kn))).push (rn "tuple" vs.toArray 0)).push (rn "list" #[] 0) }:=λout m=>by
  have hl:=m.length_eq;refine QC (QBX r rfl (QC (Wa r rfl ?_ (Qs _) (by rw[QN];omega))));simp only[bne_self_eq_false,Qu,if_false];exact QK (k out m)
 by_cases I:vs.9<2;have u:vs.toArray.size<2:=by rw[QN];exact I
 rw[t6 u,t6 u];refine QC (QK ?_);rw[QCa];refine QC (QK ?_);have e:(arrOf (QB8 general' (vs.toArray.zip vs.toArray) #[] 7 kf)).map (·.2)=vs.toArray:=by show(vs.toArray.zip vs.toArray).map (·.2)=_;apply WL.mp;simp[WM]
 dsimp only;rw[e];exact fin vs (QBQ _);have u:¬ vs.toArray.size<2:=by rw[QN];exact I
 rw[t3 u,t3 u];refine QC (Jq () (λv hv=>?_) ?_);let#[b,o,rfl,hb,e,c]:=S v hv;exact#[o,kept b o hb e,c];have F:QB8 ro (vs.toArray.zip vs.toArray) #[] 7 kf=kas_st ro (sf vs) (qG (Qt vs.9)):=by have e:=kas_range (sf vs);rw[pairsOf_size]at e;show QB8 ro (sf vs) #[] 7 kf=QB8 ro ((qG (Qt vs.9)).map (kas_item (sf vs))) #[] 7 kf;rw[e]
 have all:=Y8 (n:=vs.9) ();have f:(kas_sort vs.9).kasWp (kas_cmp prog w A ro (sf vs)) (λp g=>g={ s with heap:=((s.1.update a (Q4 λ_=>(#[]:Array kn))).push (rn "tuple" vs.toArray 0)).push (rn "list" #[] 0) }/\Pm vs.9 p) { s with heap:=((s.1.update a (Q4 λ_=>(#[]:Array kn))).push (rn "tuple" vs.toArray 0)).push (rn "list" #[] 0) }:=by
  rw[<- kas_ask_eq];refine uD.wp (λi j O N C H=>?_) (λp m=>#[rfl,m]) all;have gi:vs.getD i Kz∈vs:=by
   have:vs.getD i Kz=vs[i]:=by simp[O]
   rw[this];exact qz _
  have gj:vs.getD j Kz∈vs:=by
   have:vs.getD j Kz=vs[j]:=by simp[N]
   rw[this];exact qz _
  exact G _ kept _ gi _ gj C H
 have l:=kas_runs (prog:=prog) (w:=w) (A:=A) (E:=E) (Q:=λ_ z g=>∃p:Array Nat,p.size=vs.9/\arrOf z=p.map (kas_item (sf vs))/\ti z=kf/\g={ s with heap:=((s.1.update a (Q4 λ_=>(#[]:Array kn))).push (rn "tuple" vs.toArray 0)).push (rn "list" #[] 0) }/\Pm vs.9 p)
  () K (λM z g a1 a2 a3 a4=>#[M,a1,a2,a3,a4]) f
 rw[<- F]at l;refine QC (qu l ?_ λ_ _ e=>e);rintro⟨⟨⟩,z⟩ g ⟨p,m,W,R,rfl,L⟩;dsimp only;have q:(arrOf z).map (·.2)=qG (p.toList.map λi=>vs.getD i Kz):=by apply WL.mp;rw[W,Array.map_map,Array.toList_map];exact wL λi _=>by show(kas_item (sf vs) i).2=_;rw[kas_item_eq]
 rw[q,R];refine fin _ ?_;have:=(qI.mp L).map λi=>vs.getD i Kz;refine this.trans ?_;show((Qt vs.9).map λi=>vs.getD i Kz).Perm vs;rw[sO]
theorem G9{l:k0}{vs:LW}{Q:cC}(hl:s.1.IsList l vs.toArray)(g:vs.9<64)(X:∀v∈vs,∃b o,v=.ref b/\s.1.get? b=kv o/\o.cls=.type "list")
  (i:∀f:v5,(∀b o,s.1.get? b=kv o->f.get? b=kv o)->∀x∈vs,∀y∈vs,∀C:Bool->ku->Prop,(∀k,C k { s with heap:=f })->ko (k5 prog w) A.in1.in1 (keyLt' ro x y) C (λ_ _=>False) { s with heap:=f })
  (k:∀out:LW,out.Perm vs->Q (.ref (s.1.1.size+1)) { s with heap:=sortedAll s.1 vs out.toArray }):ko (k5 prog w) A (dt (.builtin "sorted") [.ref l]) Q E s:=by
 refine Calls.call_function_entry kind_sorted plain_sorted entry_sorted (args_sorted1 _) ?_;unfold Builtin.«sorted»;refine QC (m:=checkCount "sorted" 1 1 _) (QK (QC (collect_list hl ?_ ())));refine QC (QAn ?_ (by show vs.9<=_;omega));have u:((s.1.push (rn "list" #[] 0)).update s.1.1.size (Q4 (·++vs.toArray))).1.size=s.1.1.size+1:=by rw[QCT,size_push']
 have a:(((s.1.push (rn "list" #[] 0)).update s.1.1.size (Q4 (·++vs.toArray))).push (rn "list" vs.toArray 0)).get? (s.1.1.size+1)=kv (rn "list" vs.toArray 0):=by rw[<- u];exact QO _ rfl
 have z:∀b o,s.1.get? b=kv o->(((s.1.push (rn "list" #[] 0)).update s.1.1.size (Q4 (·++vs.toArray))).push (rn "list" vs.toArray 0)).get? b=kv o:=λb o q=>by have h:b<s.1.1.size:=QV q;refine QH _ ?_;rw[Heap.get?_update_ne _ _ _ _ (Qj h)];exact QH _ q
 show ko _ _ _ _ _ { s with heap:=((s.1.push (rn "list" #[] 0)).update s.1.1.size (Q4 (·++vs.toArray))).push (rn "list" vs.toArray 0) };rw[u];refine QC (ql (qK tt #[_,a,rfl] tv ?body (args_list_sort _)))
 case body =>
  refine Rj (s:={ s with heap:=((s.1.push (rn "list" #[] 0)).update s.1.1.size (Q4 (·++vs.toArray))).push (rn "list" vs.toArray 0) }) a g (λv hv=>?_) (λf j x p y n C Y=>?_) λout r=>#[_,rfl,QK #[_,rfl,k out r]]
  let#[b,o,e,q,c]:=X v hv;have h:b<s.1.1.size:=QV q;exact#[b,o,e,Qj (WD h),z b o q,c];refine i f (λb o q=>?_) x p y n C Y;have h:b<s.1.1.size:=QV q;exact j b o (Qj (WD h)) (z b o q)
end
section
variable{prog:vx}{w:v8}{A:Xz}
theorem Ak(Z:A.handled=kf)(j:k0)(z:Src)(m:z.adr≠j)(y:Array kn)(c:Nat) :
  Draws prog w A j [j,z.adr] (c+y.size) (λi v=>∃k,i=c+k/\y[k]?=kv v) (λi h=>∃k,i=c+k/\gE h j z k/\NB h z y) where
 live:=λ_ _ #[_,_,p,_]=>let#[o,e,_]:=p.obj;#[o,e]
 frame:=λ_ h f #[k,e,p,q] u=>#[k,e,p.keep λo x=>u j (by simp) o x,by
  cases z with|l a=>exact QCW.at q λo x=>u a (by simp[Src.adr]) o x|t a=>let#[o,Y,X]:=q;exact#[o,u a (by simp[Src.adr]) o Y,X]]
 item:=λi s Q E W #[k,e,p,q] n=>by
  have hk:k<y.size:=()
  exact Mb p q (x:=y[k]) (by simp[hk]) λf g b=>n _ f s.toks #[k,e,by simp[hk]] #[k+1,(),g,si q b m] b
 done:=λs Q E #[k,e,p,q] r=>by
  have hk:k=y.size:=()
  exact N5 Z p q (by simp[hk]) r
theorem Ek(r:A.handled=kf)(j:k0)(z:Src)(y:Array kn)(n k:Nat)(v:y[k]?=kf) :
  Draws prog w A j [j,z.adr] n (λ_ _=>False) (λi h=>i=n/\gE h j z k/\NB h z y) where
 live:=λ_ _ #[_,p,_]=>let#[o,e,_]:=p.obj;#[o,e]
 frame:=λ_ h Y #[e,p,q] u=>#[e,p.keep λo x=>u j (by simp) o x,by
  cases z with|l a=>exact QCW.at q λo x=>u a (by simp[Src.adr]) o x|t a=>let#[o,m,g]:=q;exact#[o,u a (by simp[Src.adr]) o m,g]]
 item:=λi s Q E b #[e,_,_] X=>Uz b ()
 done:=λs Q E #[_,p,q] f=>N5 r p q v f
def Gy(K:QA)(z:Src)(c:Nat):It :=
  #[λi H=>∃h x,G0 K H z h/\h[i]?=kv x,
   λi H v y=>∃p x,H p=kf/\v=.ref p/\y=pA H p (.tup [.int ((c+i:Nat):Int),x])/\∀h,G0 K H z h->h[i]?=kv x,
   λi H=>∃h,G0 K H z h/\h.9<=i]
def TW(e j:k0)(z:Src)(c i:Nat)(h:v5):Prop:=(∃x,IsEnum h e j ((c+i:Nat):Int) x)/\gE h j z i
theorem BY{P:vx}{K:QA}{es:List Expr}{kk:Nat}{pp:Pos}{e j:k0}{z:Src}{c:Nat}(L:e≠j)(n2:z.adr≠e)(n3:z.adr≠j) :
  Turn P w K (.Tuple es kk pp) (Gy K z c) [e,j] e (TW e j z c) where
 mem:=by simp
 obj:=λi h st b hb=>by let#[#[a,g],n]:=st;simp only[QM,wt,or_false]at hb;rcases hb with rfl|rfl;exact#[_,g,λv q=>by cases(show Data.fields _=Data.cell v from q)];exact n.obj
 keep:=λi h h' st k=>by let#[#[a,g],n]:=st;exact#[#[a,k e (by simp) _ g],n.keep λo x=>k j (by simp) o x]
 item:=by
  intro X O M Q hc i r s σ H E I B st N;subst O M Q;let#[xs,x,C,ex]:=N;let#[f,J,F,_]:=I.src C;let#[u,hu,ru]:=J.get ex;let#[#[a,g],n]:=st;have hi:i<f.toArray.size:=by have:=(Qf.mp hu).1;simpa using this
  refine wpAny_pyNext_enum_itemD (Ak (show X.A.in1.handled=kf from I.ok.hd hc) j z n3 f.toArray c) g #[i,rfl,n,F] () L (by simp[L,Qm n2]) λy h' W #[k,ek,hy] b1 b2 b3 b4 b5=>?_;have ek:k=i:=()
  subst ek;have ey:y=u:=by
   have:f.toArray[k]?=kv u:=by simpa using hu
   rw[this]at hy;exact(Qi hy).symm
  subst ey;refine#[_,rfl,wpAny_letOwnedTupleGo_enum b1 λp c1 G=>?_];let#[k2,Z,b2,b2']:=b2;have Z:k2=k+1:=()
  subst Z;have hp:=I.hok.fresh (QT s.1.1.size);have Y:e<s.1.1.size:=QV g;have m:∀b∈[e,j],b<s.1.1.size:=λb hb=>by simp only[QM,wt,or_false]at hb;rcases hb with rfl|rfl;exact Y;exact n.lt
  have kept:∀b o,b∉[e,j]->s.1.get? b=kv o->p.get? b=kv o:=λb o hb q=>by simp only[QM,wt,or_false,not_or]at hb;exact(G.2 b hb.1).trans (b5 b o hb.1 hb.2 q)
  have l:p.get? s.1.1.size=kv { cls:=.type "tuple",data:=.seq (qG [.int ((c+k:Nat):Int) W,y]) }:=(G.2 _ (wy Y)).trans b3;have I1:=I.pair (x:=.int ((c+k:Nat):Int)) (h':=s.1.push { cls:=.type "tuple",data:=.seq (qG [.int ((c+k:Nat):Int) W,y]) }) (t':=W+1) (λb o e=>QH _ e) (QT _) (QO _ rfl) #[_,rfl] ru;have I2:=I1.turnedL (h':=p) (t':=W+1) (ch:=[e,j]) (λb o hb e=>by
   rcases QBI e with⟨q1,q2⟩| q;subst q1 q2;exact l;exact kept b o hb q) λb hb=>by
   let#[f0,f1,f2,f3,S,R]:=B b hb;exact#[by rw[jA (Qj (m b hb))];exact f0,f1,f2,f3,S,R]
  refine#[.ref s.1.1.size,_,I2,rfl,#[s.1.1.size,x,hp,rfl,rfl,λxs' g1=>?_],#[#[y,?_],b2.keep λo q=>(G.2 _ (Qm L)).trans q],λb hb=>?_];rw[I.src_inj g1 C];exact ex;have:(((c+(k+1):Nat)):Int)=((c+k:Nat):Int)+1:=()
  rw[this];exact c1;rw[jA (Qj (m b hb))];exact(B b hb).1
 done:=by intro X O M Q hc i r s σ H E I B st N;subst O M Q;let#[xs,C,en]:=N;let#[f,J,F,_]:=I.src C;let#[#[a,g],n]:=st;have l1:=J.9;let#[f0,f1,f2,f3,S,R]:=B j (by simp);exact wpAny_pyNext_enum_endD (Ek (show X.A.in1.handled=kf from I.ok.hd hc) j z f.toArray 0 i (by simp;omega)) g #[rfl,n,F] λh' eb=>#[rfl,I.turned (t':=s.toks) (λb o hb e=>eb b o hb e) f0 f1 f3 S R]
 self:=λ_ _ _ _ _ st h=>by let#[#[a,g],_]:=st;exact QB9 g h
end
theorem PZ(z:Src)(xs:Array kn):Meets (Builtin.«enumerate.__new__» #[[.type "enumerate",.ref z.adr],[]]) (λ_ R s=>NB s.1 z xs /\
   R (.ok (.ret (.ref (s.1.push z.it).1.size))) { s with heap:=(s.1.push z.it).push { cls:=.type "enumerate",data:=.fields (qG [.none,.bool kb,.ref s.1.1.size,g7 0,.none,.none]) } }) :=
 .of_wp λy w A R s h=>by
  let#[b,g,d,v,a]:=s;let#[k,h]:=h;have u:=sub_enumerate;have x:NB (Shared.heap #[b,g,d,v,a]) z xs:=k;wp_walk;refine wpAny_stack_any λst=>QK ?_;split;rename_i cl _ _ _ _ _;cases(cl==Value.type "enumerate")<;>(wp_walk using NR x;exact#[_,rfl,h])
  wp_walk using NR x;exact#[_,rfl,h]
section
variable{prog:vx}{w:v8}{A:Xz}{E:cC}{s:ku}
theorem bY{h:v5}{z:Src}{n:Int}:IsEnum ((h.push z.it).push { cls:=.type "enumerate",data:=.fields (qG [.none,.bool kb,.ref h.1.size,g7 n,.none,.none]) }) (h.1.size+1) h.1.size n .none:=by have:=QO (h.push z.it) (o:={ cls:=.type "enumerate",data:=.fields (qG [.none,.bool kb,.ref h.1.size,g7 n,.none,.none]) }) rfl;rw[WK]at this;exact this
theorem CW{z:Src}{xs:Array kn}{Q:cC}(y:NB s.1 z xs)
  (h:∀h',TW (s.1.1.size+1) s.1.1.size z 0 0 h'->(∀c o,s.1.get? c=kv o->h'.get? c=kv o)->Q (.ref (s.1.1.size+1)) { s with heap:=h' }):ko (k5 prog w) A (dt (.type "enumerate") [.ref z.adr]) Q E s:=by
 refine callType_new PySem.F.called_enumerate (by decide) (PySem.F.typeCall_enumerate_1 _) (PySem.F.newCall_enumerate_1 _) (λobj=>PySem.F.args_object_init_2 obj _) PySem.F.entry_enumerate_new (PZ z xs) #[y,?_];show _/\_;rw[WK];exact#[#[_,bY,rfl],h _ #[#[.none,bY],(F9 s.1 z).keep λo e=>QH _ e] λc o x=>QH _ (QH _ x)]
end
theorem lz{a b:Nat}(h:a≠b):((a:k0)≠(b:k0)):=h
open L2 HT
noncomputable def iC:LJ->LJ->Bool
 |[],[]=>kd|[],_::_=>kb|_::_,[]=>kd|x::xs,y::ys=>if x=y then iC xs ys else decide (y<=x)
theorem PV(x y:Int)(xs h:LJ):iC (x::xs) (y::h)=if x=y then iC xs h else decide (y<=x):=rfl
theorem FN:iC [] []=true:=rfl
theorem KM(y:Int)(h:LJ):iC [] (y::h)=false:=rfl
theorem VM(x:Int)(xs:LJ):iC (x::xs) []=true:=rfl
theorem E3(A:Xz)(s:ku)(a:Int)(t:Tok)(c:Int)(u:Tok)(prog:vx)(w:v8)(E:cC)(Q:cC)(h:Q (.bool (decide (c<=a))) s) :
  ko (k5 prog w) A (richCompare .GtE (.int a t) (.int c u)) Q E s :=
 (PyProof.Rows.ge_int h:ko (k5 prog w) A (vu .GtE (.int a t) (.int c u)) Q E s)
section
open PySem.SeqAt
open PySem.AutoSeq1 (wpAny_loadPart')
open PySem.MeetsSeq PySem.MeetsSeq2 PySem.MeetsSeq3
theorem KN(l b:k0)(v z:Array kn)(n Q:Nat)(dd M:Option k0)(P I:Array (Option kn))(ns F:LJ)(O:ri v.toList ns)(N:ri z.toList F) :
  Meets (Builtin.«tuple.__ge__» #[[.ref l,.ref b],[]])
   (λ_ R s=>s.1.get? l=kv { cls:=.type "tuple",dict:=dd,data:=.seq v n,slots:=P }/\s.1.get? b=kv { cls:=.type "tuple",dict:=M,data:=.seq z Q,slots:=I } /\
    R (.ok (.ret (.bool (iC ns F)))) s) :=
 .of_wp λp w A R s h=>by
  let#[G,g,d,C,E]:=s;let#[hl,hb,h]:=h;have f2:=AutoSeq1.sub_tuple_tuple;have z1:v.size=ns.length:=by rw[<- O.9];simp
  have z2:z.size=F.length:=by rw[<- N.9];simp
  wp_walk using Q0 hl,Q0 hb,QCO _ (λo b J=>b.1=kf/\J=#[G,g,d,C,E]/\∃(B ws:LW) (f i:LJ),o=B.zip ws /\
   ri B f/\ri ws i/\f.9+z.size=i.9+v.size/\R (.ok (.ret (.bool (iC f i)))) #[G,g,d,C,E]) _
  case turn =>
   rintro⟨y,x⟩ o b J ⟨Z,rfl,B,ws,f,i,j,Y,m,k,X⟩;cases Y with
   |nil=>rw[List.zip_nil_left]at j;cases j|cons a t K =>
    cases m with
    |nil=>rw[List.zip_nil_right]at j;cases j|cons c u W =>
     rw[wx]at j;injection j with hyx hrest;injection hyx with hy hx;subst hy hx;rw[PV]at X;simp only[QL]at k;let#[e,H,r]:=U7 A.in1 #[G,g,d,C,E] a t c u;refine QC (H p w _ _ ?_);cases e with|true=>rw[t6 (r.mp rfl)]at X;wp_walk;exact#[rfl,rfl,_,_,_,_,hrest,K,W,(),X]|false=>rw[t3 (λq=>Uz (r.mpr q) QG)]at X;have L:=E3 A.in1 #[G,g,d,C,E] a t c u p w;wp_walk using L;exact#[_,rfl,by simpa using X]
  case fin =>
   rintro⟨b1,b2⟩ J ⟨Z,rfl,B,ws,f,i,j,Y,m,k,X⟩;simp only at Z;subst Z;have hv:iC f i=decide (z.size<=v.size):=by
    cases Y with
    |nil =>
     cases m with|nil=>simp only[qY]at k;rw[FN];exact(dT ()).symm|cons c u S=>simp only[qY,QL]at k;rw[KM];exact(dF ()).symm
    |cons a t hv =>
     cases m with|nil=>simp only[qY,QL]at k;rw[VM];exact(dT ()).symm|cons c u S=>rw[wx]at j;cases j
   rw[hv]at X;wp_walk;exact#[_,rfl,by simpa[Builtin.Tuple.tupleCompareSizes]using X]
  case h=>exact#[rfl,rfl,v.toList,z.toList,ns,F,rfl,O,N,(),h]
end
section
variable{prog:vx}{w:v8}{A:Xz}{E:cC}{s:ku}
section
variable{prog:vx}{w:v8}{A:Xz}{E:cC}{s:ku}
theorem kW{l b:k0}{z y:Array kn}{ns u:LJ}{Q:cC}(hl:tj s.1 l z)(hb:tj s.1 b y)(Y:ri z.toList ns)(X:ri y.toList u)
  (r:A.units<Z1) (h:Q (.bool (iC ns u)) s):ko (k5 prog w) A (vu .GtE (.ref l) (.ref b)) Q E s:=by
 let#[#[W,Z,m,p],i,hc,n,j]:=id hl;let#[#[o,f,g,e],v,a,q,k]:=id hb;simp only at hc j a k;subst hc j a k;exact richCompare_meets_room (op:=.GtE) #[_,i,rfl] #[_,v,rfl] PySem.F.slot_tuple_ge PySem.F.entry_tuple_ge (PySem.F.args_tuple_ge_2 _ _) (KN l b z y n q Z f p e ns u Y X)
  #[i,v,show Value.bool (iC ns u)≠Value.notImplemented/\Q (.bool (iC ns u)) s from#[(λx=>nomatch x),h]] r
end
section
variable{X:Cx}
def Vi(K:QA):R2:=λx y H Q=>PY (λi j=>decide (j<=i)) x y H Q∨∃a b h z,x=.ref a/\y=.ref b/\xD K H a (h.map V.int)/\xD K H b (z.map V.int)/\Q (.bl (iC h z)) H
theorem xj(r:X.A.units<Z1):SE X (vu .GtE) (Vi X.K):=by
 intro z s g H x y v u Q I e k h;rcases h with h|⟨a,b,n,o,rfl,rfl,Y,hb,q⟩
 exact jQ _root_.L2.op_ge z s g H x y v u Q I e k h;cases e;cases k;let#[p,j,m,_]:=I.tuple Y;let#[f,i,l,_]:=I.tuple hb;exact kW m l (VH j) (VH i) r #[.bl (iC n o),H,I,rfl,q]
theorem zS:∀(us:LW) (k n:Nat),us.9=n->(∀(j:Nat) v,us[j]?=kv v->∃t,v=.int ((k+j:Nat):Int) t)->sA ((WQ k n).map λ(i:Nat)=>V.int (i:Int)) us
 |[],_,n,h,_=>by have h:n=0:=h.symm;subst h;exact .nil|u::us,k,n,h,q=>by have h:n=us.9+1:=h.symm;subst h;let#[t,e]:=q 0 u rfl;exact .cons #[t,e] (zS us (k+1) us.9 rfl λj v e=>by let#[t,e]:=q (j+1) v e;exact#[t,by rw[e];congr 1;omega])
def Zi:V->Hp->VK->Prop:=λx H Q=>∃j:Nat,x=.int (j:Int)/\j<=1000/\∀l,H l=kf->Q (.ref l) (pA H l (.lst ((WQ 0 j).map λ(i:Nat)=>V.int (i:Int))))
theorem Ai{a:Expr}{ta:TE}{W p2 pos y:Pos}(hc:X.calm=kd)(L:Gl X "list")(J:Gl X "range")(B:X.mg "list"=kf)(K:X.mg "range"=kf)(G:PE X a ta)(st:v9 [a] X.env=(kb,Gz a X.env)::v9 [] X.env) :
  PE X (.Call (.Name "list" W) [.Call (.Name "range" p2) [a] [] y] [] pos) λσ H Q=>ta σ H λx r=>Zi x r Q:=by
 intro z s σ H Q I h;refine qw (xF I L B (by kernel_rfl:y2 ("list":Str)=kv (.type "list")) ?_);refine qZ ?_ rfl rfl;show ko _ _ (bb ((kb,Gz (.Call (.Name "range" p2) [a] [] y) X.env)::[])) _ _ s;refine wM ?_;refine qw (xF I J K QCf ?_);refine qZ ?_ st rfl;rw[st];show ko _ _ (bb ((kb,Gz a X.env)::[])) _ _ s;refine wM (OB (G z s σ H _ I h) λu g #[x,r,m,Z,j,e,M,q]=>WB ?_);subst e;let#[t,rfl]:=Z;refine QCK (WB ?_);have F:X.A.handled=none:=m.ok.hd hc;refine call_list_range (n:=j) F (QO _ rfl) (pc (by decide) (by decide) () ()) (by rw[QBl];split<;>omega) () λh' Y k c C f p=>?_;have l:∀b o,g.1.get? b=kv o->h'.get? b=kv o:=λb o e=>C b o (QH _ e);refine#[.ref (g.1.1.size+1),_,m.laid (t':=Y) (h':=h') l (wJ _) (show GA X.prog X.w _ _ _ (.lst ((WQ 0 j).map λ(i:Nat)=>V.int (i:Int))) from#[by rw[QE,List.length_range'];omega,k.toList,c,zS k.toList 0 j (by rw[Qn];exact p.1) (λi v hv=>?_),?_]),by rw[WK];rfl,q _ (m.hok.fresh (wJ _))];let#[t,e]:=p.2 i v (by rw[<- hv,wN]);exact#[t,by rw[e];congr 1;omega];have f:h'.get? (g.1.push _).1.size=_:=f;rw[WK]at f;rw[f]
end
end
inductive Bi where
 |len|any|all|list|sorted|tuple|int
 deriving DecidableEq
inductive Mt where
 |append|pop|setd|extend
 deriving DecidableEq
inductive ItK where
 |val|rng1|enum|itm
 deriving DecidableEq
inductive Tg where
 |nm (i:Nat)|tp (is:LN)
 deriving DecidableEq
set_option genSizeOf false in
set_option genInjectivity false in
inductive PX where
 |var (i:Nat)|int (i:Int)|str (x:Str)|bl (b:Bool)|non
 |glo (x:Str)|bty (x:Str) (n:String)
 |bin (op:gV) (a b:PX)
 |cmp (op:h7) (a b:PX)
 |and (a b:PX)|or (a b:PX)|not (a:PX)
 |call (f:Str) (as:PX)
 |bi (f:Bi) (as:PX)|isi (a c:PX)
 |mt (m:Mt) (o as:PX)
 |idx (a b:PX)|slc (a lo hi:PX)|nop
 |lst (as:PX)|tup (as:PX)|dnew (b:Bool)|dsp (a b:PX)
 |comp (mask:List Bool) (tgs:LS) (tg:Tg) (ik:ItK) (its cond elt:PX)
 |anil|acons (a as:PX)|mv (i:Nat)|ng (i:Int)|lrg (a:PX)
structure Ev where
 sp:Str->Sp
 va:Str->V
structure W3 where
 e:TE
 t:TT
 a:TA
def never:W3:=#[λ_ _ _=>False,λ_ _ _=>False,λ_ _ _=>False]
def DF(K:QA)(x:V)(H:Hp)(Q:Bool->Hp->Prop):Prop:=match x with
 | .bl b=>Q b H|.int i=>Q (i != 0) H|.non=>Q kb H|.str z=>z.9<=kt/\Q ((z.9:Int) != 0) H|x=>∃k,om K x H k/\Q k H
def J8(x:V)(H:Hp)(Q:Bool->Hp->Prop):Prop:=match x with
 | .bl b=>Q b H|_=>False
def Kd(K:QA):gV->R2
 | .Add=>bp K|.Sub=>Po|.Mult=>Ao K|.FloorDiv=>Ye|.Mod=>Eo|_=>λ_ _ _ _=>False
noncomputable def EX(neg:Bool):R2:=λx y H Q=>match y with
 | .non=>Q (.bl (if neg then !decide (x=.non) else decide (x=.non))) H|.bl c=>∃b,x=.bl b/\Q (.bl (if neg then !decide (b=c) else decide (b=c))) H|_=>False
def R7(K:QA):h7->R2
 | .Eq=>rEq K kb|.NotEq=>rEq K kd|.Lt=>PY λi j=>decide (i<j)|.LtE=>PY λi j=>decide (i<=j)|.Gt=>PY λi j=>decide (j<i)|.GtE=>Vi K|.In=>bS K kb|.NotIn=>bS K kd|.Is=>EX kb|.IsNot=>EX kd
def uS(K:QA):R2:=λx y H Q=>match x,y with
 | .str z,.int i=>z.9<=kt/\∃c,fE z.cps.toList i=kv c/\Q (.str #[(qG [c])]) H|.ref a,.int i=>∃h v,(jC K H a h∨xD K H a h)/\fE h i=kv v/\Q v H|.ref a,.str z=>∃v,nR K H a (.str z) (kv v)/\Q v H|.ref a,.ref b=>∃v,nR K H a (.ref b) (kv v)/\Q v H|_,_=>False
def E9(K:QA):LV->Hp->VK->Prop:=λx H Q=>∃p h,x=[.ref p]/\(jC K H p h∨xD K H p h)/\∀l,H l=kf->Q (.ref l) (pA H l (.lst h))
def nX(K:QA):LV->Hp->VK->Prop:=λk H Q=>∃p,k=[.ref p]/\((∃z:LS,jC K H p (z.map V.str)/\z.9<64/\∀l h,H l=kf->h.Perm z->Tz h=kd->Q (.ref l) (pA H l (.lst (h.map V.str)))) ∨
   (∃u,jC K H p u/\u.9<64/\(∀x∈u,∃a,∃z:LS,x=.ref a/\jC K H a (z.map V.str))/\∀l w,H l=kf->w.Perm u->Q (.ref l) (pA H l (.lst w))) ∨
   (∃v:LJ,jC K H p (v.map V.int)/\v.9<64/\∀l (y:LJ),H l=kf->y.Perm v->y.Pairwise (·<=·)->Q (.ref l) (pA H l (.lst (y.map V.int)))))
def v4(K:QA):LV->Hp->VK->Prop:=λx H Q=>∃p h,x=[.ref p]/\jC K H p h/\∀l,H l=kf->Q (.ref l) (pA H l (.tup h))
def Je:LV->Hp->VK->Prop:=λh H Q=>∃b:Bool,h=[.bl b]/\Q (.int (if b then 1 else 0)) H
def Gr(K:QA):Bi->LV->Hp->VK->Prop
 | .len=>Io K|.all=>xp K|.any=>vp K|.list=>E9 K|.sorted=>nX K|.tuple=>v4 K|.int=>Je
def ae:V->LV->Hp->VK->Prop:=λx y H Q=>∃l i h k v,x=.ref l/\y=[.int i]/\H l=kv (.lst h)/\JU h.9 i=kv k/\h[k]?=kv v/\Q v (pA H l (.lst (h.eraseIdx k)))
def Ze:V->LV->Hp->VK->Prop:=λx z H Q=>∃l b y h,x=.ref l/\z=[.ref b]/\H l=kv (.lst y)/\H b=kv (.lst h)/\y.9+h.9<=kt/\Q .non (pA H l (.lst (y++h)))
def Ab(K:QA):Mt->V->LV->Hp->VK->Prop
 | .append=>oI|.pop=>ae|.setd=>kL K|.extend=>Ze
noncomputable def Mt.ty:Mt->String
 | .append=>"list"|.pop=>"list"|.setd=>"dict"|.extend=>"list"
def dM(x:V)(H:Hp)(Q:Option Int->Hp->Prop):Prop:=match x with
 | .int i=>Q (kv i) H|_=>False
inductive Item where
 |one (v:V)|tup (vs:LV)
def uC(K:QA):ItK->LV->Hp->(List Item->(Hp->Prop)->Hp->Prop)->Prop
 | .val,[.ref a],H,R=>(∃x,jC K H a x/\R (x.map .one) (λH=>jC K H a x) H)∨(∃x,xD K H a x/\R (x.map .one) (λH=>xD K H a x) H)∨(∃y,∃h:List KE,H a=kv (.dT y h)/\R (h.map λp=>.one (.ref p.2.1)) (λH=>H a=kv (.dT y h)) H)|.rng1,[.int j],H,R=>(-(2 ^ 62)<=j/\j<2 ^ 62)/\R ((Qt j.toNat).map λ(i:Nat)=>.one (.int (i:Int))) (λ_=>True) H|.enum,[.ref a],H,R=>∃z x,Src.adr z=a/\G0 K H z x/\R (x.zipIdx.map λp=>.tup [.int (p.2:Int),p.1]) (λH=>G0 K H z x) H|.itm,[.ref a],H,R=>∃y,∃h:List KE,H a=kv (.dT y h)/\R (h.map λp=>.tup [.ref p.2.1,p.2.2]) (λH=>H a=kv (.dT y h)) H|_,_,_,_=>False
noncomputable def cB:LN->LV->St->Option St
 |[],[],σ=>kv σ|i::is,v::vs,σ=>cB is vs (σ.set i (kv v))|_,_,_=>kf
def gG(K:QA):Tg->TG
 | .nm i=>λv x H Q=>Q (x.set i (kv v)) H|.tp z=>λv x H Q=>match v with
  | .ref p=>∃y h,xD K H p y/\cB z y x=kv h/\Q h H|_=>False
def bindI(K:QA)(z:Tg):Item->St->Hp->(St->Hp->Prop)->Prop
 | .one v=>gG K z v|.tup y=>λx H Q=>match z with
  | .tp w=>∀u,Same H u->∃h,cB w y x=kv h/\Q h u|.nm i=>∀p,H p=kf->Q (x.set i (kv (.ref p))) (pA H p (.tup y))
def kr(K:QA)(xs:List Item)(st:Hp->Prop)(bind:Item->St->Hp->(St->Hp->Prop)->Prop)(tc:TT)(te:TE)(σ:St)(H:Hp)(Q:VK):Prop :=
 ∃W:Nat->LV->Hp->Prop,W 0 [] H/\(∀i h H,i<=xs.9->W i h H->st H) /\
  (∀i x h H,xs[i]?=kv x->W i h H->bind x σ H λz u=>tc z u λb v=>if b=kd then te z v λy w=>h.9<kt/\W (i+1) (h++[y]) w else W (i+1) h v) /\
  ∀h u,W xs.9 h u->h.9<=kt/\∀p,u p=kf->Q (.ref p) (pA u p (.lst h))
structure Yields(J:It)(xs:List Item)(st:Hp->Prop):Prop where
 go:∀i H,st H->i<xs.9->J.go i H
 yld:∀i H x H',st H->i<xs.9->J.yld i H x H'->∃it,xs[i]?=kv it/\match it with
  | .one v=>x=v/\H'=H|.tup vs=>∃p,H p=kf/\x=.ref p/\H'=pA H p (.tup vs)
 stop:∀i H,st H->xs.9<=i->J.stop i H
def vr(J:It)(g:TG)(tc:TT)(te:TE)(k:St)(l:Hp)(Q:VK):Prop:=∃W:Nat->Nat->LV->St->Hp->Prop,(∃m,W 0 m [] k l) /\
 ∀i m h v u,W i m h v u->(J.stop i u/\h.9<=kt/\∀p,u p=kf->Q (.ref p) (pA u p (.lst h))) ∨
  (J.go i u/\∀x e,J.yld i u x e->g x v e λz j=>tc z j λb a=>if b=kd then te z a λy f=>h.9<kt/\∃w,w < m/\W (i+1) w (h++[y]) z f else ∃w,w < m/\W (i+1) w h z a)
def YY(K:QA)(xs:List Item)(st:Hp->Prop)(x:Tg)(tc:TT)(te:TE)(h:St)(H:Hp)(Q:VK):Prop:=∀J,Yields J xs st->vr J (gG K x) tc te h H Q
def isNop:PX->Bool
 | .nop=>kd|_=>kb
def wp(K:QA)(Γ:Ev):PX->XK->W3
 | .mv i,E=>#[λh H Q=>match h[i]? with
   |some (kv v)=>Q v H|_=>False,never.t,never.a]
 | .var i,E=>let e:TE:=λh H Q=>match h[i]? with
   |some (kv v)=>Q v H|_=>False
  #[e,λh H Q=>e h H λx z=>DF K x z Q,never.a]
 | .int i,E=>#[λ_ H Q=>Q (.int i) H,λ_ H Q=>Q (i != 0) H,never.a]|.str x,E=>#[λ_ H Q=>Q (.str x) H,never.t,never.a]|.bl b,E=>#[λ_ H Q=>Q (.bl b) H,λ_ H Q=>Q b H,never.a]|.non,E=>#[λ_ H Q=>Q .non H,λ_ H Q=>Q kb H,never.a]|.glo x,E=>#[λ_ H Q=>Q (Γ.va x) H,λ_ H Q=>DF K (Γ.va x) H Q,never.a]|.bty _ n,E=>#[λ_ H Q=>Q (.ty n) H,never.t,never.a]|.bin op a b,E=>let e:TE:=λh H Q=>(wp K Γ a E).e h H λx z=>(wp K Γ b E).e h z λy w=>Kd K op x y w Q
  #[e,λh H Q=>e h H λx z=>DF K x z Q,never.a]
 | .cmp op a b,E=>let e:TE:=λh H Q=>(wp K Γ a E).e h H λx z=>(wp K Γ b E).e h z λy w=>R7 K op x y w Q
  #[e,λh H Q=>e h H λx z=>J8 x z Q,never.a]
 | .and a b,E=>#[λh H Q=>(wp K Γ a E).e h H λx z=>J8 x z λc w=>if c=kd then(wp K Γ b E).e h w Q else Q (.bl kb) w,
   λh H Q=>(wp K Γ a E).t h H λc z=>if c=kd then(wp K Γ b E).t h z Q else Q kb z,never.a]
 | .or a b,E=>#[λh H Q=>(wp K Γ a E).e h H λx z=>J8 x z λc w=>if c=kd then Q (.bl kd) w else(wp K Γ b E).e h w Q,
   λh H Q=>(wp K Γ a E).t h H λc z=>if c=kd then Q kd z else(wp K Γ b E).t h z Q,never.a]
 | .not a,E=>#[λh H Q=>(wp K Γ a E).e h H λx z=>DF K x z λc w=>Q (.bl (!c)) w,λh H Q=>(wp K Γ a E).t h H λc z=>Q (!c) z,never.a]|.call f as,E=>let e:TE:=λh H Q=>(wp K Γ as E).a h H λg z=>Γ.sp f g z Q E
  #[e,λh H Q=>e h H λx z=>DF K x z Q,never.a]
 | .bi f as,E=>let e:TE:=λh H Q=>(wp K Γ as E).a h H λg z=>Gr K f g z Q
  #[e,λh H Q=>e h H λx z=>DF K x z Q,never.a]
 | .isi a c,E=>let e:TE:=λh H Q=>(wp K Γ a E).e h H λx z=>(wp K Γ c E).e h z λy w=>Ki K [x,y] w Q
  #[e,λh H Q=>e h H λx z=>DF K x z Q,never.a]
 | .mt m o as,E=>let e:TE:=λh H Q=>(wp K Γ o E).e h H λx z=>BU K m.ty x z/\(wp K Γ as E).a h z λg w=>Ab K m x g w Q
  #[e,λh H Q=>e h H λx z=>DF K x z Q,never.a]
 | .idx a b,E=>let e:TE:=λh H Q=>(wp K Γ a E).e h H λx z=>(wp K Γ b E).e h z λy w=>uS K x y w Q
  #[e,λh H Q=>e h H λx z=>DF K x z Q,never.a]
 | .slc a lo hi,E=>#[λh H Q=>(wp K Γ a E).e h H λx z =>
   (if isNop lo=kd then λ(R:Option Int->Hp->Prop)=>R kf z else λR=>(wp K Γ lo E).e h z λl w=>dM l w R) λl w =>
   (if isNop hi=kd then λ(R:Option Int->Hp->Prop)=>R kf w else λR=>(wp K Γ hi E).e h w λu j=>dM u j R) λu j=>jt K x l u j Q,never.t,never.a]
 | .nop,E=>never|.lst as,E=>#[λh H Q=>(wp K Γ as E).a h H λk z=>k.9<=kt/\∀p,z p=kf->Q (.ref p) (pA z p (.lst k)),never.t,never.a]|.tup as,E=>#[λh H Q=>(wp K Γ as E).a h H λk z=>k.9<=kt/\∀p,z p=kf->Q (.ref p) (pA z p (.tup k)),never.t,never.a]|.comp mask tgs tg ik its cond elt,E=>#[λh H Q=>(wp K Γ its E).a h H λg z=>uC K ik g z λk st w =>
   YY K k st tg (if isNop cond=kd then λ_ H Q=>Q kd H else(wp K Γ cond (λ_ _ _=>False)).t) (wp K Γ elt (λ_ _ _=>False)).e (NI tgs.9 mask h) w Q,never.t,never.a]
 | .dnew b,E=>#[λ_ H Q=>∀p,H p=kf->Q (.ref p) (pA H p (.dT 0 [])),never.t,never.a]|.dsp a b,E=>#[λh H Q=>∀p,H p=kf->(wp K Γ a E).e h (pA H p (.dT 0 [])) λy z=>(wp K Γ b E).e h z λv w=>w p=kv (.dT 0 [])/\∃b q,y=.ref b/\vO K w b q/\∀r,Q (.ref p) (pA w p (.dT r [(q,b,v)])),never.t,never.a]|.ng i,E=>#[λh H Q=>Q (.int (-i)) H,never.t,never.a]|.lrg a,E=>#[λh H Q=>(wp K Γ a E).e h H λx z=>Zi x z Q,never.t,never.a]|.anil,E=>#[never.e,never.t,λ_ H Q=>Q [] H]|.acons a as,E=>#[never.e,never.t,λh H Q=>(wp K Γ a E).e h H λx z=>(wp K Γ as E).a h z λk w=>Q (x::k) w]
structure Glob where
 ev:Ev
 fn:Str->Prop
 val:Str->Prop
 no:Str->Prop
noncomputable def Bi.nm:Bi->Str
 | .len=>"len"|.all=>"all"|.any=>"any"|.list=>"list"|.sorted=>"sorted"|.tuple=>"tuple"|.int=>"int"
noncomputable def Mt.nm:Mt->Str
 | .append=>"append"|.pop=>"pop"|.setd=>"setdefault"|.extend=>"extend"
def Xq(G:Glob):ItK->Prop
 | .val=>True|.rng1=>G.no "range"|.enum=>G.no "enumerate"|.itm=>True
def yB(G:Glob):PX->Prop
 | .glo x=>G.val x|.bty x n=>G.no x/\y2 x=kv (.type n)|.bin _ a b | .cmp _ a b | .and a b | .or a b | .idx a b | .acons a b | .dsp a b=>yB G a/\yB G b
 | .not a | .lst a | .tup a=>yB G a
 | .lrg a=>G.no "list"/\G.no "range"/\yB G a|.slc a b c=>yB G a/\yB G b/\yB G c|.call f y=>G.fn f/\yB G y|.bi f y=>G.no f.nm/\yB G y|.isi a c=>G.no "isinstance"/\yB G a/\yB G c|.mt _ o y=>yB G o/\yB G y|.comp _ _ _ v z h u=>Xq G v/\yB G z/\yB G h/\yB G u|_=>True
structure SC where
 N:LS
 sc:gl
def CC:Expr->Bool
 | .Starred _ _=>kb|_=>kd
noncomputable def J9(S:SC)(i:Nat)(x:Str):Bool :=
 S.N[i]?==kv x&&(S.sc.names.lookup x==kv .local||S.sc.names.lookup x==kv .cell||S.sc.names.lookup x==kv .free)&&x != "__debug__" && x != "__classdict__"
noncomputable def Aj(S:SC)(i:Nat)(x:Str):Bool:=S.N[i]?==kv x&&S.sc.names.lookup x==kv .local
noncomputable def gT(S:SC)(x:Str):Bool:=S.sc.names.lookup x==kv .globalImplicit&&x != "__debug__" && x != "__name__"
def mY(S:SC)(h:gl)(y:LS)(x:List Bool):SC:=#[y++XB x 0 S.N,RL h S.sc]
def UJ:LS->Bool
 |[]=>kd|x::r=>!r.contains x&&UJ r
def O7(S:SC)(h:gl)(z:LS)(x:List Bool):Bool :=
 h.kind==.function&&h.names.all (λy=>y.2 != .cell&&(y.2 != .local||(h.names.lookup y.1==kv .local&&(z.contains y.1||y.1==(".0":Str)))) &&
  (y.2 != .free||S.sc.names.lookup y.1==kv .cell||S.sc.names.lookup y.1==kv .free))&&UJ (z++XB x 0 S.N)&&!(z++XB x 0 S.N).contains (".0":Str)
noncomputable def Sm(c:Bool)(S:SC)(i:Nat)(x:Str):Bool:=S.N[i]?==kv x&&(S.sc.names.lookup x==kv .local||(c&&S.sc.names.lookup x==kv .cell))
def su(c:Bool)(S:SC):Tg->Expr->Bool
 | .nm i,.Name x _=>Sm c S i x|.tp is,.Tuple es _ _=>is.9==es.9&&(is.zip es).all λp=>match p.2 with
  | .Name x _=>Sm c S p.1 x|_=>kb
 |_,_=>kb
noncomputable def fQ:Expr->Bool
 | .Call (.Name _ _) [] [] _=>kb|_=>kd
def iS:Expr->Bool
 | .Set _ _ _=>kb|_=>kd
def gQ:Expr->Bool
 | .Slice _ _ _ _=>kb|_=>kd
def bF:PX->Bool
 | .anil=>kd|.acons _ r=>bF r|_=>kb
def TV:Expr->Bool
 | .Tuple _ _ _=>kd|_=>kb
section
variable{α:Type}
section
variable{e:Expr}{l:List α}
noncomputable def TF(e:Expr)(f:Str->Pos->Bool):Bool:=match e with | .Name x p=>f x p|_=>kb
noncomputable def GG(e:Expr)(f:pR->Bool):Bool:=match e with | .Constant c _ _=>f c|_=>kb
noncomputable def Le(e:Expr)(f:Expr->gV->Expr->Pos->Bool):Bool:=match e with | .BinOp l o r p=>f l o r p|_=>kb
noncomputable def fj(e:Expr)(f:p0->Expr->Bool):Bool:=match e with | .UnaryOp o x _=>f o x|_=>kb
noncomputable def He(e:Expr)(f:Expr->List h7->List Expr->Bool):Bool:=match e with | .Compare l x h _=>f l x h|_=>kb
noncomputable def mV(e:Expr)(f:BoolOp->List Expr->Pos->Bool):Bool:=match e with | .BoolOp o h p=>f o h p|_=>kb
noncomputable def lV(e:Expr)(f:Expr->List Expr->List c0->Pos->Bool):Bool:=match e with | .Call g x h p=>f g x h p|_=>kb
noncomputable def J5(e:Expr)(f:Expr->Str->Pos->Bool):Bool:=match e with | .Attribute v n p=>f v n p|_=>kb
noncomputable def YX(e:Expr)(f:Expr->Expr->Pos->Bool):Bool:=match e with | .Subscript v i p=>f v i p|_=>kb
noncomputable def ZX(e:Expr)(f:Option Expr->Option Expr->Option Expr->Bool):Bool:=match e with | .Slice l h s _=>f l h s|_=>kb
noncomputable def vQ(e:Expr)(f:List Expr->Pos->Bool):Bool:=match e with | .List h p=>f h p|_=>kb
noncomputable def Ce(e:Expr)(f:List Expr->Nat->Pos->Bool):Bool:=match e with | .Tuple h k p=>f h k p|_=>kb
noncomputable def lj(e:Expr)(f:Expr->List Pz->gl->Pos->Bool):Bool:=match e with | .ListComp x h sc p=>f x h sc p|_=>kb
noncomputable def hV(e:Expr)(f:List (Option Expr)->List Expr->Bool):Bool:=match e with | .Dict x h _=>f x h|_=>kb
noncomputable def YN(l:List α)(f:α->Bool):Bool:=match l with | [x]=>f x|_=>kb
noncomputable def Hx(l:List α)(f:α->α->Bool):Bool:=match l with | [x,y]=>f x y|_=>kb
noncomputable def vb(l:List α)(f:α->List α->Bool):Bool:=match l with|x::r=>f x r|_=>kb
noncomputable def Gp(o:Option α)(n:Bool)(f:α->Bool):Bool:=match o with|none=>n|some x=>f x
theorem YD{f:Str->Pos->Bool}(h:TF e f=kd):∃x p,e=.Name x p/\f x p=true:=by
 cases e with|Name x p=>exact#[x,p,rfl,h]|_=>exact(QG h).elim
theorem YE{f:pR->Bool}(h:GG e f=kd):∃c k p,e=.Constant c k p/\f c=true:=by
 cases e with|Constant c k p=>exact#[c,k,p,rfl,h]|_=>exact(QG h).elim
theorem ub{f:Expr->gV->Expr->Pos->Bool}(h:Le e f=kd):∃l o r p,e=.BinOp l o r p/\f l o r p=true:=by
 cases e with|BinOp l o r p=>exact#[l,o,r,p,rfl,h]|_=>exact(QG h).elim
theorem u5{f:p0->Expr->Bool}(h:fj e f=kd):∃o x p,e=.UnaryOp o x p/\f o x=true:=by
 cases e with|UnaryOp o x p=>exact#[o,x,p,rfl,h]|_=>exact(QG h).elim
theorem zb{f:Expr->List h7->List Expr->Bool}(h:He e f=kd):∃l y x p,e=.Compare l y x p/\f l y x=true:=by
 cases e with|Compare l y x p=>exact#[l,y,x,p,rfl,h]|_=>exact(QG h).elim
theorem nS{f:BoolOp->List Expr->Pos->Bool}(h:mV e f=kd):∃o es p,e=.BoolOp o es p/\f o es p=true:=by
 cases e with|BoolOp o es p=>exact#[o,es,p,rfl,h]|_=>exact(QG h).elim
theorem mS{f:Expr->List Expr->List c0->Pos->Bool}(h:lV e f=kd):∃g es ks p,e=.Call g es ks p/\f g es ks p=true:=by
 cases e with|Call g es ks p=>exact#[g,es,ks,p,rfl,h]|_=>exact(QG h).elim
theorem i5{f:Expr->Str->Pos->Bool}(h:J5 e f=kd):∃v n p,e=.Attribute v n p/\f v n p=true:=by
 cases e with|Attribute v n p=>exact#[v,n,p,rfl,h]|_=>exact(QG h).elim
theorem kQ{f:Expr->Expr->Pos->Bool}(h:YX e f=kd):∃v i p,e=.Subscript v i p/\f v i p=true:=by
 cases e with|Subscript v i p=>exact#[v,i,p,rfl,h]|_=>exact(QG h).elim
theorem jZ{f:Option Expr->Option Expr->Option Expr->Bool}(h:ZX e f=kd):∃l u s p,e=.Slice l u s p/\f l u s=true:=by
 cases e with|Slice l u s p=>exact#[l,u,s,p,rfl,h]|_=>exact(QG h).elim
theorem mM{f:List Expr->Pos->Bool}(h:vQ e f=kd):∃es p,e=.List es p/\f es p=true:=by
 cases e with|List es p=>exact#[es,p,rfl,h]|_=>exact(QG h).elim
theorem Ea{f:List Expr->Nat->Pos->Bool}(h:Ce e f=kd):∃es k p,e=.Tuple es k p/\f es k p=true:=by
 cases e with|Tuple es k p=>exact#[es,k,p,rfl,h]|_=>exact(QG h).elim
theorem fV{f:Expr->List Pz->gl->Pos->Bool}(h:lj e f=kd):∃x y sc p,e=.ListComp x y sc p/\f x y sc p=true:=by
 cases e with|ListComp x y sc p=>exact#[x,y,sc,p,rfl,h]|_=>exact(QG h).elim
theorem lS{f:List (Option Expr)->List Expr->Bool}(h:hV e f=kd):∃ks vs p,e=.Dict ks vs p/\f ks vs=true:=by
 cases e with|Dict ks vs p=>exact#[ks,vs,p,rfl,h]|_=>exact(QG h).elim
theorem rK{f:α->List α->Bool}(h:vb l f=kd):∃x r,l=x::r/\f x r=true:=by
 cases l with|nil=>exact(QG h).elim|cons x r=>exact#[x,r,rfl,h]
theorem HB{f:α->Bool}(h:YN l f=kd):∃x,l=[x]/\f x=true:=by
 cases l with
 |nil=>exact(QG h).elim|cons x r =>
  cases r with|nil=>exact#[x,rfl,h]|cons _ _=>exact(QG h).elim
theorem Lp{f:α->α->Bool}(h:Hx l f=kd):∃x y,l=[x,y]/\f x y=true:=by
 cases l with
 |nil=>exact(QG h).elim|cons x r =>
  let#[y,e,h]:=HB (l:=r) (f:=f x) (by
   cases r with|nil=>exact h|cons y r=>cases r<;>exact h)
  exact#[x,y,by rw[e],h]
end
end
section
variable{c:pR}{n:Str}{e:Expr}
noncomputable def Hl(c:pR)(f:Int->Bool):Bool:=match c with | .int i=>f i|_=>kb
noncomputable def Xr(c:pR)(f:Str->Bool):Bool:=match c with | .str i=>f i|_=>kb
noncomputable def yg(c:pR)(f:Bool->Bool):Bool:=match c with | .bool i=>f i|_=>kb
def jg(c:pR):Bool:=match c with | .none=>kd|_=>kb
theorem x8{f:Int->Bool}(h:Hl c f=kd):∃i,c=.int i/\f i=true:=by
 cases c with|int i=>exact#[i,rfl,h]|_=>exact(QG h).elim
theorem Fl{f:Str->Bool}(h:Xr c f=kd):∃i,c=.str i/\f i=true:=by
 cases c with|str i=>exact#[i,rfl,h]|_=>exact(QG h).elim
theorem Yd{f:Bool->Bool}(h:yg c f=kd):∃i,c=.bool i/\f i=true:=by
 cases c with|bool i=>exact#[i,rfl,h]|_=>exact(QG h).elim
theorem Jd(h:jg c=kd):c=.none:=by
 cases c with|none=>rfl|_=>exact(QG h).elim
theorem zA{a b:Bool}(h:(a&&b)=kd):a=kd/\b=true:=by cases a<;>cases b<;>first|exact#[rfl,rfl]| exact(QG h).elim
def BK(S:SC)(n:Str)(e:Expr)(f:List Expr->List c0->Pos->Bool):Bool:=lV e λg y h p=>TF g λx _=>n==x&&(gT S x&&f y h p)
theorem fF{S:SC}{f:List Expr->List c0->Pos->Bool}(h:BK S n e f=kd):∃y es ks p,e=.Call (.Name n y) es ks p/\gT S n=kd/\f es ks p=true:=by let#[g,es,ks,p,rfl,w]:=mS h;let#[x,y,rfl,v]:=YD w;have u:=zA v;have z:=zA u.2;have e:=qS u.1;exact#[y,es,ks,p,by rw[e],by rw[e];exact z.1,z.2]
def f6(n:Str)(e:Expr)(f:Expr->List Expr->Pos->Pos->Bool):Bool:=lV e λg z y p=>J5 g λv x h=>n==x&&(y.isEmpty&&(h.endLine==p.line&&f v z h p))
theorem HX{f:Expr->List Expr->Pos->Pos->Bool}(h:f6 n e f=kd):∃v y es p,e=.Call (.Attribute v n y) es [] p/\(y.endLine==p.line)=kd/\f v es y p=true:=by let#[g,es,i,p,rfl,a]:=mS h;let#[v,x,y,rfl,k]:=i5 a;have w:=zA k;have u:=zA w.2;have z:=zA u.2;have e:=qS w.1;have b:=Qv.mp u.1;exact#[v,y,es,p,by rw[e,b],z.1,z.2]
noncomputable def zf(op:BoolOp)(r:Expr)(h:List Expr)(pos:Pos):Expr:=match h with
 |[]=>r|q::t=>.BoolOp op (r::q::t) pos
def vt(y:Bool)(S:SC)(z:ItK)(c:List Expr->Pos->Bool)(t it:Expr)(pos:Pos):Bool:=match z with
 | .val=>y&&c [it] pos|.rng1=>BK S "range" it λh x p=>x.isEmpty&&YN h λa=>c [a] p|.enum=>TV t&&BK S "enumerate" it λh x p=>x.isEmpty&&YN h λa=>c [a] p|.itm=>TV t&&(y&&f6 "items" it λv h _ p=>fQ v&&(h.isEmpty&&c [v] p))
noncomputable def Cv(h:List Expr)(n:Bool)(f:Expr->Bool):Bool:=match h with
 |[]=>n|c::r=>r.isEmpty&&(!n&&f c)
def isItm:ItK->Bool
 | .itm=>kd|_=>kb
def zC:PX->SC->Expr->Bool
 | .var i,S,e=>TF e λx _=>J9 S i x|.mv i,S,e=>TF e λx _=>J9 S i x|.int i,_,e=>GG e λc=>Hl c λj=>i==j|.str x,_,e=>GG e λc=>Xr c λy=>x==y|.bl b,_,e=>GG e λc=>yg c λk=>b==k|.non,_,e=>GG e jg|.glo x,S,e=>TF e λy _=>x==y&&gT S x|.bty x _,S,e=>TF e λy _=>x==y&&gT S x|.bin op a b,S,e=>Le e λl o r _=>op==o&&(zC a S l&&zC b S r)|.cmp op a b,S,e=>He e λl Z Y=>YN Z λo=>YN Y λr=>op==o&&(iS r&&(zC a S l&&zC b S r))|.and a b,S,e=>mV e λo z p=>o==.And&&vb z λl t=>vb t λr t=>zC a S l&&zC b S (zf .And r t p)|.or a b,S,e=>mV e λo z p=>o==.Or&&vb z λl t=>vb t λr t=>zC a S l&&zC b S (zf .Or r t p)|.not a,S,e=>fj e λo x=>o==.Not&&zC a S x|.call f as,S,e=>BK S f e λz w p=>w.isEmpty&&zC as S (.List z p)|.bi f as,S,e=>BK S f.nm e λz w p=>w.isEmpty&&vb z λx t=>zC as S (.List (x::t) p)|.isi a c,S,e=>BK S "isinstance" e λz w _=>w.isEmpty&&Hx z λl r=>CC l&&(CC r&&(zC a S l&&zC c S r))|.mt m o as,S,e=>f6 m.nm e λv z _ p=>bF as&&(fQ v&&(decide (z.9<20)&&(zC o S v&&zC as S (.List z p))))|.idx a b,S,e=>YX e λv i _=>gQ i&&(zC a S v&&zC b S i)|.slc a lo hi,S,e=>YX e λv X _=>ZX X λl h s=>s.isNone&&(zC a S v&&(Gp l (isNop lo) (λe=>!isNop lo&&zC lo S e)&&Gp h (isNop hi) λe=>!isNop hi&&zC hi S e))|.nop,_,_=>kb|.lst as,S,e=>vQ e λz p=>zC as S (.List z p)|.tup as,S,e=>Ce e λz _ p=>zC as S (.List z p)|.comp mask tgs tg ik its cond elt,S,e=>lj e λK W u p=>YN W λg=>g.is_async==0&&(!isItm ik&&(O7 S u tgs mask&&(su kb (mY S u tgs mask) tg g.target&&(iS g.iter &&
   (vt (bF its) S ik (λz p=>zC its S (.List z p)) g.target g.iter p&&(Cv g.ifs (isNop cond) (λc=>zC cond (mY S u tgs mask) c)&&zC elt (mY S u tgs mask) K))))))
 | .dnew _,_,e=>hV e λw q=>w.isEmpty&&q.isEmpty|.dsp a b,S,e=>hV e λw q=>YN w λk=>YN q λv=>Gp k kb (zC a S)&&zC b S v|.ng i,_,e=>fj e λo x=>o==.USub&&GG x λc=>Hl c λj=>i==j|.lrg a,S,e=>BK S "list" e λz w _=>w.isEmpty&&YN z λx=>BK S "range" x λz w _=>w.isEmpty&&YN z λy=>CC y&&zC a S y|.anil,_,e=>vQ e λz _=>z.isEmpty|.acons a as,S,e=>vQ e λz p=>vb z λx t=>CC x&&(zC a S x&&zC as S (.List t p))
end
variable{Γ:Ev}
theorem zm(x:V)(H:Hp)(Q:Bool->Hp->Prop):J8 x H Q=∃k,x=.bl k/\Q k H:=by
 apply Az;cases x with|bl b=>exact#[λh=>#[b,rfl,h],λ#[k,e,h]=>by cases e;exact h]|_=>exact#[λh=>Qc h,λ#[k,e,h]=>by cases e]
theorem O4(x:V)(H:Hp)(Q:Option Int->Hp->Prop):dM x H Q=∃i,x=.int i/\Q (kv i) H:=by
 apply Az;cases x with|int b=>exact#[λh=>#[b,rfl,h],λ#[k,e,h]=>by cases e;exact h]|_=>exact#[λh=>Qc h,λ#[k,e,h]=>by cases e]
theorem xX(K:QA)(x:V)(H:Hp)(Q:Bool->Hp->Prop):DF K x H Q=∃k,om K x H k/\Q k H:=by
 apply Az;cases x with|bl b=>exact#[λh=>#[b,rfl,h],λ#[k,(e:k=b),h]=>by subst e;exact h]|int i=>exact#[λh=>#[i != 0,rfl,h],λ#[k,(e:k=(i != 0)),h]=>by subst e;exact h]|non=>exact#[λh=>#[kb,rfl,h],λ#[k,(e:k=kb),h]=>by subst e;exact h]|str z=>exact#[λh=>#[_,#[h.1,rfl],h.2],λ#[k,#[u,y],h]=>by subst y;exact#[u,h]]|_=>exact wW
section
variable{X:Cx}
section
variable{e b:Expr}{es:List Expr}{env:Env}{its:LW}
theorem L4:PE X e never.e:=λ_ _ _ _ _ _ h=>Qc h
theorem EL:PT X e never.t:=λ_ _ _ _ _ _ h=>Qc h
theorem gS:PA X es never.a:=λ_ _ _ _ _ _ _ h=>Qc h
theorem iD{a:Expr}{ta:TE}(i:PE X a ta)(g:∀y,isTrue a X.env y=(do let v <- y;standAt a.pos;pu [v] (truthy v))) :
  PT X a (λσ H Q=>ta σ H λx l=>DF X.K x l Q):=by
 intro z s σ H Q I h;refine isTrue_plain (OB (i z s σ H _ I h) λv k #[x,w,j,f,u]=>?_) (g _);have u:DF X.K x w Q:=u;rw[xX]at u;exact C2 z k σ w x v Q j f u
theorem z5{f:kn->kn->Sem kn}:SE X f (λ_ _ _ _=>False):=λ_ _ _ _ _ _ _ _ _ _ _ _ h=>h.elim
theorem bj(op:gV):SE X (hZ op) (Kd X.K op):=by
 cases op with|Add=>exact op_add|Sub=>exact op_sub|Mult=>exact kj|FloorDiv=>exact Ta|Mod=>exact op_mod|_=>exact z5
theorem kT(neg:Bool){h:PB}{s:ku}{σ:St}{H:Hp}{b c:Bool}{Q:VK}(I:Inv X h σ H s)(q:Q (.bl (if neg then !decide (b=c) else decide (b=c))) H):ko (k5 X.prog X.w) X.A (vu (if neg then .IsNot else .Is) (.bool b) (.bool c)) (EP X h σ Q) X.xe s:=by
 have e:vu (if neg then .IsNot else .Is) (.bool b) (.bool c)=rk (.bool (if neg then !decide (b=c) else decide (b=c))):=by cases neg<;>cases b<;>cases c<;>rfl
 rw[e];exact QK #[.bl _,H,I,rfl,q]
theorem x5(f:X.A.units+66<Z1)(op:h7):SE X (vu op) (R7 X.K op):=by
 cases op with
 |Eq=>exact op_eq ()|NotEq=>exact op_ne ()|Lt=>exact jQ _root_.L2.op_lt|LtE=>exact jQ _root_.L2.op_le|Gt=>exact jQ _root_.L2.op_gt|GtE=>exact xj ()|In=>exact Cp f|NotIn=>exact E4 f|Is =>
  intro z s a H x y v u Q I k w h;cases y with|non=>exact vj z s a H x _ v u Q I k w #[rfl,h]|bl c=>let#[b,rfl,q]:=h;cases k;cases w;cases b<;>cases c<;>exact kT kb I q|_=>exact Qc h
 |IsNot =>
  intro z s a H x y v u Q I k w h;cases y with|non=>exact Ra z s a H x _ v u Q I k w #[rfl,h]|bl c=>let#[b,rfl,q]:=h;cases k;cases w;cases b<;>cases c<;>exact kT kd I q|_=>exact Qc h
theorem Uk(Z:X.A.units+66<Z1):L8 X (uS X.K):=by
 intro w k f s n H x y v u Q I r p h Y;have sq:=λh=>Xk (X:=X) w k f s n H x y v u Q I r p h Y;have dc:=λh=>cc Z w k f s n H x y v u Q I r p h Y;cases x with
 |str z =>
  cases y with|int i=>let#[W,c,m,q]:=h;exact sq (.inr (.inr #[z,i,c,rfl,rfl,W,m,q]))|_=>exact Qc h
 |ref a =>
  cases y with
  |int i=>let#[o,j,l,m,q]:=h;rcases l with l|l;exact sq (.inl #[a,o,i,j,rfl,rfl,l,m,q]);exact sq (.inr (.inl #[a,o,i,j,rfl,rfl,l,m,q]))
  |str z=>let#[j,g,q]:=h;exact dc #[a,j,rfl,g,q]|ref b=>let#[j,g,q]:=h;exact dc #[a,j,rfl,g,q]|_=>exact Qc h
 |_=>exact Qc h
theorem R5{op:h7}(h:iS b=kd):ej op b=false:=by cases b<;>first|rfl|cases h
theorem aa(h:gQ b=kd):eY b:=by intro o i;cases b<;>first|rfl|cases h
theorem IA(env:Env)(h:CC e=kd):v9 (e::es) env=(kb,Gz e env)::v9 es env:=by cases e<;>first|rfl|cases h
theorem YV(h:iS e=kd)(x:kn):gp e env x=rk x:=by cases e<;>first|rfl|cases h
theorem P5{o:Expr}{n:Str}(h:fQ o=kd):fk o n env (Gz o env)=Gz o env:=by unfold fk;split;cases h;rfl
theorem Rb:x9 X "list.pop" ae:=by intro z s f H x u v g Q I j m h;let#[l,i,u,k,y,rfl,rfl,a,hk,n,q]:=h;let#[o,Y,r,p]:=KQ hk;have hl:u.9<=sizeLine:=(show GA X.prog X.w H s.1 l (.lst u) from I.hok l _ a).1;rw[Q5]at hl;exact c6 z s f H _ _ v g Q I j m #[l,u,i,k,y,rfl,rfl,a,(),(),o,n,q]
theorem FR{x:LS}(h:sA (x.map V.str) its):Sy its x:=by
 induction x generalizing its with
 |nil=>cases h;exact .nil|cons y x z =>
  cases h with|cons h t=>let#[k,rfl]:=h;exact .cons _ _ (z t)
theorem KY{x:LS}(h:Sy its x):sA (x.map V.str) its:=by
 induction h with|nil=>exact .nil|cons y t _ z=>exact .cons #[t,rfl] z
theorem TY{out:LW}(g:its.Perm out):∀{xs:LV},sA xs its->∃z,z.Perm xs/\sA z out:=by
 induction g with
 |nil=>intro xs r;cases r;exact#[[],QBQ _,.nil]|cons x _ k =>
  intro xs r;cases r with|cons h t=>let#[z,p,v]:=k t;exact#[_::z,p.cons _,.cons h v]
 |swap x y l =>
  intro xs r;cases r with
  |cons h t=>cases t with|cons i t=>exact#[_::_::_,QCi.swap _ _ _,.cons i (.cons h t)]
 |trans _ _ f a=>intro xs r;let#[z,p,v]:=f r;let#[w,q,u]:=a v;exact#[w,q.trans p,u]
theorem T1{xs:LV}{v:kn}(r:sA xs its)(h:v∈its):∃x∈xs,VA x v:=by
 induction r with
 |nil=>exact nomatch h
 |cons r t z=>rcases QM.mp h with e|h;subst e;exact#[_,QF,r];let#[x,u,y]:=z h;exact#[x,QD _ u,y]
theorem CZ{vs:LW}{ns:LJ}(h:ri vs ns):sA (ns.map V.int) vs:=by
 induction h with|nil=>exact .nil|cons n t _ x=>exact .cons #[t,rfl] x
theorem jU(hu:X.A.units+66<Z1):gC X (.builtin "sorted") (nX X.K):=by
 intro pins s σ H xs us Q I r h;let#[p,rfl,h]:=h;rcases h with⟨ss,W,E,q⟩| ⟨xs,W,E,hx,q⟩| ⟨ns,W,E,q⟩
 skip;let#[u,rfl,m]:=HF r;cases m;let#[its,g,Y,hz]:=I.list W;have hl:=g.9;rw[QE]at hl;refine sorted_strs Y.isList (by simpa using FR g) () λout l J F a3=>?_;let#[e,B]:=QCL s.1 its out;have hlen:=(pP J).1;have hp:=F.length_eq;refine#[.ref (s.1.1.size+1),_,I.laid (t':=s.toks) (λb o z=>QBu z) (wJ _) (show GA X.prog X.w _ _ _ (.lst (l.map V.str)) from#[by rw[QE,Q5];omega,out.toList,e,KY J,by simpa using B]),rfl,q _ l (I.hok.fresh (wJ _)) F a3];skip;let#[u,rfl,m]:=HF r;cases m;let#[its,g,Y,hz]:=I.list W;have hl:=g.9;have f:∀v∈its,∃b dd M n k,∃j:LS,v=.ref b/\s.1.get? b=kv { cls:=.type "list",dict:=dd,data:=.seq k n,slots:=M }/\Sy k.toList j:=λv hv=>by let#[x,S,N]:=T1 g hv;let#[a,j,rfl,sq]:=hx x S;cases N;let#[i,O,#[o,n,e,c,d,z],_]:=I.list sq;let#[oc,od,R,P]:=o;cases c;exact#[a,od,P,n,i.toArray,j,rfl,by rw[e,show R=Data.seq i.toArray n from z],by simpa using FR O]
 refine G9 Y.isList () (λv hv=>?_) (λh3 kp x hx y hy C hC=>?_) λout hp=>?_;let#[b,dd,M,n,k,j,rfl,e,_]:=f v hv;exact#[b,_,rfl,e,rfl];let#[b,dd,M,n,k,j,rfl,e,st]:=f x hx;let#[b2,dd2,sl2,n2,G,ts2,rfl,e2,L]:=f y hy;exact bV (s:={ s with heap:=h3 }) (show X.A.units+1+1<Z1 by omega) (kp _ _ e) (kp _ _ e2) st L (hC _);let#[e,B]:=QCL s.1 its out.toArray;let#[ys,py,vy]:=TY hp.symm g;have hp2:=py.length_eq;refine#[.ref (s.1.1.size+1),_,I.laid (t':=s.toks) (λb o z=>QBu z) (wJ _) (show GA X.prog X.w _ _ _ (.lst ys) from#[by rw[Q5];omega,out,e,vy,B]),rfl,q _ ys (I.hok.fresh (wJ _)) py];let#[u,rfl,m]:=HF r;cases m;let#[its,g,Y,hz]:=I.list W;have hl:=g.9;rw[QE]at hl;refine sorted_ints Y.isList (VH g) () λout Z J F a3=>?_;let#[e,B]:=QCL s.1 its out;have hp:=F.length_eq;refine#[.ref (s.1.1.size+1),_,I.laid (t':=s.toks) (λb o z=>QBu z) (wJ _) (show GA X.prog X.w _ _ _ (.lst (Z.map V.int)) from#[by rw[QE,Q5];omega,out.toList,e,CZ J,by simpa using B]),rfl,q _ Z (I.hok.fresh (wJ _)) F a3]
theorem EZ:gC X (.type "tuple") (v4 X.K):=by intro x s y H k u Q I r h;let#[p,z,rfl,w,v]:=h;exact yO x s y H _ u Q I r #[p,z,rfl,.inl #[w,v]]
theorem IZ:gC X (.type "int") Je:=by intro x s y H u z Q I r h;let#[b,rfl,q]:=h;exact j0 x s y H _ z Q I r (.inr #[b,rfl,q])
theorem Sb:x9 X "list.extend" Ze:=by intro y s u H x z v k Q I a f h;let#[l,b,z,w,rfl,rfl,h]:=h;exact mZ y s u H _ _ v k Q I a f #[l,b,z,w,rfl,rfl,h]
theorem Br(h:X.A.units+66<Z1)(hc:X.calm=kd)(f:Bi):(∃id,y2 f.nm=kv (.builtin id)/\gC X (.builtin id) (Gr X.K f))∨∃T,y2 f.nm=kv (.type T)/\gC X (.type T) (Gr X.K f):=by
 cases f with|len=>exact .inl #[_,PySem.boot_len,A7]|all=>exact .inl #[_,PyProof.Rows.boot_all,y8 hc]|any=>exact .inl #[_,PyProof.Rows.boot_any,j8 hc]|list=>exact .inr #[_,PyProof.Rows.boot_list,jR]|sorted=>exact .inl #[_,PyProof.Rows.boot_sorted,jU h]|tuple=>exact .inr #[_,by kernel_rfl,EZ]|int=>exact .inr #[_,PyProof.Rows.boot_int,IZ]
end
end
end L2.L3
namespace L2.L3
open PySem PySem.Spec PyProof.Rows
section
variable{S:SC}{i:Nat}{x:Str}
structure OkX(X:Cx)(S:SC)(G:Glob)(E:XK):Prop where
 N:X.N=S.N
 sc:X.env.scope=S.sc
 calm:X.calm=kd
 un:X.A.units+66<Z1
 fn:∀f,G.fn f->∃(CX:R8) (k:Nat) (a:k0) (fd:y3) (ps:LS),FnOk X.prog X.w X.K X.mg X.base CX k a fd ps (G.ev.sp f)/\Room k X.A/\X.mg f=kv (.ref a)/\wR X.K (.ref a)=kd/\oJ X.K fd ps [] /\
  fN CX X E/\∀l H s e s',CX l H s (λ_ _ _=>False) e s'->False
 val:∀x,G.val x->∃u,X.mg x=kv u/\VA (G.ev.va x) u
 no:∀x,G.no x->X.mg x=kf
def oR(X:Cx)(Γ:Ev)(E:XK):PX->List Expr->Prop
 | .acons a as,e::es=>PE X e (wp X.K Γ a E).e/\oR X Γ E as es|_,_=>True
structure Snd(X:Cx)(Γ:Ev)(E:XK)(p:PX)(e:Expr):Prop where
 pe:PE X e (wp X.K Γ p E).e
 pt:PT X e (wp X.K Γ p E).t
 pw:∀op es pos,e=.BoolOp op es pos->PW X e (wp X.K Γ p E).t
 pa:∀es pos,e=.List es pos->PA X es (wp X.K Γ p E).a
 pas:∀es pos,e=.List es pos->oR X Γ E p es
theorem jX(h:J9 S i x=kd):S.N[i]?=kv x/\vn S.sc x/\(x==("__debug__":Str))=kb/\(x==("__classdict__":Str))=false:=by simp only[J9,Qb,wc,beq_iff_eq,bne_iff_ne,ne_eq]at h;let#[#[#[v,y],u],z]:=h;refine#[v,?_,by simpa using u,by simpa using z];rcases y with(y|y)|y;exact .inl y;exact .inr (.inl y);exact .inr (.inr y)
theorem zc(h:Aj S i x=kd):S.N[i]?=kv x/\S.sc.names.lookup x=kv .local:=by simp only[Aj,Qb,beq_iff_eq]at h;exact h
theorem bE(h:gT S x=kd):S.sc.names.lookup x=kv .globalImplicit/\(x==("__debug__":Str))=kb/\x≠"__name__":=by simp only[gT,Qb,beq_iff_eq,bne_iff_ne,ne_eq]at h;exact#[h.1.1,by simpa using h.1.2,h.2]
theorem VE:∀{l:LS},UJ l=kd->l.Nodup
 |[],_=>Q1|x::r,h=>by simp only[UJ,Qb,Q6]at h;exact Qe.mpr #[by simpa using h.1,VE h.2]
theorem UT{z:gl}{w:LS}{u:List Bool}(h:O7 S z w u=kd):CompSt S.N S.sc z w u:=by simp only[O7,Qb,Ql,beq_iff_eq,Q6]at h;let#[#[#[f,k],b],a]:=h;refine#[f,λy v e=>?_,λy v e=>?_,λy v e=>?_,λy v e=>?_,VE b,by simpa using a];have:=(k y v).1.1;rw[e]at this;exact Uz this (by decide);have:=(k y v).1.2;rw[e]at this;simp at this;exact this.1;have:=(k y v).2;rw[e]at this;simp at this;exact this;have:=(k y v).1.2;rw[e]at this;simp at this;exact this.2
theorem OkX.comp{X:Cx}{G:Glob}{E:XK}(ok:OkX X S G E)(y:gl)(v:LS)(u:List Bool)(s:ku)(H:Hp)(ex:List k0):OkX (SA X y v u s H ex) (mY S y v u) G (λ_ _ _=>False) where
 N:=by show v++XB u 0 X.N=v++XB u 0 S.N;rw[ok.N]
 sc:=by show RL y X.env.scope=RL y S.sc;rw[ok.sc]
 calm:=ok.calm
 un:=ok.un
 fn:=λf h=>by let#[o,k,a,n,b,m,l,j,g,e,p,w]:=ok.fn f h;exact#[o,k,a,n,b,m,l,j,g,e,λ_ _ _ _ _ _ _ z=>(w _ _ _ _ _ z).elim,w]
 val:=ok.val
 no:=ok.no
end
section
variable{X:Cx}
theorem Z6{c:Bool}{S:SC}{i:Nat}{x:Str}(k:X.N=S.N)(y:X.env.scope=S.sc)(u:c=kd->∀x,X.fn x=kd)(h:Sm c S i x=kd):X.N[i]?=kv x/\bn X.env.scope x/\(X.fn x=kd∨X.env.scope.names.lookup x=kv .local):=by
 simp only[Sm,Qb,wc,beq_iff_eq]at h;rw[k,y];rcases h.2 with z|⟨w,v⟩
 exact#[h.1,.inl z,.inr z];exact#[h.1,.inr v,.inl (u w x)]
theorem nO{c:Bool}{S:SC}(k:c=kd->∀x,X.fn x=kd)(g:X.N=S.N)(w:X.env.scope=S.sc)(nd:X.N.Nodup):∀(is:LN) (es:List Expr),is.9=es.9->((is.zip es).all λp=>match p.2 with | .Name x _=>Sm c S p.1 x|_=>kb)=kd ->
  ky X es (λvs σ H Q=>∃y,cB is vs σ=kv y/\Q y H)
 |[],[],_,_=>by
  intro z s σ H vs m Q I r h;let#[y,e,q]:=h;cases vs with|nil=>cases r;simp only[cB]at e;cases e;exact assignInOrder_nil #[σ,H,I,q]|cons _ _=>simp[cB]at e
 |[],_::_,h,_=>by cases h|_::_,[],h,_=>by cases h|i::is,e::es,hl,hz=>by
  simp only[wx,qb,Qb]at hz;let#[j,Z]:=hz;cases e with
  |Name x pos =>
   let#[f,b,a]:=Z6 g w k j;have Y:=nO k g w nd is es (by simpa using hl) Z;intro z s σ H vs m Q I r h;let#[y,e,q]:=h;cases vs with
   |nil=>simp[cB]at e|cons v vs =>
    simp only[cB]at e;cases r with|cons r o=>show ko _ _ (mi (d8 (.Name x pos) X.env::(g6 es X.env).map (·.2)) _) _ _ _;refine assignInOrder_cons (OB (eX (pos:=pos) nd f b a z s σ H v _ _ I r (show yY i v σ H (λu l=>u=σ.set i (kv v)/\l=H) from#[rfl,rfl])) λ_ n #[u,l,A,K,W]=>?_);subst K W;exact Y z n _ _ vs _ Q A o #[y,e,q]
  |_=>simp at j
theorem RS{c:Bool}:∀(is:LN) (es:List Expr) (S:SC),is.9=es.9->((is.zip es).all λp=>match p.2 with | .Name x _=>Sm c S p.1 x|_=>kb)=kd->(g6 es X.env).9=es.9/\(g6 es X.env).findIdx? (·.1)=kf
 |[],[],_,_,_=>#[rfl,rfl]|[],_::_,_,h,_=>by cases h|_::_,[],_,h,_=>by cases h|i::is,e::es,S,hl,hz=>by
  simp only[wx,qb,Qb]at hz;let#[v,u]:=hz;cases e with|Name x y=>have z:=RS is es S (by simpa using hl) u;have w:g6 (.Name x y::es) X.env=(kb,d8 (.Name x y) X.env)::g6 es X.env:=rfl;rw[w];refine#[by rw[QL,QL,z.1],?_];rw[List.findIdx?_cons];simp[z.2]|_=>simp at v
theorem ML:∀{is:LN}{vs:LV}{σ x:St},cB is vs σ=kv x->vs.9=is.9
 |[],[],_,_,_=>rfl|[],_::_,_,_,h=>by simp[cB]at h|_::_,[],_,_,h=>by simp[cB]at h|_::is,_::vs,σ,x,h=>by simp only[cB]at h;rw[QL,QL,ML h]
theorem B4{c:Bool}{S:SC}{G:Glob}{E:XK}(ok:OkX X S G E)(z:c=kd->∀x,X.fn x=kd)(nd:X.N.Nodup){b:Tg}{e:Expr}(h:su c S b e=kd):PG X e (gG X.K b):=by
 cases b with
 |nm i =>
  cases e with|Name x pos=>let#[l,j,g]:=Z6 ok.N ok.sc z h;exact eX nd l j g|_=>cases h
 |tp o =>
  cases e with
  |Tuple m k pos =>
   let#[J,Z]:=zA h;have f:=qS J;let#[C,B]:=RS (X:=X) o m S f Z;have w:=Ni (pos:=pos) (k:=k) (n:=m.9) ok.calm (nO z ok.N ok.sc nd o m f Z) C B;intro y s W H v u Q I r Y;refine w y s W H v u Q I r ?_;cases v with|ref p=>let#[A,a,F,e,q]:=Y;exact#[p,A,rfl,F,by rw[ML e,f],a,e,q]|_=>exact Qc Y
  |_=>cases h
end
variable{Γ:Ev}
theorem b9(K:QA)(a:k0)(xs:LV):Yields (Dy K a) (xs.map .one) (λH=>jC K H a xs) :=
  { go:=λi H h u=>by
      have z:i<xs.length:=by simpa using u
      exact#[xs,xs[i],h,by simp[z]]
    yld:=λi H x v h _ #[e,y]=>#[.one x,by rw[Qd,y xs h];rfl,rfl,e]
    stop:=λi H h u=>#[xs,h,by simpa using u] }
theorem Kh(K:QA)(a:k0)(xs:LV):Yields (By K a) (xs.map .one) (λH=>xD K H a xs) :=
  { go:=λi H h u=>by
      have z:i<xs.length:=by simpa using u
      exact#[xs,xs[i],h,by simp[z]]
    yld:=λi H x v h _ #[e,y]=>#[.one x,by rw[Qd,y xs h];rfl,rfl,e]
    stop:=λi H h u=>#[xs,h,by simpa using u] }
theorem Vh(u:Int)(n:Nat):Yields (gx u n) ((Qt n).map λ(k:Nat)=>.one (.int (u+(k:Int)))) (λ_=>True) :=
  { go:=λi H h z=>by
      have y:i<n:=by simpa using z
      exact y
    yld:=λi H x w h z #[e,v]=>by
      have y:i<n:=by simpa using z
      exact#[.one x,by rw[Qd,WP y,v];rfl,rfl,e]
    stop:=λi H h z=>by
      have y:n<=i:=by simpa using z
      exact y }
theorem f9(K:QA)(z:Src)(c:Nat)(xs:LV):Yields (Gy K z c) (xs.zipIdx.map λp=>.tup [.int ((c+p.2:Nat):Int),p.1]) (λH=>G0 K H z xs) :=
  { go:=λi H h u=>by
      have y:i<xs.length:=by simpa using u
      exact#[xs,xs[i],h,by simp[y]]
    yld:=λi H x g h u #[p,a,v,e,w,k]=>by
      have y:i<xs.length:=by simpa using u
      have f:=k xs h;refine#[.tup [.int ((c+i:Nat):Int),a],?_,p,v,e,w];have b:xs.zipIdx[i]?=kv (a,i):=by rw[List.getElem?_zipIdx,f];simp
      rw[Qd,b];rfl
    stop:=λi H h u=>#[xs,h,by simpa using u] }
theorem T0(ep:Nat)(a:k0)(kvs:List KE):Yields (Cy ep kvs.9 a) (kvs.map λp=>.tup [.ref p.2.1,p.2.2]) (λH=>H a=kv (.dT ep kvs)) :=
  { go:=λi H h y=>by
      have z:i<kvs.length:=by simpa using y
      exact#[kvs,kvs[i],h,rfl,by simp[z]]
    yld:=λi H x w h y #[q,p,u,e,v,k]=>#[.tup [.ref p.2.1,p.2.2],by rw[Qd,k kvs h];rfl,q,u,e,v]
    stop:=λi H h y=>#[kvs,h,rfl,by simpa using y] }
theorem c9(ep:Nat)(a:k0)(kvs:List KE):Yields (Fy ep kvs.9 a) (kvs.map λp=>.one (.ref p.2.1)) (λH=>H a=kv (.dT ep kvs)) :=
  { go:=λi H h y=>by
      have z:i<kvs.length:=by simpa using y
      exact#[kvs,kvs[i],h,rfl,by simp[z]]
    yld:=λi H x b h y #[u,k]=>by let#[p,w,v]:=k kvs h;exact#[.one (.ref p.2.1),by rw[Qd,w];rfl,v,u]
    stop:=λi H h y=>#[kvs,h,rfl,by simpa using y] }
noncomputable def ZU(h:St->Hp->(List Item->(Hp->Prop)->Hp->Prop)->Prop):TI:=λx H R=>h x H λy st z=>∀J,Yields J y st->R J z
section
variable{X:Cx}{f:Expr}
section
variable{a:Expr}{ta:TA}{p pos k:Pos}{x:Str}{es:List Expr}{d:Nat}
theorem Ja{l:Expr}{t:TE}(hl:PE X l t):PI X f l (ZU λσ H R=>t σ H λv m=>uC X.K .val [v] m R):=by
 intro g s σ H R I h;refine OB (hl g s σ H _ I h) λv y #[x,m,i,F,C]=>?_;have j:∀b∈[y.1.1.size],nJ X g m b:=λb hb=>by
  have e:b=y.1.1.size:=by simpa using hb
  subst e;exact i.fpOk (QT _) (i.hok.fresh (QT _))
 cases x with
 |ref a =>
  cases F;rcases C with⟨Z,A,q⟩| ⟨Z,A,q⟩| ⟨ep,u,e,q⟩
  let#[Y,E,p,G]:=i.list A;refine Wi p.isList ?_;exact#[y.1.1.size,[y.1.1.size],_,_,m,rfl,i.kept (t':=y.toks) λb o e=>QH _ e,XY a _,#[_,QO _ rfl,rfl,rfl],j,q _ (b9 _ a Z)];let#[Y,E,p,G]:=i.tuple A;refine QBs (show y.1.IsTuple a Y.toArray from p) ?_;exact#[y.1.1.size,[y.1.1.size],_,_,m,rfl,i.kept (t':=y.toks) λb o e=>QH _ e,CU a _,#[_,QO _ rfl,rfl,rfl],j,q _ (Kh _ a Z)];let#[z,J,Z,r,ob,B,O,N,M,L,P]:=(show GA X.prog X.w m y.1 a (.dT ep u) from i.hok a _ e)
  have W:B.size=u.length:=by have:=ak wI L;rw[QE,Qn]at this;rw[this,<- qC r]
  refine gc J O N.1 M ?_;exact#[y.1.1.size,[y.1.1.size],_,_,m,rfl,i.kept (t':=y.toks) λb o e=>QH _ e,UY (a:=a) (n:=u.9) (ep:=ep),#[_,QO _ rfl,rfl,by rw[<- W];rfl],j,q _ (c9 ep a u)]
 |_=>exact Qc C
theorem Ka(g:x="range")(m:Gl X x)(l:X.mg x=kf)(n:PA X [a] ta)(i:CC a=kd) :
  PI X f (.Call (.Name x p) [a] [] pos) (ZU λσ H R=>ta σ H λvs v=>uC X.K .rng1 vs v R):=by
 subst g;intro z s σ H R I h;refine Call_ (xF I m l QCf (qZ (OB (n pos z s σ H _ I h) λY Z #[vs,v,o,b,u]=>?_) (IA _ i) rfl))
 match vs,u with
 |[.int j],#[#[u,q2],q] =>
  cases b with
  |cons r w =>
   cases w;let#[t,rfl]:=r;refine QCK (y4 o () () u q2 ?_);have e:(j - 0).toNat=j.toNat:=by simp
   rw[e];have y:=Vh 0 j.toNat;refine q _ ?_;simpa using y
theorem o0:y2 ("enumerate":Str)=kv (.type "enumerate"):=by kernel_rfl
theorem B7{y:PB}{σ:St}{e:Hp}{h:ku}{R:It->Hp->Prop}{c:Nat}{z:Src}{xs:LV}{its:Array kn}{h':v5}(v:Inv X y σ e h)(g:NB h.1 z its)(st:TW (h.1.1.size+1) h.1.1.size z c 0 h')(j:∀c o,h.1.get? c=kv o->h'.get? c=kv o)
  (q:∀J,Yields J (xs.zipIdx.map λp=>.tup [.int ((c+p.2:Nat):Int),p.1]) (λH=>G0 X.K H z xs)->R J e):ko (k5 X.prog X.w) X.A (eH (.ref (h.1.1.size+1))) (Iw X y σ (.Tuple es d k) R) X.xe { h with heap:=h' }:=by
 let#[#[i,l],_]:=id st;refine QB9 l ?_;have m:=v.kept (h':=h') (t':=h.toks) j;have lt:=g.lt;refine#[_,[h.1.1.size+1,h.1.1.size],_,_,e,rfl,m,BY (lz (Nat.succ_ne_self _)) (Qj (WD lt)) (Qj lt),st,λb hb=>?_,q _ (f9 _ z c xs)];have u:h.1.1.size<=b:=by simp only[QM,wt,or_false]at hb;rcases hb with rfl|rfl;exact QAv _ _;exact QT _
 exact v.fpOk u (v.hok.fresh u)
theorem Xa(l:x="enumerate")(o:Gl X x)(n:X.mg x=kf)(Y:PA X [a] ta)(m:CC a=kd) :
  PI X (.Tuple es d k) (.Call (.Name x p) [a] [] pos) (ZU λσ H R=>ta σ H λvs w=>uC X.K .enum vs w R):=by
 subst l;intro u s σ H R I h;refine Call_ (xF I o n o0 (qZ (OB (Y pos u s σ H _ I h) λZ W #[vs,w,v,e,g]=>?_) (IA _ m) rfl))
 match vs,g with
 |[.ref l1],#[z,xs,e1,h1,q] =>
  subst e1;cases e with|cons r b=>cases b;cases r;let#[j,_,y,_]:=v.src h1;refine CW y λA st i=>B7 (xs:=xs) v y st i ?_;simpa using q
theorem fc{K:QA}{u:V}{H:Hp}{R:List Item->(Hp->Prop)->Hp->Prop}(h:uC K .itm [u] H R):∃a ep kvs,u=.ref a/\H a=kv (.dT ep kvs)/\R (kvs.map λp=>.tup [.ref p.2.1,p.2.2]) (λH=>H a=kv (.dT ep kvs)) H:=by
 cases u with|ref a=>let#[ep,kvs,e,q]:=h;exact#[a,ep,kvs,rfl,e,q]|_=>exact Qc h
theorem Mi{o:Expr}{B:TE}{apos cpos:Pos}(J:PE X o B)(i:fk o "items" X.env (Gz o X.env)=Gz o X.env)(g:(apos.endLine==cpos.line)=kd) :
  Yt X (.Tuple es d k) (.Call (.Attribute o "items" apos) [] [] cpos) (ZU λσ H R=>B σ H λv l=>uC X.K .itm [v] l R):=by
 intro u s σ H R I h;refine QAm i g (OB (J u s σ H _ I h) λv j #[x,l,C,E,G]=>?_);let#[a,ep,y,rfl,e,q]:=fc G;cases E;let#[z,L,P,r,ob,W,m,Z,N,M,Q]:=(show GA X.prog X.w l j.1 a (.dT ep y) from C.hok a _ e)
 refine#["dict",_,QAo,PySem.F.slot_dict_items,PySem.F.type_dict_items,#[ob,m,Z.1],λb O=>?_,Wf rfl (QBU (BW m Z.1 L ?_))];cases O;exact#[ob,m,Z.2.1];have A:Inv X u σ l { j with heap:=j.1.push { cls:=.type "dict_items",data:=.fields (qG [.ref a]) } }:=C.kept (t':=j.toks) λb o e=>QH _ e;refine P6 #[_,QO _ rfl,rfl,rfl] (QH _ m) N ?_;have Y:W.size=y.length:=by have:=ak wI M;rw[QE,Qn]at this;rw[this,<- qC r]
 refine#[_,[_],_,_,l,rfl,A.kept (t':=j.toks) λb o e=>QH _ e,FU (a:=a) (n:=y.9) (ep:=ep),#[.none,.none,?_],λb hb=>?_,q _ (T0 ep a y)];rw[<- Y];exact QO _ rfl;have e:=QI.mp hb;subst e;exact A.fpOk (QT _) (A.hok.fresh (QT _))
end
end
section
variable{u σ:St}{K:QA}{k:Tg}{H:Hp}{Q:St->Hp->Prop}
def Tg.at:Tg->LN
 | .nm i=>[i]|.tp h=>h
def sU(k:Tg)(u σ:St):Prop:=u.9=σ.9/\∀(j:Nat),j∉k.at->u[j]?=σ[j]?
theorem GY{i:Nat}{v:Option V}(h:u.9=σ.9)(x:∀j,j≠i->u[j]?=σ[j]?):u.set i v=σ.set i v:=by apply wE;intro j;by_cases e:j=i;subst e;by_cases hl:j<σ.9;rw[qf (),qf hl];rw[Q7 (by rw[qa];omega),Q7 (by rw[qa];omega)];rw[qP (Qm e),qP (Qm e)];exact x j e
theorem mI:∀(is:LN) (vs:LV) (u σ:St),u.9=σ.9->(∀j,j∉is->u[j]?=σ[j]?)->cB is vs u=cB is vs σ
 |[],[],u,σ,hl,h=>by have:u=σ:=wE λj=>h j (by simp);rw[this]|[],_::_,_,_,_,_=>rfl|_::_,[],_,_,_,_=>rfl|i::is,v::vs,u,σ,hl,h=>by simp only[cB];refine mI is vs _ _ (by simp[hl]) λj y=>?_;by_cases e:j=i;subst e;by_cases x:j<σ.9;rw[qf (),qf x];rw[Q7 (by rw[qa];omega),Q7 (by rw[qa];omega)];rw[qP (Qm e),qP (Qm e)];exact h j (by simp[e,y])
theorem IE:∀(is:LN) (vs:LV) (σ u:St),cB is vs σ=kv u->u.9=σ.9/\∀j,j∉is->u[j]?=σ[j]?
 |[],[],σ,u,e=>by simp only[cB]at e;cases e;exact#[rfl,λ_ _=>rfl]|[],_::_,_,_,e=>by simp[cB]at e|_::_,[],_,_,e=>by simp[cB]at e|i::is,v::vs,σ,u,e=>by simp only[cB]at e;let#[y,x]:=IE is vs _ _ e;refine#[by rw[y,qa],λj h=>?_];rw[x j (λz=>h (QD _ z)),qP (λz=>h (by simp[z]))]
theorem zU{v:V}(a:sU k u σ)(h:gG K k v σ H Q):gG K k v u H λx m=>sU k x σ/\Q x m:=by
 let#[f,g]:=a;cases k with
 |nm i=>have e:u.set i (kv v)=σ.set i (kv v):=GY f λj y=>g j (by simpa[Tg.at]using y);show sU (.nm i) (u.set i (kv v)) σ/\Q (u.set i (kv v)) H;rw[e];exact#[#[by simp,λj y=>qP (λz=>y (by simp[Tg.at,z]))],h]|tp b =>
  cases v with|ref p=>let#[w,x,l,e,q]:=h;exact#[w,x,l,by rw[mI b w u σ f λj y=>g j y];exact e,#[(IE b w σ x e).1,λj y=>(IE b w σ x e).2 j y],q]|_=>exact Qc h
theorem FW{v:V}{y:St->Hp->Prop}(m:∀σ H,Q σ H->y σ H)(h:gG K k v σ H Q):gG K k v σ H y:=by
 cases k with
 |nm i=>exact m _ _ h|tp a =>
  cases v with|ref p=>let#[z,x,w,e,q]:=h;exact#[z,x,w,e,m _ _ q]|_=>exact Qc h
theorem GH{it:Item}{x:V}{y:Hp}(w:match it with | .one v=>x=v/\y=H | .tup vs=>∃p,H p=kf/\x=.ref p/\y=pA H p (.tup vs))(h:bindI K k it σ H Q):gG K k x σ y Q:=by
 cases it with
 |one v=>let#[rfl,rfl]:=w;exact h|tup vs =>
  let#[p,z,rfl,rfl]:=w;cases k with
  |nm i=>exact h p z|tp a =>
   let#[u,e,q]:=h (pA H p (.tup vs)) λb o e=>by rw[jA (oA e z)];exact e
   exact#[vs,u,xD.of bA,e,q]
theorem N7{xs:List Item}{st:Hp->Prop}{tc:TT}{te:TE}{a:St}{Q:VK}(h:kr K xs st (bindI K k) tc te a H Q):YY K xs st k tc te a H Q:=by
 let#[W,Z,o,j,done]:=h;intro J Y;refine#[λi m v u f=>m=xs.9 - i/\i<=xs.9/\sU k u a/\W i v f,#[xs.9,by simp,Qs _,#[rfl,λ_ _=>rfl],Z],?_];rintro i m v u f ⟨rfl,C,F,w⟩;have n:=o i v f C w;by_cases g:i<xs.9;refine .inr #[Y.go i f n g,λx G y=>?_];let#[it,p,B]:=Y.yld i f x G n g y;have b:=zU F (GH B (j i it v f p w));refine FW (λl I q=>?_) b;let#[r,q]:=q;have E:∀(z:LV) (s:Hp),(∃X,X < xs.9 - i/\X=xs.9 - (i+1)/\i+1<=xs.9/\sU k l a/\W (i+1) z s)=W (i+1) z s:=λz s =>
  Az #[λ#[_,_,_,_,_,w]=>w,λw=>#[_,(),rfl,g,r,w]]
 simp only[E];exact q
 ·have e:i=xs.length:=()
  subst e;let#[A,q]:=done v f w;exact .inl #[Y.stop _ f n (QT _),A,q]
end
end L2.L3
namespace L2.L3
open PySem PySem.Spec PyProof.Rows
variable{Γ:Ev}
section
variable{X:Cx}{E:XK}{p its:PX}{es:List Expr}{e t it:Expr}{pos:Pos}{S:SC}{Q:LV->Hp->Prop}{G:Glob}{d:ItK}
def cQ:PX->Bool
 | .acons _ _=>kb|_=>kd
theorem xU(h:cQ p=kd):oR X Γ E p es:=by cases p<;>first|trivial|cases h
theorem xR(Q:Bool->Hp->Prop):(λ(x:V) (h:Hp)=>J8 x h Q)=λ(x:V) (h:Hp)=>∃k,x=.bl k/\Q k h:=by funext x h;exact zm x h Q
theorem Snd.of(pe:PE X e (wp X.K Γ p E).e)(pt:PT X e (wp X.K Γ p E).t)(hb:∀op es pos,e≠.BoolOp op es pos)(x:(wp X.K Γ p E).a=never.a)(h:cQ p=true:=by rfl):Snd X Γ E p e :=
 #[pe,pt,λop es pos z=>Uz z (hb op es pos),λes pos z=>by rw[x];exact gS,λ_ _ _=>xU h]
theorem Snd.lit(pe:PE X e (wp X.K Γ p E).e)(h:(wp X.K Γ p E).t=never.t)(hb:∀op es pos,e≠.BoolOp op es pos)(y:(wp X.K Γ p E).a=never.a)(x:cQ p=true:=by rfl):Snd X Γ E p e :=
 Snd.of pe (by rw[h];exact EL) hb y x
theorem Snd.args(w:PA X es (wp X.K Γ p E).a)(u:oR X Γ E p es)(v:(wp X.K Γ p E).e=never.e)(y:(wp X.K Γ p E).t=never.t):Snd X Γ E p (.List es pos) :=
 #[by rw[v];exact L4,by rw[y];exact EL,λ_ _ _ z=>(by cases z),λx h z=>by cases z;exact w,λx h z=>by cases z;exact u]
theorem Ei{x:Str}{v:V}{u:kn}(y:X.env.scope=S.sc)(h:gT S x=kd)(z:X.mg x=kv u)(r:VA v u):PE X (.Name x pos) (λ_ H Q=>Q v H):=by let#[k,w,a]:=bE h;exact Ba (show X.env.scope.names.lookup x=kv .globalImplicit by rw[y];exact k) z r w
theorem OE:∀(p:PX) {es:List Expr},zC p S (.List es pos)=kd->es.all CC=true:=by
 intro p;induction p with|anil=>intro es h;have h:es.isEmpty=true:=h;rw[Qv.mp h];rfl|acons a u _ y=>intro es h;have h:vb es _=true:=h;let#[x,t,rfl,h]:=rK h;have z:=zA h;rw[qb,z.1,y (zA z.2).2];rfl|lst u y=>exact λh=>y h|_=>exact λh=>(QG h).elim
theorem vU{K:QA}{σ:St}{H:Hp}:∀(p:PX),bF p=kd->zC p S (.List [] pos)=kd->((wp K Γ p E).a σ H Q↔Q [] H):=by
 intro p;cases p with|anil=>exact λ_ _=>wW|acons _ _=>exact λ_ h=>(QG h).elim|_=>exact λh=>(QG h).elim
theorem Z0{K:QA}{σ:St}{H:Hp}(p:PX)(h:zC p S (.List [] pos)=kd)(q:(wp K Γ p E).a σ H Q):Q [] H:=by
 cases x:bF p with
 |true=>exact(vU p x h).mp q|false =>
  cases p with|anil=>exact q|acons _ _=>exact(QG h).elim|_=>exact q.elim
theorem kU{a:Expr}(p:PX)(y:bF p=kd)(h:zC p S (.List [a] pos)=kd):∃x,p=.acons x .anil:=by
 cases p with
 |acons x r =>
  have z:zC r S (.List [] pos)=true:=(zA (zA h).2).2;cases r with|anil=>exact#[x,rfl]|acons _ _=>exact(QG z).elim|_=>exact(QG y).elim
 |anil=>exact(QG h).elim|_=>exact(QG y).elim
theorem xq(h:X.A.units+66<Z1)(m:Mt):∃id,l5 m.ty/\Slot m.ty m.nm id/\typeOf (.builtin id)=rk (.type "method_descriptor")/\x9 X id (Ab X.K m):=by
 cases m with|append=>exact#[_,Wb,PySem.F.slot_list_append,PySem.F.type_list_append,nZ]|pop=>exact#[_,Wb,PySem.F.slot_list_pop,PySem.F.type_list_pop,Rb]|extend=>exact#[_,Wb,PySem.F.slot_list_extend,PySem.F.type_list_extend,Sb]|setd=>exact#[_,QAo,PySem.F.slot_dict_setdefault,PySem.F.type_dict_setdefault,lZ h]
theorem RE{env:Env}{pos:Pos}:∀{es:List Expr},es.all CC=kd->(hQ pos (v9 es env)).any (·.1)=kb
 |[],_=>rfl|e::es,h=>by rw[qb]at h;let#[y,x]:=zA h;rw[IA env y];show(kb||(hQ pos (v9 es env)).any (·.1))=kb;rw[RE x];rfl
theorem uU{env:Env}{pos:Pos}:∀{es:List Expr},es.all CC=kd->(hQ pos (v9 es env)).all (λx=>!x.1)=kd
 |[],_=>rfl|e::es,h=>by rw[qb]at h;let#[z,y]:=zA h;rw[IA env z];show(kd&&(hQ pos (v9 es env)).all (λx=>!x.1))=kd;rw[uU y];rfl
theorem jV(ok:OkX X S G E)(y:vt (bF its) S d (λes p=>zC its S (.List es p)) t it pos=kd)(j:Xq G d)(m:isItm d=kb)
  (b:∀es p,zC its S (.List es p)=kd->Snd X G.ev E its (.List es p)):PI X t it (ZU λσ H R=>(wp X.K G.ev its E).a σ H λvs o=>uC X.K d vs o R):=by
 have w:∀{x:Str},gT S x=kd->Gl X x:=λ{x} h=>by show X.env.scope.names.lookup x=kv .globalImplicit;rw[ok.sc];exact(bE h).1
 have z:TV t=kd->∃es k p,t=.Tuple es k p:=λh=>by
  cases t with|Tuple es k p=>exact#[es,k,p,rfl]|_=>exact(QG h).elim
 cases d with|val=>have i:=zA y;have f:=(b _ pos i.2).pas _ pos rfl;let#[a,rfl]:=kU its i.1 i.2;exact Ja f.1|rng1=>let#[l,es,n,p,rfl,g,h]:=fF y;have v:=zA h;cases Qv.mp v.1;let#[a,rfl,u]:=HB v.2;exact Ka rfl (w g) (ok.no _ j) ((b _ p u).pa _ p rfl) (by simpa using OE its u)|enum=>have i:=zA y;let#[es,k,pt,rfl]:=z i.1;let#[l,es,n,p,rfl,g,h]:=fF i.2;have v:=zA h;cases Qv.mp v.1;let#[a,rfl,u]:=HB v.2;exact Xa rfl (w g) (ok.no _ j) ((b _ p u).pa _ p rfl) (by simpa using OE its u)|itm=>cases m
theorem Va(ok:OkX X S G E)(x:vt (bF its) S d (λes p=>zC its S (.List es p)) t it pos=kd)(g:Xq G d)
  (u:∀es p,zC its S (.List es p)=kd->Snd X G.ev E its (.List es p)):Yt X t it (ZU λσ H R=>(wp X.K G.ev its E).a σ H λvs j=>uC X.K d vs j R):=by
 cases b:isItm d with
 |false=>exact(jV ok x g b u).to0|true =>
  cases d with
  |itm =>
   have i:=zA x;have w:=zA i.2;cases t with|Tuple es k pt=>let#[v,l,es,p,rfl,hl,h]:=HX w.2;have f:=zA h;have z:=zA f.2;cases Qv.mp z.1;have y:=(u _ p z.2).pas _ p rfl;let#[a,rfl]:=kU its w.1 z.2;exact Mi y.1 (P5 f.1) hl|_=>exact(QG i.1).elim
  |_=>cases b
theorem yF{te x:TE}(h:PE X e te)(q:∀σ H Q,x σ H Q->te σ H Q):PE X e x:=λy s σ H Q I z=>h y s σ H Q I (q σ H Q z)
theorem snd:∀(p:PX) {X:Cx}{S:SC}{E:XK}(ok:OkX X S G E) {e:Expr},zC p S e=kd->yB G p->Snd X G.ev E p e:=by
 intro p;induction p with
 |var i =>
  intro X S E ok e h _;let#[x,pos,rfl,h]:=YD h;let#[Y,B,J,O]:=jX h;have base:=yV (pos:=pos) (show X.N[i]?=kv x by rw[ok.N];exact Y) (show vn X.env.scope x by rw[ok.sc];exact B) J O;have pe:PE X (.Name x pos) (wp X.K G.ev (.var i) E).e:=yF base λW H Q q=>by
   have q:(match W[i]? with|some (kv v)=>Q v H|_=>False):=q;cases hs:W[i]? with
   |none=>rw[hs]at q;exact q.elim|some o =>
    rw[hs]at q;cases o with|none=>exact q.elim|some v=>exact#[v,hs,q]
  exact Snd.of pe (iD pe λ_=>rfl) (λ_ _ _ z=>by cases z) rfl
 |mv i =>
  intro X S E ok e h _;let#[x,pos,rfl,h]:=YD h;let#[Y,B,J,O]:=jX h;have base:=yV (pos:=pos) (show X.N[i]?=kv x by rw[ok.N];exact Y) (show vn X.env.scope x by rw[ok.sc];exact B) J O;have pe:PE X (.Name x pos) (wp X.K G.ev (.mv i) E).e:=yF base λW H Q q=>by
   have q:(match W[i]? with|some (kv v)=>Q v H|_=>False):=q;cases hs:W[i]? with
   |none=>rw[hs]at q;exact q.elim|some o =>
    rw[hs]at q;cases o with|none=>exact q.elim|some v=>exact#[v,hs,q]
  exact Snd.lit pe rfl (λ_ _ _ z=>by cases z) rfl
 |int i=>intro X S E ok e h _;let#[c,k,pos,rfl,h]:=YE h;let#[j,rfl,h]:=x8 h;cases qS h;exact Snd.of zV (iD (ta:=λ_ H Q=>Q (.int i) H) zV λ_=>rfl) (λ_ _ _ z=>by cases z) rfl|str x=>intro X S E ok e h _;let#[c,k,pos,rfl,h]:=YE h;let#[j,rfl,h]:=Fl h;cases qS h;exact Snd.lit Si rfl (λ_ _ _ z=>by cases z) rfl|bl b=>intro X S E ok e h _;let#[c,k,pos,rfl,h]:=YE h;let#[j,rfl,h]:=Yd h;cases qS h;exact Snd.of Be (iD (ta:=λ_ H Q=>Q (.bl b) H) Be λ_=>rfl) (λ_ _ _ z=>by cases z) rfl|non=>intro X S E ok e h _;let#[c,k,pos,rfl,h]:=YE h;cases Jd h;exact Snd.of G4 (iD (ta:=λ_ H Q=>Q .non H) G4 λ_=>rfl) (λ_ _ _ z=>by cases z) rfl|glo x=>intro X S E ok e h nd;let#[y,pos,rfl,h]:=YD h;have h:=zA h;cases qS h.1;let#[u,hm,r]:=ok.val x nd;have pe:=Ei (pos:=pos) ok.sc h.2 hm r;exact Snd.of pe (iD pe λ_=>rfl) (λ_ _ _ z=>by cases z) rfl|bty x n=>intro X S E ok e h nd;let#[y,pos,rfl,h]:=YD h;have h:=zA h;cases qS h.1;let#[g1,g2,g3]:=bE h.2;exact Snd.lit (Ma (show X.env.scope.names.lookup x=kv .globalImplicit by rw[ok.sc];exact g1) (ok.no x nd.1) nd.2 rfl g3 g2) rfl (λ_ _ _ z=>by cases z) rfl|bin op a b Z M=>intro X S E ok e h nd;let#[l,o,r,pos,rfl,h]:=ub h;have Y:=zA h;have B:=zA Y.2;cases qS Y.1;have pe:=Zp (pos:=pos) (bj op) (Z ok B.1 nd.1).pe (M ok B.2 nd.2).pe;exact Snd.of pe (iD pe λ_=>rfl) (λ_ _ _ z=>by cases z) rfl|cmp op a b Z M=>intro X S E ok e h nd;let#[l,os,rs,pos,rfl,h]:=zb h;let#[o,rfl,h]:=HB h;let#[r,rfl,h]:=HB h;have Y:=zA h;have B:=zA Y.2;have J:=zA B.2;cases qS Y.1;have pa:=(Z ok J.1 nd.1).pe;have pb:=(M ok J.2 nd.2).pe;refine Snd.of (Ha (pos:=pos) (x5 ok.un op) pa pb (R5 B.1)) (λL s W H Q I q=>ua (pos:=pos) (x5 ok.un op) pa pb (R5 B.1) L s W H Q I ?_) (λ_ _ _ z=>by cases z) rfl;show ao _ _ _ W H (λ(x:V) (A:Hp)=>∃k,x=.bl k/\Q k A);rw[<- xR Q];exact q|and a b Z M =>
  intro X S E ok e h nd;let#[o,es,pos,rfl,h]:=nS h;have Y:=zA h;cases qS Y.1;let#[l,t,rfl,B]:=rK Y.2;let#[r,t,rfl,J]:=rK B;have O:=zA J;have sa:=Z ok O.1 nd.1;have sb:=M ok O.2 nd.2;have eqA:∀(W:St) (Q:VK),(λ(x:V) (A:Hp)=>∃c,x=.bl c/\if c=kd then(wp X.K G.ev b E).e W A Q else Q (.bl kb) A)=λ(x:V) (A:Hp)=>J8 x A λc H2=>if c=kd then(wp X.K G.ev b E).e W H2 Q else Q (.bl kb) H2:=λW Q=>(xR _).symm
  have key:PW X (.BoolOp .And (l::r::t) pos) (wp X.K G.ev (.and a b) E).t/\PE X (.BoolOp .And (l::r::t) pos) (λW H Q=>(wp X.K G.ev a E).e W H λx A=>∃c,x=.bl c/\if c=kd then(wp X.K G.ev b E).e W A Q else Q (.bl kb) A):=by
   cases t with|nil=>exact#[x4 sa.pt (xa sb.pt),N4 (pos:=pos) sa.pe (D4 sb.pe)]|cons q t=>exact#[x4 sa.pt (sb.pw _ _ _ rfl),N4 (pos:=pos) sa.pe sb.pe]
  refine#[yF key.2 λW H Q q=>?_,key.1.pt,λ_ _ _ _=>key.1,λ_ _ z=>(by cases z),λ_ _ z=>trivial];rw[eqA];exact q
 |or a b Z M =>
  intro X S E ok e h nd;let#[o,es,pos,rfl,h]:=nS h;have Y:=zA h;cases qS Y.1;let#[l,t,rfl,B]:=rK Y.2;let#[r,t,rfl,J]:=rK B;have O:=zA J;have sa:=Z ok O.1 nd.1;have sb:=M ok O.2 nd.2;have eqA:∀(W:St) (Q:VK),(λ(x:V) (A:Hp)=>∃c,x=.bl c/\if c=kd then Q (.bl kd) A else(wp X.K G.ev b E).e W A Q)=λ(x:V) (A:Hp)=>J8 x A λc H2=>if c=kd then Q (.bl kd) H2 else(wp X.K G.ev b E).e W H2 Q:=λW Q=>(xR _).symm
  have key:PW X (.BoolOp .Or (l::r::t) pos) (wp X.K G.ev (.or a b) E).t/\PE X (.BoolOp .Or (l::r::t) pos) (λW H Q=>(wp X.K G.ev a E).e W H λx A=>∃c,x=.bl c/\if c=kd then Q (.bl kd) A else(wp X.K G.ev b E).e W A Q):=by
   cases t with|nil=>exact#[Ke sa.pt (Xi sb.pt),Ue (pos:=pos) sa.pe (D4 sb.pe)]|cons q t=>exact#[Ke sa.pt (sb.pw _ _ _ rfl),Ue (pos:=pos) sa.pe sb.pe]
  refine#[yF key.2 λW H Q q=>?_,key.1.pt,λ_ _ _ _=>key.1,λ_ _ z=>(by cases z),λ_ _ z=>trivial];rw[eqA];exact q
 |not a Z=>intro X S E ok e h nd;let#[o,x,pos,rfl,h]:=u5 h;have Y:=zA h;cases qS Y.1;have sa:=Z ok Y.2 nd;refine Snd.of (λL s W H Q I q=>?_) (Ui sa.pt) (λ_ _ _ z=>by cases z) rfl;refine UnaryOp_ (OB (sa.pe L s W H _ I q) λv s1 #[x,A,I1,r1,q1]=>?_);have q1:DF X.K x A (λc H2=>Q (.bl (!c)) H2):=q1;rw[xX]at q1;refine not_of (OB (C2 L s1 W A x v _ I1 r1 q1) λc s2 #[H2,I2,q2]=>?_);exact#[.bl (!c),H2,I2,rfl,q2]|call f as ih =>
  intro X S E ok e h nd;let#[p,es,ks,pos,rfl,hg,h]:=fF h;have Y:=zA h;cases Qv.mp Y.1;let#[g1,g2,g3]:=bE hg;have hg:Gl X f:=show X.env.scope.names.lookup f=kv .globalImplicit by rw[ok.sc];exact g1
  let#[CX,k,a,fd,ps,F,hr,hm,hk,hb,hx,_]:=ok.fn f nd.1;have pa:=(ih ok Y.2 nd.2).pa es pos rfl;have st:=OE as Y.2;have pe:PE X (.Call (.Name f p) es [] pos) (wp X.K G.ev (.call f as) E).e:=by
   cases es with|nil=>exact yF (M4 (pos:=pos) (p:=p) F hr hg hm hk hb .nil hx g2) λW H Q q=>Z0 as Y.2 q|cons e1 P=>have st:=zA st;refine yF (La (pos:=pos) (p:=p) F hr hg hm hk hb .nil hx pa g2 (IA _ st.1) (RE st.2)) λW H Q q=>?_;show(wp X.K G.ev as E).a W H λvs A=>G.ev.sp f (vs++[]) A Q E;simp only[qE];exact q
  exact Snd.of pe (iD pe λ_=>rfl) (λ_ _ _ z=>by cases z) rfl
 |idx a b Z M=>intro X S E ok e h nd;let#[v,i,pos,rfl,h]:=kQ h;have Y:=zA h;have B:=zA Y.2;have pe:=Kp (pos:=pos) (Uk ok.un) (Z ok B.1 nd.1).pe (M ok B.2 nd.2).pe (aa Y.1);exact Snd.of pe (iD pe λ_=>rfl) (λ_ _ _ z=>by cases z) rfl|nop=>intro X S E ok e h nd;exact(QG h).elim|lst as ih=>intro X S E ok e h nd;let#[es,pos,rfl,h]:=mM h;have pa:=(ih ok h nd).pa es pos rfl;exact#[Ti pa,EL,λ_ _ _ z=>(by cases z),λ_ _ z=>gS,λ_ _ z=>trivial]|tup as ih=>intro X S E ok e h nd;let#[es,k,pos,rfl,h]:=Ea h;exact Snd.lit (Ri ((ih ok h nd).pa es pos rfl)) rfl (λ_ _ _ z=>by cases z) rfl|dnew b=>intro X S E ok e h nd;let#[ks,vs,pos,rfl,h]:=lS h;have Y:=zA h;cases Qv.mp Y.1;cases Qv.mp Y.2;exact Snd.lit Da rfl (λ_ _ _ z=>by cases z) rfl|dsp a b Z M =>
  intro X S E ok e h nd;let#[ks,vs,pos,rfl,h]:=lS h;let#[k,rfl,h]:=HB h;let#[v,rfl,h]:=HB h;have Y:=zA h;cases k with|none=>exact(QG Y.1).elim|some k=>exact Snd.lit (Ca ok.un (Z ok Y.1 nd.1).pe (M ok Y.2 nd.2).pe) rfl (λ_ _ _ z=>by cases z) rfl
 |ng i=>intro X S E ok e h nd;let#[o,x,pos,rfl,h]:=u5 h;have Y:=zA h;cases qS Y.1;let#[c,k,pos2,rfl,B]:=YE Y.2;let#[j,rfl,B]:=x8 B;cases qS B;exact Snd.lit (λL s W H Q I q=>Yp (pos:=pos) (Nh (X:=X)) (ta:=λ_ H Q=>Q (.int i) H) zV L s W H Q I #[i,rfl,q]) rfl (λ_ _ _ z=>by cases z) rfl|lrg a Z=>intro X S E ok e h nd;let#[p,es,ks,pos,rfl,hg,h]:=fF h;have Y:=zA h;cases Qv.mp Y.1;let#[x,rfl,h]:=HB Y.2;let#[p',es,ks,pos',rfl,hg',h]:=fF h;have B:=zA h;cases Qv.mp B.1;let#[y,rfl,h5]:=HB B.2;have J:=zA h5;refine Snd.lit (Ai ok.calm (show X.env.scope.names.lookup _=kv .globalImplicit by rw[ok.sc];exact(bE hg).1) (show X.env.scope.names.lookup _=kv .globalImplicit by rw[ok.sc];exact(bE hg').1) (ok.no _ nd.1) (ok.no _ nd.2.1) (Z ok J.2 nd.2.2).pe (IA _ J.1)) rfl (λ_ _ _ z=>by cases z) rfl|anil=>intro X S E ok e h nd;let#[es,pos,rfl,h]:=mM h;cases Qv.mp h;exact Snd.args PP trivial rfl rfl|acons a as Z ih=>intro X S E ok e h nd;let#[es,pos,rfl,h]:=mM h;let#[e1,P,rfl,h]:=rK h;have Y:=zA h;have B:=zA Y.2;have sa:=(Z ok B.1 nd.1).pe;have ss:=ih ok B.2 nd.2;exact Snd.args (eI sa (ss.pa P pos rfl) (IA _ Y.1)) #[sa,ss.pas P pos rfl] rfl rfl|bi f as ih =>
  intro X S E ok e h nd;let#[p,es,ks,pos,rfl,hg,h]:=fF h;have Y:=zA h;cases Qv.mp Y.1;let#[e1,P,rfl,J]:=rK Y.2;let#[g1,g2,g3]:=bE hg;have hg:Gl X f.nm:=show X.env.scope.names.lookup f.nm=kv .globalImplicit by rw[ok.sc];exact g1
  have pa:=(ih ok J nd.2).pa _ pos rfl;have st:=zA (OE as J);have pe:PE X (.Call (.Name f.nm p) (e1::P) [] pos) (wp X.K G.ev (.bi f as) E).e:=by
   rcases Br ok.un ok.calm f with⟨id,hb,hc⟩| ⟨T,hb,hc⟩
   exact bM (pos:=pos) (p:=p) hc hg (ok.no _ nd.1) hb pa g3 g2 (IA _ st.1) (RE st.2);exact AY (pos:=pos) (p:=p) hc hg (ok.no _ nd.1) hb pa g3 g2 (IA _ st.1) (RE st.2)
  exact Snd.of pe (iD pe λ_=>rfl) (λ_ _ _ z=>by cases z) rfl
 |isi a c Z ihc =>
  intro X S E ok e h nd;let#[p,es,ks,pos,rfl,hg,h]:=fF h;have Y:=zA h;cases Qv.mp Y.1;let#[l,r,rfl,B]:=Lp Y.2;have J:=zA B;have O:=zA J.2;have h5:=zA O.2;let#[g1,g2,g3]:=bE hg;have hg:Gl X "isinstance":=show X.env.scope.names.lookup ("isinstance":Str)=kv .globalImplicit by rw[ok.sc];exact g1
  have pe:PE X (.Call (.Name "isinstance" p) [l,r] [] pos) (wp X.K G.ev (.isi a c) E).e :=
   bM (pos:=pos) (p:=p) E7 hg (ok.no _ nd.1) (by kernel_rfl) (eI (Z ok h5.1 nd.2.1).pe (eI (ihc ok h5.2 nd.2.2).pe PP (IA _ O.1)) (IA _ J.1)) g3 g2 (IA _ J.1) (RE (by rw[qb,O.1];rfl))
  exact Snd.of pe (iD pe λ_=>rfl) (λ_ _ _ z=>by cases z) rfl
 |mt m o as iho ih =>
  intro X S E ok e h nd;let#[v,ap,es,pos,rfl,B,h]:=HX h;have h0:=zA h;have Y:=zA h0.2;have J:=zA Y.2;have O:=zA J.2;have po:=(iho ok O.1 nd.1).pe;have pa:=(ih ok O.2 nd.2).pa _ pos rfl;have st:=OE as O.2;let#[id,pat,sl,ty,mr]:=xq (X:=X) ok.un m;have pe:PE X (.Call (.Attribute v m.nm ap) es [] pos) (wp X.K G.ev (.mt m o as) E).e:=by
   cases es with
   |nil =>
    refine yF (Ii (apos:=ap) (cpos:=pos) pat sl ty mr po (P5 Y.1) B) λW H Q q=>?_;have e:(λ(x:V) (A:Hp)=>BU X.K m.ty x A/\Ab X.K m x [] A Q)=λ(x:V) (A:Hp)=>BU X.K m.ty x A/\(wp X.K G.ev as E).a W A λvs H2=>Ab X.K m x vs H2 Q:=by funext x A;rw[Az (vU as h0.1 O.2)]
    show(wp X.K G.ev o E).e W H (λ(x:V) (A:Hp)=>BU X.K m.ty x A/\Ab X.K m x [] A Q);rw[e];exact q
   |cons e1 P=>have s2:=zA st;refine Vp (apos:=ap) (cpos:=pos) pat sl ty mr po pa (P5 Y.1) ?_ B (IA _ s2.1) (RE s2.2);rw[uU st];have hl':(e1::P).9<20:=aj J.1;show(kd&&kd&&decide ((e1::P).9+0+0<30))=kd;rw[dT (Qo hl' (by decide:20<=30):(e1::P).9+0+0<30)];rfl
  exact Snd.of pe (iD pe λ_=>rfl) (λ_ _ _ z=>by cases z) rfl
 |slc a lo hi Z ihl ihh =>
  intro X S E ok e h nd;let#[v,sl,pos,rfl,h]:=kQ h;let#[l,u,st,p2,rfl,h]:=jZ h;have Y:=zA h;have B:=zA Y.2;have J:=zA B.2;have part:∀(q:PX) (w:Option Expr),(∀{e:Expr},zC q S e=kd->PE X e (wp X.K G.ev q E).e)->Gp w (isNop q) (λe=>!isNop q&&zC q S e)=kd ->
    PO X w (λW H R=>(if isNop q=kd then λ(R:Option Int->Hp->Prop)=>R kf H else λR=>(wp X.K G.ev q E).e W H λl H2=>dM l H2 R) R):=by
   intro q w ihq hq;cases w with
   |none=>have e:isNop q=true:=hq;simp only[e,if_true];exact ma|some e' =>
    have q1:=zA hq;have e:isNop q=false:=(Q6 _).mp q1.1;simp only[e,Qu,if_false];intro L s W H Q I w;refine ga (ihq q1.2) L s W H Q I ?_;show(wp X.K G.ev q E).e W H (λ(x:V) (A:Hp)=>∃i,x=.int i/\Q (kv i) A);have e2:(λ(x:V) (A:Hp)=>∃i,x=.int i/\Q (kv i) A)=λ(x:V) (A:Hp)=>dM x A Q:=by funext x A;exact(O4 x A Q).symm
    rw[e2];exact w
  cases QAd.mp Y.1;exact Snd.lit (C4 (pos:=pos) (p2:=p2) xi (Z ok B.1 nd.1).pe (part lo l (λhc=>(ihl ok hc nd.2.1).pe) J.1) (part hi u (λhc=>(ihh ok hc nd.2.2).pe) J.2)) rfl (λ_ _ _ z=>by cases z) rfl
 |comp mask tgs tg d its cond elt ihi ihc ihe =>
  intro X S E ok e h nd;let#[e,gens,scope,pos,rfl,h]:=fV h;let#[#[t,it,ifs,asy],rfl,h]:=HB h;have h0:=zA h;have hi:=zA h0.2;have Y:=zA hi.2;have B:=zA Y.2;have J:=zA B.2;have O:=zA J.2;have h5:=zA O.2;have ea:asy=0:=qS h0.1;cases ea;have C:CompSt X.N X.env.scope scope tgs mask:=by rw[ok.N,ok.sc];exact UT Y.1
  let#[n1,n2,n3,n4]:=nd;have pi:PI X t it (ZU λW H R=>(wp X.K G.ev its E).a W H λvs A=>uC X.K d vs A R):=jV ok O.1 n1 ((Q6 _).mp hi.1) λes p q=>ihi ok q n2;refine Snd.lit (Fa (pos:=pos) (g:=gG X.K tg) (tc:=if isNop cond=kd then λ_ H Q=>Q kd H else(wp X.K G.ev cond (λ_ _ _=>False)).t) (te:=(wp X.K G.ev elt (λ_ _ _=>False)).e) ok.calm pi C (λs H ex=>?_) (λx=>YV J.1 x)) rfl (λ_ _ _ z=>by cases z) rfl;have okc:=ok.comp scope tgs mask s H ex;refine#[B4 okc (λz=>(QG z).elim) C.nd B.1,?_,(ihe okc h5.2 n4).pe];have hif:=h5.1;cases ifs with|nil=>have e:isNop cond=true:=hif;simp only[e,if_true];exact aX|cons c r=>have q1:=zA hif;have q2:=zA q1.2;cases Qv.mp q1.1;have e:isNop cond=false:=(Q6 _).mp q2.1;simp only[e,Qu,if_false];exact tX (ihc okc q2.2 n3).pt
end
end L2.L3
namespace L2.L3
open PySem PySem.Spec PyProof.Rows
section
variable{s:z4}{f:Expr->List z4->List z4->Bool}
set_option genSizeOf false in
set_option genInjectivity false in
inductive PT where
 |nil|seq (s r:PT)
 |set (i:Nat) (e:PX)
 |expr (e:PX)|ret (e:PX)
 |ife (c:PX) (a b:PT)
 |for_ (tg:Tg) (ik:ItK) (its:PX) (body:PT)
 |own (i:Nat) (e:PX)|six (o i e:PX)|sdf (i:Nat) (k:PX)|whl (c:PX) (body:PT)|frz (is:LN) (s:PT)|hs (s:PT)|gol (s m:PT)
noncomputable def f7:PT:=.expr (.mt .append (.var 7) %[.tup %[.var 8,.var 9,.mv 10,.mv 5|1]|1])
def zO:PT->PT
 | .seq s r=>.seq s (zO r)|.nil=>.seq f7 .nil|s=>.seq s %[f7|2]
noncomputable def Hk:PT:=.for_ (.nm 8) .val %[.slc (.var 6) .nop (.int 1)|1] %[.expr (.mt .append (.idx (.var 8) (.int 2)) %[.int 99|1]),.expr (.mt .append (.idx (.var 8) (.int 3)) %[.tup %[.str "x",.str "y"|1]|1])|2]
def ER(K:QA):V->V->V->Hp->(Hp->Prop)->Prop:=λo i v H Q=>match o,i with
 | .ref p,.int k=>∃h j,H p=kv (.lst h)/\JU h.9 k=kv j/\Q (pA H p (.lst (h.set j v)))|.ref p,.str z=>Cm K H p (.str z) v Q|.ref p,.ref b=>Cm K H p (.ref b) v Q|_,_=>False
noncomputable def No(i:Nat)(k:PX):PX:=.mt .setd (.var i) %[k,.dnew kd|1]
def sw(J:It)(g:TG)(tb:TS)(D:Ends)(σ:St)(w:Hp):Prop:=∃W:Nat->Nat->St->Hp->Prop,(∃m,W 0 m σ w)/\∀i m σ H,W i m σ H ->
 (J.stop i H/\D.nx σ H)∨(J.go i H/\∃N:St->Hp->Prop,(∀h y,N h y->∃u,u < m/\W (i+1) u h y)/\∀x y,J.yld i H x y->g x σ y λz v=>tb { D with nx:=N,ct:=N,bk:=D.nx } z v)
def V0(K:QA)(xs:List Item)(st:Hp->Prop)(h:Tg)(tb:TS)(D:Ends)(σ:St)(H:Hp):Prop:=∀J,Yields J xs st->sw J (gG K h) tb D σ H
def ZG(K:QA)(Γ:Ev)(E:XK):PT->TS
 | .nil=>λD h H=>D.nx h H|.seq s r=>λD h H=>ZG K Γ E s { D with nx:=λh H=>ZG K Γ E r D h H } h H|.set i e=>λD h H=>(wp K Γ e E).e h H λx y=>D.nx (h.set i (kv x)) y|.own i e=>λD h H=>(wp K Γ e E).e h H λx y=>D.nx (h.set i (kv x)) y|.expr e=>λD h H=>(wp K Γ e E).e h H λ_ y=>D.nx h y|.ret e=>λD h H=>(wp K Γ e E).e h H D.rt|.ife c a b=>λD h H=>(wp K Γ c E).t h H λk y=>if k=kd then ZG K Γ E a D h y else ZG K Γ E b D h y|.for_ l p u z=>λD h H=>(wp K Γ u E).a h H λj y=>uC K p j y λg st w=>V0 K g st l (ZG K Γ E z) D h w|.six o i e=>λD h H=>(wp K Γ e E).e h H λv y=>(wp K Γ o E).e h y λm w=>(wp K Γ i E).e h w λn X=>ER K m n v X λq=>D.nx h q|.sdf i k=>λD h H=>(wp K Γ (No i k) E).e h H λ_ y=>D.nx h y|.whl c z=>G2 (wp K Γ c E).t (ZG K Γ E z)|.frz _ s=>ZG K Γ E s|.hs s=>ZG K Γ E s|.gol s _=>ZG K Γ E s
def VD(G:Glob):PT->Prop
 | .nil=>True|.seq s r=>VD G s/\VD G r|.set _ e=>yB G e|.own _ e=>yB G e|.six o i e=>yB G o/\yB G i/\yB G e|.sdf i k=>yB G (No i k)|.whl c h=>yB G c/\VD G h|.frz _ s=>VD G s|.hs s=>VD G s|.gol s _=>VD G s|.expr e=>yB G e|.ret e=>yB G e|.ife c a b=>yB G c/\VD G a/\VD G b|.for_ _ y x h=>Xq G y/\yB G x/\VD G h
noncomputable def YH:Expr->Bool
 | .ListComp _ _ _ _ | .SetComp _ _ _ _ | .DictComp _ _ _ _ _=>kb
 |_=>kd
noncomputable def rP(S:SC)(i:Nat)(x:Str):Bool:=S.N[i]?==kv x&&(S.sc.names.lookup x==kv .local||S.sc.names.lookup x==kv .cell)
noncomputable def FO:PT->Bool
 | .nil=>kb|.seq _ _=>kb|.frz _ s=>FO s|.hs s=>FO s|.gol s _=>FO s|_=>kd
noncomputable def VX(s:z4)(f:List Expr->Expr->Bool):Bool:=match s with | .Assign h v _=>f h v|_=>kb
noncomputable def mj(s:z4)(f:Expr->Bool):Bool:=match s with | .Expr v _=>f v|_=>kb
noncomputable def De(s:z4)(f:Option Expr->Bool):Bool:=match s with | .Return v _=>f v|_=>kb
noncomputable def Fe(s:z4)(f:Expr->List z4->List z4->Bool):Bool:=match s with | .If t x y _=>f t x y|_=>kb
noncomputable def Ge(s:z4)(f:Expr->Expr->List z4->List z4->Pos->Bool):Bool:=match s with | .For t it x y p=>f t it x y p|_=>kb
noncomputable def Fp(s:z4)(f:Expr->List z4->List z4->Bool):Bool:=match s with | .While t x y _=>f t x y|_=>kb
theorem xQ{f:List Expr->Expr->Bool}(h:VX s f=kd):∃ts v p,s=.Assign ts v p/\f ts v=true:=by
 cases s with|Assign ts v p=>exact#[ts,v,p,rfl,h]|_=>exact(QG h).elim
theorem t5{f:Expr->Bool}(h:mj s f=kd):∃v p,s=.Expr v p/\f v=true:=by
 cases s with|Expr v p=>exact#[v,p,rfl,h]|_=>exact(QG h).elim
theorem Ia{f:Option Expr->Bool}(h:De s f=kd):∃v p,s=.Return v p/\f v=true:=by
 cases s with|Return v p=>exact#[v,p,rfl,h]|_=>exact(QG h).elim
theorem jb(h:Fe s f=kd):∃t x y p,s=.If t x y p/\f t x y=true:=by
 cases s with|If t x y p=>exact#[t,x,y,p,rfl,h]|_=>exact(QG h).elim
theorem yb{f:Expr->Expr->List z4->List z4->Pos->Bool}(h:Ge s f=kd):∃t it x y p,s=.For t it x y p/\f t it x y p=true:=by
 cases s with|For t it x y p=>exact#[t,it,x,y,p,rfl,h]|_=>exact(QG h).elim
theorem cj(h:Fp s f=kd):∃t x y p,s=.While t x y p/\f t x y=true:=by
 cases s with|While t x y p=>exact#[t,x,y,p,rfl,h]|_=>exact(QG h).elim
def setB(S:SC)(i:Nat)(c:Expr->Bool)(l:List z4):Bool:=YN l λst=>VX st λh v=>YN h λt=>TF t λx _=>rP S i x&&((YH v||S.sc.names.lookup x==kv .cell)&&c v)
def rf:PX->Bool
 | .comp _ _ _ _ _ _ _=>kd|_=>kb
def dX(S:SC)(i:Nat)(e:PX)(l:List z4):Bool:=YN l λst=>VX st λy v=>YN y λt=>TF t λx z=>lj v λw u sc h=>Aj S i x&&(S.sc.kind==.function&&(z.line==h.line&&(!(sc.names.any λ(n,k)=>n==x&&(k==.local||k==.cell))&&(rf e&&zC e S (.ListComp w u sc h)))))
def SM:PT->SC->List z4->Bool
 | .nil,_,l=>l.isEmpty|.seq s r,S,l=>vb l λst l=>FO s&&(SM s S [st]&&SM r S l)|.set i e,S,l=>setB S i (zC e S) l||dX S i e l
 | .own i e,S,l=>setB S i (zC e S) l||dX S i e l
 | .frz _ s,S,l=>SM s S l|.hs s,S,l=>SM s S l|.gol s _,S,l=>SM s S l|.expr e,S,l=>YN l λst=>mj st λv=>YH v&&zC e S v|.ret e,S,l=>YN l λst=>De st λv=>Gp v kb (zC e S)|.ife c a b,S,l=>YN l λst=>Fe st λt x y=>zC c S t&&(SM a S x&&SM b S y)|.for_ tg ik its body,S,l=>YN l λst=>Ge st λt it x y h=>y.isEmpty&&(su kd S tg t&&(iS it&&(vt (bF its) S ik (λg p=>zC its S (.List g p)) t it h&&SM body S x)))|.six o i e,S,l=>YN l λst=>VX st λu v=>YN u λt=>YX t λw z _=>gQ z&&(YH v&&(zC e S v&&(zC o S w&&zC i S z)))|.sdf i k,S,l=>YN l λst=>mj st λv=>YH v&&zC (No i k) S v|.whl c body,S,l=>YN l λst=>Fp st λt x y=>y.isEmpty&&(zC c S t&&SM body S x)
structure OkS(X:Cx)(S:SC)(G:Glob)(E:XK):Prop extends OkX X S G E where
 po:pd (k5 X.prog X.w) X.A X.env X.xe
 nd:X.N.Nodup
 cel:∀x,X.fn x=kd
end
section
variable{X:Cx}{S:SC}{G:Glob}{E:XK}
section
variable{i:Nat}{x:Str}{e:PX}
theorem dQ{e:Expr}{t:Option Expr}{n:Nat}{env:Env}(h:YH e=kd):Cz e t n env=rk false:=by cases e<;>first|rfl|cases h
theorem K3(n:X.A.units+66<Z1):Gd X (ER X.K):=by
 intro y s w H o i v l m u Q I f g a h;cases o with
 |ref p =>
  cases i with|int k=>let#[r,j,Z,Y,q]:=h;exact V3 y s w H _ _ v l m u Q I f g a #[p,r,k,j,rfl,rfl,Z,Y,q]|str z=>exact TR n y s w H _ _ v l m u Q I f g a h|ref b=>exact TR n y s w H _ _ v l m u Q I f g a h|_=>exact Qc h
 |_=>exact Qc h
theorem DY(ok:OkX X S G E)(h:rP S i x=kd):X.N[i]?=kv x/\bn X.env.scope x:=by simp only[rP,Qb,wc,beq_iff_eq]at h;rw[ok.N,ok.sc];exact#[h.1,h.2]
theorem SY(ok:OkS X S G E){v:Expr}{u pos:Pos}(g:rP S i x=kd)(w:(YH v||S.sc.names.lookup x==kv .cell)=kd)(pe:PE X v (wp X.K G.ev e E).e) :
  PS X (.Assign [.Name x u] v pos) (ZG X.K G.ev E (.set i e)):=by
 let#[l,j]:=DY ok.toOkX g;refine Ci (pos':=u) ok.nd l j pe ?_ (.inl (ok.cel x));cases z:YH v with
 |true=>exact dQ z|false =>
  rw[z,QAk,beq_iff_eq,<- ok.sc]at w;have hk:X.env.kindOf x=kv .cell:=w;have key:∀(b c:Bool) (y h:Nat),(rk (b&&X.env.kindOf x==kv .local&&y==h&&!c):Sem Bool)=rk false:=λb c y h=>by
   rw[hk];have:(b&&(kv NameKind.cell==kv NameKind.local)&&y==h&&!c)=false:=by cases b<;>rfl
   rw[this]
  cases v with|ListComp m a sc f=>exact key _ _ _ _|SetComp m a sc f=>exact key _ _ _ _|DictComp k v a sc f=>exact key _ _ _ _|_=>cases z
theorem rc(h:rf e=kd):∃a b c d f g k,e=.comp a b c d f g k:=by
 cases e with|comp a b c d f g k=>exact#[a,b,c,d,f,g,k,rfl]|_=>exact(QG h).elim
theorem Fi(ok:OkS X S G E){l:List z4}(h:dX S i e l=kd)(nd:yB G e):∃st,l=[st]/\PS X st (ZG X.K G.ev E (.set i e)):=by
 let#[st,e1,q1]:=HB h;let#[ts,v,p,e2,q2]:=xQ q1;let#[t,e3,q3]:=HB q2;let#[x,px,e4,q4]:=YD q3;let#[el,gs,sc,cp,e5,q5]:=fV q4;subst e1 e2 e3 e4 e5;have L:=zA q5;have J:=zA L.2;have I:=zA J.2;have F:=zA I.2;have B:=zA F.2;let#[u,a,tg,ik,o,y,j,rfl]:=rc B.1;refine#[_,rfl,?_];have h6:=B.2;let#[el',O,m,pos,ee,g]:=fV h6;cases ee;let#[#[t,it,Y,Z],rfl,g]:=HB g;have g0:=zA g;have M:=zA g0.2;have g1:=zA M.2;have g2:=zA g1.2;have g3:=zA g2.2;have R:=zA g3.2;have P:=zA R.2;have ea:Z=0:=qS g0.1;cases ea;have C:CompSt X.N X.env.scope sc a u:=by rw[ok.N,ok.sc];exact UT g1.1
 let#[n1,n2,n3,n4]:=nd;let#[l1,l2]:=zc L.1;have b:X.env.scope.names.lookup x=kv .local:=by rw[ok.sc];exact l2
 refine ca (g:=gG X.K tg) (tc:=if isNop y=kd then λ_ H Q=>Q kd H else(wp X.K G.ev y (λ_ _ _=>False)).t) (te:=(wp X.K G.ev j (λ_ _ _=>False)).e) ok.calm ok.nd (by rw[ok.N];exact l1) b (jV ok.toOkX (pos:=cp) R.1 n1 ((Q6 _).mp M.1) λes p q=>snd o ok.toOkX q n2) C (λs H ex=>?_) (λx=>YV g3.1 x) ?_;have w:=ok.toOkX.comp sc a u s H ex;refine#[B4 w (λz=>(QG z).elim) C.nd g2.1,?_,(snd j w P.2 n4).pe];have f:=P.1;cases Y with|nil=>have e:isNop y=true:=f;simp only[e,if_true];exact aX|cons c r=>have A:=zA f;have W:=zA A.2;cases Qv.mp A.1;have e:isNop y=false:=(Q6 _).mp W.1;simp only[e,Qu,if_false];exact tX (snd y w W.2 n3).pt
 have k1:X.env.scope.kind=.function:=by rw[ok.sc];exact qS J.1
 have k2:(X.env.blockKind==.function)=true:=by simp[Env.blockKind,k1,ScopeKind.isAnnotationScope]
 have k3:(X.env.kindOf x==kv .local)=true:=by show(X.env.scope.names.lookup x==kv .local)=kd;rw[b];rfl
 show(rk (X.env.blockKind==.function&&X.env.kindOf x==kv .local&&px.line==cp.line&&!(sc.names.any λ(n,k)=>n==x&&(k==.local||k==.cell))):Sem Bool)=rk kd;rw[k2,k3,I.1,F.1];rfl
theorem Du:∀(p:PT) {l:List z4},OkS X S G E->SM p S l=kd->VD G p->SW X l (ZG X.K G.ev E p)/\(FO p=kd->∀st,l=[st]->PS X st (ZG X.K G.ev E p)):=by
 intro p;have one:∀{p:PT}{st:z4},PS X st (ZG X.K G.ev E p)->SW X [st] (ZG X.K G.ev E p)/\(FO p=kd->∀j,[st]=[j]->PS X j (ZG X.K G.ev E p)):=λh=>#[pX h,λ_ j e=>by cases e;exact h]
 have g:∀{i:Nat}{e:PX}{l:List z4},OkS X S G E->(setB S i (zC e S) l||dX S i e l)=kd->yB G e->∃st,l=[st]/\PS X st (ZG X.K G.ev E (.set i e)):=λ{i e l} ok h nd=>by
  rcases(wc _ _).mp h with h|h
  rotate_left
  exact Fi ok h nd;let#[st,O,A]:=HB h;let#[ts,v,p,N,W]:=xQ A;let#[t,M,q3]:=HB W;let#[x,px,L,Z]:=YD q3;subst O N M L;have z:=zA Z;have u:=zA z.2;exact#[_,rfl,SY ok z.1 u.1 (snd e ok.toOkX u.2 nd).pe]
 induction p with
 |nil=>intro l ok h nd;cases Qv.mp h;exact#[ba,λh=>(QG h).elim]|seq s r C F=>intro l ok h nd;let#[st,l,rfl,h]:=rK h;have z:=zA h;have u:=zA z.2;exact#[i4 ((C ok u.1 nd.1).2 z.1 st rfl) (F ok u.2 nd.2).1,λh=>(QG h).elim]|set i e=>intro l ok h nd;let#[st,rfl,q]:=g ok h nd;exact one q|own i e=>intro l ok h nd;let#[st,rfl,q]:=g ok h nd;exact one q|expr e=>intro l ok h nd;let#[st,rfl,h]:=HB h;let#[v,p,rfl,h]:=t5 h;have z:=zA h;exact one (sX (snd e ok.toOkX z.2 nd).pe (dQ z.1))|ret e =>
  intro l ok h nd;let#[st,rfl,h]:=HB h;let#[v,p,rfl,h]:=Ia h;cases v with|none=>exact(QG h).elim|some v=>exact one (Y4 (snd e ok.toOkX h nd).pe)
 |ife c a b J I=>intro l ok h nd;let#[st,rfl,h]:=HB h;let#[t,x,y,p,rfl,h]:=jb h;have z:=zA h;have u:=zA z.2;exact one (Jp (snd c ok.toOkX z.1 nd.1).pt (J ok u.1 nd.2.1).1 (I ok u.2 nd.2.2).1)|for_ tg ik B Y f=>intro l ok h nd;let#[st,rfl,h]:=HB h;let#[t,it,x,y,p,rfl,h]:=yb h;have H:=zA h;have z:=zA H.2;have u:=zA z.2;have n:=zA u.2;cases Qv.mp H.1;exact one (Di ok.po ok.calm (Va ok.toOkX n.1 nd.1 λes p q=>snd B ok.toOkX q nd.2.1) (B4 ok.toOkX (λ_=>ok.cel) ok.nd z.1) (f ok n.2 nd.2.2).1 λx=>YV u.1 x)|six o i e =>
  intro l ok h nd;let#[st,O,A]:=HB h;let#[ts,v,p,N,W]:=xQ A;let#[t,M,h]:=HB W;subst O N M;let#[ov,Q,P,L,Z]:=kQ h;subst L;have z:=zA Z;have u:=zA z.2;have n:=zA u.2;have R:=zA n.2;refine one (Gi (snd e ok.toOkX n.1 nd.2.2).pe (Oi (pos:=P) (snd o ok.toOkX R.1 nd.1).pe (snd i ok.toOkX R.2 nd.2.1).pe (K3 ok.un) ?_) ?_ ?_ ?_);intro w;cases Q<;>first|rfl|exact(QG z.1).elim
  show Cz v (kv (.Subscript ov Q P)) p.line X.env=rk kb;exact dQ u.1;cases v<;>rfl;rfl
 |sdf i k=>intro l ok h nd;let#[st,rfl,h]:=HB h;let#[v,p,rfl,h]:=t5 h;have z:=zA h;exact one (sX (snd (No i k) ok.toOkX z.2 nd).pe (dQ z.1))|whl c Y f=>intro l ok h nd;let#[st,rfl,h]:=HB h;let#[t,x,y,p,rfl,h]:=cj h;have z:=zA h;have u:=zA z.2;cases Qv.mp z.1;exact one (J4 ok.po (snd c ok.toOkX u.1 nd.1).pt (f ok u.2 nd.2).1)|frz is s f=>intro l ok h nd;exact f ok h nd|hs s f=>intro l ok h nd;exact f ok h nd|gol s m f _=>intro l ok h nd;exact f ok h nd
end
end
noncomputable abbrev D:=xk
set_option genInjectivity true in
inductive T where
 |d (x:D)|lst (ts:List T)|tup (ts:List T)|dct (b:Bool) (ks:List D) (ts:List T)
abbrev LT:=List T
mutual
def T.er:T->D
 | .d x=>x|.lst h=>.list (ersT h)|.tup h=>.tuple (ersT h)|.dct _ y h=>.dict (y.zip (ersT h))
def ersT:LT->List D
 |[]=>[]|t::r=>t.er::ersT r
end
theorem DA(ds:List D):ersT (ds.map T.d)=ds:=by
 induction ds with|nil=>rfl|cons d r h=>simp only[QU,ersT,h,T.er]
theorem V7:∀(ts:LT),(ersT ts).9=ts.9
 |[]=>rfl|t::r=>by simp only[ersT,QL,V7 r]
theorem PQ:∀(ts:LT),ersT ts=ts.map T.er
 |[]=>rfl|t::r=>by simp only[ersT,QU,PQ r]
def T.isD:T->Bool
 | .d _=>kd|_=>kb
set_option genInjectivity true in
inductive Sl where
 |own (t:T)|bor (t:T)
noncomputable abbrev kA:=List (Option Sl)
abbrev bD(x:D):Option Sl:=kv (.bor (.d x))
abbrev oW(t:T):Option Sl:=kv (.own t)
def DH(t:T)(n:Bool):Bool:=n||t.isD
def lA(t:T):Bool->T
 |true=>.d t.er|false=>t
theorem aA(x:D)(n:Bool):lA (.d x) n=.d x:=by cases n<;>rfl
theorem kY(t:T)(n:Bool):(lA t n).er=t.er:=by cases n<;>rfl
noncomputable def VG:LT->Option (List D)
 |[]=>kv []|.d x::r=>(VG r).map (x::·)|_::_=>kf
theorem YA(ds:List D):VG (ds.map T.d)=kv ds:=by
 induction ds with|nil=>rfl|cons d r h=>simp only[QU,VG,h,Qx]
theorem UL:∀{ts:LT}{ds:List D},VG ts=kv ds->ts=ds.map T.d
 |[],ds,h=>by simp only[VG,Qq]at h;subst h;rfl|.d x::r,ds,h=>by
  simp only[VG]at h;cases e:VG r with|none=>rw[e]at h;cases h|some y=>rw[e]at h;cases h;rw[QU,UL e]
 | .lst _::_,_,h=>by simp[VG]at h|.tup _::_,_,h=>by simp[VG]at h|.dct _ _ _::_,_,h=>by simp[VG]at h
noncomputable def DD:List (D×D)->Option Bool
 | (.tuple _,_)::_=>kv kd|(.str _,_)::_=>kv kb|_=>kf
def ED:Bool->D->Prop
 |true,k=>∃q,k=tD (.t q)/\T5 (.t q)<=6|false,k=>∃z,k=.str z
open Classical in
noncomputable def fA:List D->D->Option Nat
 |[],_=>kf|x::r,k=>if x=k then kv 0 else(fA r k).map (·+1)
def KJ(b:Bool)(ks:List D)(ts:LT)(k:D)(t:T):T:=match fA ks k with
 |some n=>.dct b ks (ts.set n t)|none=>.dct b (ks++[k]) (ts++[t])
theorem AC:∀{ks:List D}{k:D}{n:Nat},fA ks k=kv n->ks[n]?=kv k
 |[],_,_,h=>by cases h|x::r,k,n,h=>by
  unfold fA at h;by_cases e:x=k;rw[t6 e]at h;cases h;rw[e];rfl;rw[t3 e]at h;cases q:fA r k with|none=>rw[q]at h;cases h|some m=>rw[q]at h;cases h;simpa using AC q
theorem kB:∀{ks:List D}{k:D},fA ks k=kf↔k∉ks
 |[],_=>by simp[fA]|x::r,k=>by unfold fA;by_cases e:x=k;simp[e];rw[t3 e,Option.map_eq_none_iff,kB];simp[Qm e]
theorem mW{ks:List D}{k:D}:(fA ks k).isSome=kd↔k∈ks:=by
 cases h:fA ks k with|none=>simp[kB.mp h]|some n=>simp[qQ (AC h)]
set_option genInjectivity true in
inductive Vw where
 |sc (x:D)|ls (ts:LT)|tp (ts:LT)|dc (b:Bool) (ks:List D) (ts:LT)
def xC(kvs:List (D×D)):Vw:=match DD kvs with
 |some b=>.dc b (kvs.map (·.1)) (kvs.map λp=>T.d p.2)|none=>.sc (.dict kvs)
def T.vw:T->Vw
 | .lst h=>.ls h|.tup h=>.tp h|.dct b u h=>.dc b u h|.d x=>match x with
  | .list z=>.ls (z.map T.d)|.tuple z=>.tp (z.map T.d)|.dict y=>xC y|.none=>.sc .none|.bool b=>.sc (.bool b)|.int i=>.sc (.int i)|.str s=>.sc (.str s)
def UE(ts:LT):T:=match VG ts with
 |some h=>.d (.tuple h)|none=>.tup ts
noncomputable abbrev XD:=kn×List (Str×D)
noncomputable abbrev XE:=XD->Prop
noncomputable abbrev TK:=T->Bool->kA->Prop
inductive Md where
 |fro|shal|bor|chg
 deriving DecidableEq
structure PSp where
 md:List Md:=[]
 run:LT->(T->LT->Prop)->XE->Prop
 mono:∀{ts:LT}{Q Q':T->LT->Prop}{E E':XE},(∀t os,Q t os->Q' t os)->(∀x,E x->E' x)->run ts Q E->run ts Q' E':=by intro _ _ _ _ _ h _ z;(repeat let#[y,z]:=z;refine#[y,?_]);first|exact h _ _ z|(intros;apply h;apply z<;>assumption)
structure PEv where
 sp:Str->PSp
 va:Str->Option D
def binT(op:gV)(x y:Vw)(Q:T->Bool->Prop):Prop:=match op with
 | .Add=>(∃i j,x=.sc (.int i)/\y=.sc (.int j)/\Q (.d (.int (i+j))) kb)∨(∃a b,x=.sc (.str a)/\y=.sc (.str b)/\a.9+b.9<=kt/\Q (.d (.str (a++b))) kb) ∨
  (∃v u z h,x=.ls v/\y=.ls u/\VG v=kv z/\VG u=kv h/\z.9+h.9<=kt/\Q (.lst ((z++h).map T.d)) kd)
 | .Sub=>∃i j,x=.sc (.int i)/\y=.sc (.int j)/\Q (.d (.int (i - j))) kb|.Mult=>(∃i j,x=.sc (.int i)/\y=.sc (.int j)/\Dz i j/\Q (.d (.int (i * j))) kb)∨(∃a k,x=.sc (.str a)/\y=.sc (.int k)/\(-(2 ^ 31)<=k/\k<2 ^ 31/\a.9 * k.toNat<=kt)/\Q (.d (.str (ZJ a k))) kb)|.FloorDiv=>∃i j,x=.sc (.int i)/\y=.sc (.int j)/\(0<j/\j<2 ^ 200)/\Q (.d (.int (i / j))) kb|.Mod=>∃i j,x=.sc (.int i)/\y=.sc (.int j)/\0<j/\Q (.d (.int (i % j))) kb|_=>False
section
variable{Q:T->Bool->Prop}
theorem El(i j:Int):binT .Add (.sc (.int i)) (.sc (.int j)) Q=Q (.d (.int (i+j))) false:=by simp[binT]
theorem Al(a b:Str):binT .Add (.sc (.str a)) (.sc (.str b)) Q=(a.9+b.9<=kt/\Q (.d (.str (a++b))) kb):=by simp[binT]
theorem Tl(i j:Int):binT .Sub (.sc (.int i)) (.sc (.int j)) Q=Q (.d (.int (i - j))) false:=by simp[binT]
theorem Pl(i j:Int):binT .Mult (.sc (.int i)) (.sc (.int j)) Q=(Dz i j/\Q (.d (.int (i * j))) kb):=by simp[binT]
theorem Ol(a:Str)(k:Int):binT .Mult (.sc (.str a)) (.sc (.int k)) Q=((-(2 ^ 31)<=k/\k<2 ^ 31/\a.9 * k.toNat<=kt)/\Q (.d (.str (ZJ a k))) kb):=by simp[binT]
theorem Nl(i j:Int):binT .FloorDiv (.sc (.int i)) (.sc (.int j)) Q=((0<j/\j<2 ^ 200)/\Q (.d (.int (i / j))) kb):=by simp[binT]
theorem Ml(i j:Int):binT .Mod (.sc (.int i)) (.sc (.int j)) Q=(0<j/\Q (.d (.int (i % j))) kb):=by simp[binT]
end
section
variable{Q:T->Prop}
def Jt:D->D->(Bool->Prop)->Prop
 | .int i,.int j,Q=>Q (decide (i=j))|.str x,.str y,Q=>Q (decide (x=y))|.bool x,.bool y,Q=>Q (decide (x=y))|a,b,Q=>ZD a/\ZD b/\Q (Qw a b)
noncomputable def TB:D->Bool
 | .none | .bool _ | .int _ | .str _=>kd
 |_=>kb
def ut:D->D->(Bool->Prop)->Prop
 | .str x,.str y,Q=>Q (inStr y x)|a,.list ds,Q|a,.tuple ds,Q=>((TB a=kd/\ds.all TB=kd)∨(ZD a/\ZD (.list ds)))/\Q (ds.any λy=>Qw y a)
 |a,.dict kvs,Q=>∃b,DD kvs=kv b/\ED b a/\Q (fA (kvs.map (·.1)) a).isSome|_,_,_=>False
def A4(f:Int->Int->Bool):D->D->(Bool->Prop)->Prop
 | .int i,.int j,Q=>Q (f i j)|_,_,_=>False
def S6:D->Bool
 | .none=>kd|_=>kb
def UZ:D->D->(Bool->Prop)->Prop
 |a,.none,Q=>Q (S6 a)|.bool a,.bool b,Q=>Q (decide (a=b))|_,_,_=>False
def Av:D->D->(Bool->Prop)->Prop
 | .int i,.int j,Q=>Q (decide (j<=i))|.tuple ds,.tuple es,Q=>∃h x,ds=h.map j5/\es=x.map j5/\Q (iC h x)|_,_,_=>False
def SI:h7->D->D->(Bool->Prop)->Prop
 | .Eq,a,b,Q=>Jt a b Q|.NotEq,a,b,Q=>Jt a b λk=>Q (!k)|.Lt,a,b,Q=>A4 (λi j=>decide (i<j)) a b Q|.LtE,a,b,Q=>A4 (λi j=>decide (i<=j)) a b Q|.Gt,a,b,Q=>A4 (λi j=>decide (j<i)) a b Q|.GtE,a,b,Q=>Av a b Q|.In,a,b,Q=>ut a b Q|.NotIn,a,b,Q=>ut a b λk=>Q (!k)|.Is,a,b,Q=>UZ a b Q|.IsNot,a,b,Q=>UZ a b λk=>Q (!k)
def Ac(op:h7)(x:D)(y:T)(Q:Bool->Prop):Prop:=match y with
 | .dct b z _=>ED b x/\((op=.In/\Q (fA z x).isSome)∨(op=.NotIn/\Q (!(fA z x).isSome)))|.d y=>SI op x y Q|.lst h=>SI op x (.list (ersT h)) Q|.tup h=>SI op x (.tuple (ersT h)) Q
def zI:D->(Bool->Prop)->Prop
 | .bool b,Q=>Q b|.int i,Q=>Q (i != 0)|.none,Q=>Q kb|.str z,Q=>z.9<=kt/\Q ((z.9:Int) != 0)|.list ds,Q=>Q (!ds.isEmpty)|.tuple ds,Q=>Q (!ds.isEmpty)|_,_=>False
def ym:D->(Bool->Prop)->Prop
 | .bool b,Q=>Q b|_,_=>False
def YT(x:Vw)(k:D)(Q:T->Prop):Prop:=∃b y h n t,x=.dc b y h/\ED b k/\fA y k=kv n/\h[n]?=kv t/\Q t
def HN(x y:Vw)(Q:T->Prop):Prop:=(∃z i c,x=.sc (.str z)/\y=.sc (.int i)/\z.9<=kt/\fE z.cps.toList i=kv c/\Q (.d (.str #[(qG [c])]))) ∨
 (∃h i t,x=.ls h/\y=.sc (.int i)/\fE h i=kv t/\Q t)∨(∃h i t,x=.tp h/\y=.sc (.int i)/\fE h i=kv t/\Q t)
theorem Fk(z:Str)(i:Int):HN (.sc (.str z)) (.sc (.int i)) Q=(z.9<=kt/\∃c,fE z.cps.toList i=kv c/\Q (.d (.str #[(qG [c])]))):=by simp[HN]
theorem j7(ts:LT)(i:Int):HN (.ls ts) (.sc (.int i)) Q=∃t,fE ts i=kv t/\Q t:=by simp[HN]
theorem zW(ts:LT)(i:Int):HN (.tp ts) (.sc (.int i)) Q=∃t,fE ts i=kv t/\Q t:=by simp[HN]
noncomputable def mD{α:Type}(xs:List α)(h x:Option Int):List α:=(xs.drop (HT.sIx xs.9 0 h)).take (HT.sIx xs.9 xs.9 x - HT.sIx xs.9 0 h)
def EG(x:Vw)(u v:Option Int)(Q:T->Bool->Prop):Prop:=(∃z,x=.sc (.str z)/\z.9<=kt/\Q (.d (.str (wq z u v))) kb)∨(∃y h,x=.ls y/\VG y=kv h/\Q (.lst ((mD h u v).map T.d)) kd) ∨
 (∃y h,x=.tp y/\VG y=kv h/\¬ (HT.sIx h.9 0 u=0/\HT.sIx h.9 h.9 v=h.9)/\Q (.d (.tuple (mD h u v))) kb)
end
section
variable{Q:T->Bool->Prop}{h x:Option Int}
theorem ki(z:Str):EG (.sc (.str z)) h x Q=(z.9<=kt/\Q (.d (.str (wq z h x))) kb):=by simp[EG]
theorem Y3(ts:LT):EG (.ls ts) h x Q=∃ds,VG ts=kv ds/\Q (.lst ((mD ds h x).map T.d)) true:=by simp[EG]
end
def RF:D->(Option Int->Prop)->Prop
 | .int i,Q=>Q (kv i)|_,_=>False
noncomputable def isD(n:String):D->Option Bool
 | .none=>kv kb|.bool _=>kv (n == "bool" || n == "int")
 | .int _=>kv (n == "int")|.str _=>kv (n == "str")|.list _=>kv (n == "list")|.tuple _=>kv (n == "tuple")|.dict _=>kf
noncomputable def DO(n:String):Bool:=n == "bool" || n == "int" || n == "str" || n == "list" || n == "tuple" || n == "ValueError"
def ID(l:LS):D:=.list (l.map j3)
noncomputable def Vw.seq:Vw->Option (LT)
 | .ls h=>kv h|.tp h=>kv h|_=>kf
def GW(f:Bi)(vs:List Vw)(Q:T->Bool->Prop):Prop:=match f with
 | .all=>∃h,∃bs:List Bool,vs=[.ls h]/\VG h=kv (bs.map PyData.bool)/\Q (.d (.bool (bs.all id))) kb|.len=>(∃z,vs=[.sc (.str z)]/\z.9<=kt/\Q (.d (.int z.9)) kb)∨(∃h,vs=[.ls h]/\Q (.d (.int h.9)) kb)∨(∃h,vs=[.tp h]/\Q (.d (.int h.9)) kb)|.any=>∃h,∃bs:List Bool,vs=[.ls h]/\VG h=kv (bs.map PyData.bool)/\Q (.d (.bool (bs.any id))) kb|.list=>∃x h w,vs=[x]/\x.seq=kv h/\VG h=kv w/\Q (.lst (w.map T.d)) kd|.sorted=>(∃h,∃k:LS,vs=[.ls h]/\VG h=kv (k.map j3)/\k.9<64/\∀y:LS,y.Perm k->Tz y=kd->Q (.lst ((y.map j3).map T.d)) kd) ∨
  (∃h,∃ls:List (LS),vs=[.ls h]/\VG h=kv (ls.map ID)/\ls.9<64/\∀v:List (LS),v.Perm ls->Q (.lst ((v.map ID).map T.d)) kd) ∨
  (∃h,∃a:LJ,vs=[.ls h]/\VG h=kv (a.map j5)/\a.9<64/\∀u:LJ,u.Perm a->u.Pairwise (·<=·)->Q (.lst ((u.map j5).map T.d)) kd)
 | .tuple=>∃h w,vs=[.ls h]/\VG h=kv w/\Q (.d (.tuple w)) kb|.int=>∃b:Bool,vs=[.sc (.bool b)]/\Q (.d (.int (if b then 1 else 0))) kb
section
variable{Q:T->Bool->Prop}
theorem vg(ts:LT):GW .len [.ls ts] Q=Q (.d (.int ts.9)) false:=by simp[GW]
theorem Dr(ts:LT):GW .any [.ls ts] Q=∃bs:List Bool,VG ts=kv (bs.map PyData.bool)/\Q (.d (.bool (bs.any id))) false:=by simp[GW]
theorem zg(ts:LT):GW .tuple [.ls ts] Q=∃ds,VG ts=kv ds/\Q (.d (.tuple ds)) false:=by simp[GW]
theorem Cr(b:Bool):GW .int [.sc (.bool b)] Q=Q (.d (.int (if b then 1 else 0))) false:=by simp[GW]
theorem kg{x:Vw}{ds:List D}(h:x.seq=kv (ds.map T.d))(q:Q (.lst (ds.map T.d)) kd):GW .list [x] Q:=#[x,_,ds,rfl,h,YA ds,q]
end
section
variable{N:T->T->Prop}
def pv(m:Mt)(x:Vw)(vs:List Vw)(Q:T->Bool->Prop):Prop:=match m with
 |_=>False
def Vw.isS:Vw->Bool
 | .sc (.str _)=>kd|_=>kb
noncomputable def isMut:Mt->Bool
 | .append=>kd|.pop=>kd|.setd=>kd|.extend=>kd
def Tb(m:Mt)(x:Vw):Bool:=x.isS&&!isMut m
def PK(m:Mt)(s:T)(us:LT)(N:T->T->Prop):Prop:=match m with
 | .append=>∃h t,s=.lst h/\us=[t]/\h.9<kt/\N (.d .none) (.lst (h++[t]))|.pop=>∃h i k t,s=.lst h/\us=[.d (.int i)]/\JU h.9 i=kv k/\h[k]?=kv t/\N t (.lst (h.eraseIdx k))|.extend=>∃h x,s=.lst h/\us=[.lst x]/\h.9+x.9<=kt/\N (.d .none) (.lst (h++x))|_=>False
theorem u6(ts:LT)(t:T):PK .append (.lst ts) [t] N=(ts.9<kt/\N (.d .none) (.lst (ts++[t]))):=by simp[PK]
theorem k6(ts vs:LT):PK .extend (.lst ts) [.lst vs] N=(ts.9+vs.9<=kt/\N (.d .none) (.lst (ts++vs))):=by simp[PK]
theorem x6(ts:LT)(i:Int):PK .pop (.lst ts) [.d (.int i)] N=∃k t,JU ts.9 i=kv k/\ts[k]?=kv t/\N t (.lst (ts.eraseIdx k)):=by simp[PK]
noncomputable def EV:Mt->Bool
 | .append=>kd|.pop=>kd|.setd=>kb|.extend=>kd
def ZI(m:Mt):T->Bool
 | .lst _=>EV m|_=>kb
def Tj(x:Vw)(Q:T->Bool->Prop):Prop:=∃j:Nat,x=.sc (.int (j:Int))/\j<=1000/\Q (.lst (((WQ 0 j).map λ(i:Nat)=>j5 (i:Int)).map T.d)) kd
def KB(u:ItK)(vs:List Vw)(R:LT->Prop):Prop:=match u with
 | .val=>(∃h,vs=[.ls h]/\R h)∨(∃h,vs=[.tp h]/\R h)∨(∃y h,vs=[.dc kd y h]/\R (y.map T.d))|.rng1=>∃j,vs=[.sc (.int j)]/\(-(2 ^ 62)<=j/\j<2 ^ 62)/\R ((Qt j.toNat).map λ(i:Nat)=>.d (.int (i:Int)))|.enum=>∃x h z,vs=[x]/\x.seq=kv h/\VG h=kv z/\R (z.zipIdx.map λp=>.d (.tuple [.int (p.2:Int),p.1]))|.itm=>(∃y h z,vs=[.dc kd y h]/\VG h=kv z/\R ((y.zip z).map λp=>.d (.tuple [p.1,p.2])))∨(vs=[.sc (.dict [])]/\R [])
end
section
variable{R:LT->Prop}
theorem zG(ts:LT):KB .val [.ls ts] R=R ts:=by simp[KB]
theorem O6(ts:LT):KB .val [.tp ts] R=R ts:=by simp[KB]
theorem N6(j:Int):KB .rng1 [.sc (.int j)] R=((-(2 ^ 62)<=j/\j<2 ^ 62)/\R ((Qt j.toNat).map λ(i:Nat)=>.d (.int (i:Int)))):=by simp[KB]
theorem zT(x:Vw):KB .enum [x] R=∃ts ds,x.seq=kv ts/\VG ts=kv ds/\R (ds.zipIdx.map λp=>.d (.tuple [.int (p.2:Int),p.1])):=by apply Az;constructor;rintro⟨_,ts,ds,⟨⟩,h⟩;exact#[ts,ds,h];rintro⟨ts,ds,h⟩;exact#[_,ts,ds,rfl,h]
theorem yT(ks:List D)(ts:LT):KB .itm [.dc kd ks ts] R=∃ds,VG ts=kv ds/\R ((ks.zip ds).map λp=>.d (.tuple [p.1,p.2])):=by apply Az;constructor;rintro(⟨_,_,ds,⟨⟩,h⟩| ⟨⟨⟩,_⟩);exact#[ds,h];rintro⟨ds,h⟩;exact .inl #[_,_,ds,rfl,h]
theorem jT(ks:List D)(ts:LT):KB .val [.dc kd ks ts] R=R (ks.map T.d):=by simp[KB]
theorem M6:KB .itm [.sc (.dict [])] R=R []:=by apply Az;constructor;rintro(⟨_,_,x,⟨⟩,h⟩| ⟨_,h⟩);exact h;exact λh=>.inr #[rfl,h]
end
noncomputable def dD:LN->LT->kA->Option kA
 |[],[],ρ=>kv ρ|i::is,t::ts,ρ=>dD is ts (ρ.set i (kv (.bor t)))|_,_,_=>kf
def AO:Tg->T->kA->(kA->Prop)->Prop
 | .nm i,t,ρ,Q=>Q (ρ.set i (kv (.bor t)))|.tp is,t,ρ,Q=>match t.vw with
  | .tp x=>∃h,dD is x ρ=kv h/\Q h|_=>False
def Tg.ix:Tg->LN
 | .nm i=>[i]|.tp h=>h
def O3:PX->Option Nat
 | .var i=>kv i|_=>kf
noncomputable def eB:Option Sl->Option Sl
 |some (.own t)=>kv (.bor t)|s=>s
def lockA(ρ:kA):kA:=ρ.map eB
def lock:LN->kA->kA
 |[],ρ=>ρ|i::is,ρ=>lock is (ρ.modify i eB)
def bW:Option Sl->Option Sl
 |some (.own t)=>bD t.er|s=>s
noncomputable def frzAt:LN->kA->kA
 |[],ρ=>ρ|i::is,ρ=>frzAt is (ρ.modify i bW)
noncomputable def iK:Option Sl->Option Sl
 |some (.bor t)=>if t.isD=kd then kv (.bor t) else kf|s=>s
def kill:LN->kA->kA
 |[],ρ=>ρ|i::is,ρ=>kill is (ρ.modify i iK)
noncomputable def clear:LN->kA->kA
 |[],ρ=>ρ|i::is,ρ=>clear is (ρ.set i kf)
noncomputable def LA:LN->kA->Option (LT)
 |[],_=>kv []|i::is,ρ=>match ρ[i]? with
  |some (kv (.own t))=>(LA is ρ).map (t::·)|_=>kf
noncomputable def vC:LN->LT->kA->Option kA
 |[],[],ρ=>kv ρ|i::is,t::ts,ρ=>vC is ts (ρ.set i (kv (.own t)))|_,_,_=>kf
noncomputable def aC:List Bool->kA->kA
 |b::m,v::ρ=>(if b then kf else v)::aC m ρ|_,ρ=>ρ
def NN(k:Nat)(h:List Bool)(ρ:kA):kA:=QAX k kf++aC h ρ
def sq{α:Type}(x:T)(ρ:kA)(b:kA->(α->kA->Prop)->Prop)(K:α->kA->Prop):Prop :=
 if x.isD=kd then b ρ K else b (lockA ρ) λy _=>K y ρ
def cu(f:kA->TK->Prop):kA->(T×Bool->kA->Prop)->Prop:=λy K=>f y λx n h=>K (x,n) h
def BF:List (T×Bool)->LT
 |[]=>[]|p::r=>p.1::BF r
def MN:List (T×Bool)->LT
 |[]=>[]|p::r=>lA p.1 p.2::MN r
noncomputable def CB:List (T×Bool)->List Vw
 |[]=>[]|p::r=>(lA p.1 p.2).vw::CB r
noncomputable def HE:List (T×Bool)->Bool
 |[]=>kd|p::r=>DH p.1 p.2&&HE r
noncomputable def bN:List (T×Bool)->Bool
 |[]=>kd|p::r=>DH p.1 p.2&&bN r
def yE(t:T):Option T:=match t.vw with
 | .ls h=>(VG h).map λx=>.lst (x.map T.d)|_=>if t.isD=kd then kv t else kf
def CA:List Md->List (T×Bool)->LT->Option (LT)
 |_,[],[]=>kv []|_,[],_::_=>kf|md,(x,n)::xs,os=>match md.headD .fro with
  | .fro=>match lA x n with
   | .d d=>(CA md.tail xs os).map (.d d::·)|_=>kf
  | .shal=>match yE (lA x n) with
   |some t=>(CA md.tail xs os).map (t::·)|none=>kf
  | .bor=>(CA md.tail xs os).map (lA x n::·)|.chg=>match os with
   |o::os=>(CA md.tail xs os).map (o::·)|[]=>kf
noncomputable def LB:List Md->LT->LT
 |_,[]=>[]|md,t::ts=>match md.headD .fro with
  | .chg=>t::LB md.tail ts|_=>LB md.tail ts
noncomputable def cA:List Md->PX->LN
 | .chg::md,.acons (.var j) as=>j::cA md as|_::md,.acons _ as=>cA md as|_,_=>[]
def Md.isMut:Md->Bool
 | .chg=>kd|_=>kb
structure D3 where
 e:kA->TK->Prop
 t:kA->(Bool->kA->Prop)->Prop
 a:List Md->kA->(List (T×Bool)->kA->Prop)->Prop
def AD:D3:=#[λ_ _=>False,λ_ _=>False,λ_ _ _=>False]
def GD(body:T->(Option T->Prop)->Prop):LT->LT->(LT->Prop)->Prop
 |[],acc,Q=>acc.9<=kt/\Q acc|x::xs,acc,Q=>body x fun
  |some y=>acc.9<kt/\GD body xs (acc++[y]) Q|none=>GD body xs acc Q
def fG(v:Tg)(u:kA)(c:kA->(Bool->kA->Prop)->Prop)(e:kA->TK->Prop)(x:T)(R:Option T->Prop):Prop :=
 AO v x u λz=>c z λb h=>if b=kd then e h λy n _=>DH y n=kd/\R (kv y) else R kf
def Ck:PX->D->(Bool->Prop)->Prop
 | .bty _ n,d,Q=>∃b,isD n d=kv b/\DO n=kd/\Q b|_,_,_=>False
def Es:Option (Option Sl)->(T->Prop)->Prop
 |some (kv (.own t)),Q=>Q t|some (kv (.bor t)),Q=>Q t|some kf,_=>False|none,_=>False
def JC:Option (Option Sl)->(T->Prop)->Prop
 |some (kv (.own t)),Q=>Q t|some (kv (.bor _)),_=>False|some kf,_=>False|none,_=>False
def se:Option Nat->(Nat->Prop)->Prop
 |none,_=>False|some j,Q=>Q j
def R6:PX->Bool
 | .var _=>kd|_=>kb
def pe(Ψ:PEv):PX->XE->D3
 | .var i,_=>let e:kA->TK->Prop:=λv Q=>Es v[i]? λt=>Q t kb v
  #[e,λv Q=>e v λt _ h=>zI t.er λb=>Q b h,AD.a]
 | .mv i,_=>#[λv Q=>JC v[i]? λt=>Q t kd (v.set i kf),AD.t,AD.a]|.int i,_=>#[λv Q=>Q (.d (.int i)) kb v,λv Q=>Q (i != 0) v,AD.a]|.str x,_=>#[λv Q=>Q (.d (.str x)) kb v,AD.t,AD.a]|.bl b,_=>#[λv Q=>Q (.d (.bool b)) kb v,λv Q=>Q b v,AD.a]|.non,_=>#[λv Q=>Q (.d .none) kb v,λv Q=>Q kb v,AD.a]|.glo x,_=>let e:kA->TK->Prop:=λv Q=>match Ψ.va x with
   |some d=>Q (.d d) kb v|none=>False
  #[e,λv Q=>e v λt _ h=>zI t.er λb=>Q b h,AD.a]
 | .bty _ _,_=>AD|.bin op a b,E=>let e:kA->TK->Prop:=λv Q=>(pe Ψ a E).e v λx n h=>sq (lA x n) h (cu (pe Ψ b E).e) λy w=>binT op (lA x n).vw (lA y.1 y.2).vw λz k=>Q z k w
  #[e,λv Q=>e v λt _ h=>zI t.er λb=>Q b h,AD.a]
 | .cmp op a b,E=>let t:kA->(Bool->kA->Prop)->Prop:=λv Q=>(pe Ψ a E).e v λx n h=>sq (lA x n) h (cu (pe Ψ b E).e) λy w=>Ac op x.er (lA y.1 y.2) λk=>Q k w
  #[λv Q=>t v λk h=>Q (.d (.bool k)) kb h,t,AD.a]
 | .and a b,E=>#[λv Q=>(pe Ψ a E).e v λx _ h=>ym x.er λc=>if c=kd then(pe Ψ b E).e h Q else Q (.d (.bool kb)) kb h,
   λv Q=>(pe Ψ a E).t v λc h=>if c=kd then(pe Ψ b E).t h Q else Q kb h,AD.a]
 | .or a b,E=>#[λv Q=>(pe Ψ a E).e v λx _ h=>ym x.er λc=>if c=kd then Q (.d (.bool kd)) kb h else(pe Ψ b E).e h Q,
   λv Q=>(pe Ψ a E).t v λc h=>if c=kd then Q kd h else(pe Ψ b E).t h Q,AD.a]
 | .not a,E=>#[λv Q=>(pe Ψ a E).e v λx _ h=>zI x.er λc=>Q (.d (.bool (!c))) kb h,λv Q=>(pe Ψ a E).t v λc h=>Q (!c) h,AD.a]|.call f as,E=>let e:kA->TK->Prop:=λv Q=>∃Z,LA (cA (Ψ.sp f).md as) v=kv Z/\(cA (Ψ.sp f).md as).Nodup/\(pe Ψ as E).a (Ψ.sp f).md (clear (cA (Ψ.sp f).md as) v) λg h=>∃Y,CA (Ψ.sp f).md g Z=kv Y/\(Ψ.sp f).run Y (λr s=>∃w,vC (cA (Ψ.sp f).md as) s h=kv w/\Q r kd w) E
  #[e,λv Q=>e v λt _ h=>zI t.er λb=>Q b h,AD.a]
 | .isi a c,E=>let t:kA->(Bool->kA->Prop)->Prop:=λv Q=>(pe Ψ a E).e v λx _ h=>Ck c x.er λb=>Q b h
  #[λv Q=>t v λk h=>Q (.d (.bool k)) kb h,t,AD.a]
 | .bi f as,E=>let e:kA->TK->Prop:=λv Q=>(pe Ψ as E).a [] v λg h=>GW f (CB g) λz k=>Q z k h
  #[e,λv Q=>e v λt _ h=>zI t.er λb=>Q b h,AD.a]
 | .mt m o as,E=>let e:kA->TK->Prop:=λv Q=>if isMut m=kd then se (O3 o) λj=>JC v[j]? λt=>ZI m t=kd/\(pe Ψ as E).a [] (v.set j (kv (.bor t))) λg w=>HE g=kd/\w[j]?=kv (kv (.bor t))/\PK m t (BF g) λr K=>Q r kd (w.set j (kv (.own K))) else(pe Ψ o E).e v λx n h=>Tb m (lA x n).vw=kd/\sq (lA x n) h ((pe Ψ as E).a []) λg w=>pv m (lA x n).vw (CB g) λz k=>Q z k w
  #[e,λv Q=>e v λt _ h=>zI t.er λb=>Q b h,AD.a]
 | .idx a b,E=>let e:kA->TK->Prop:=λv Q=>(pe Ψ a E).e v λx n h=>sq (lA x n) h (cu (pe Ψ b E).e) λy w=>(HN (lA x n).vw (lA y.1 y.2).vw λz=>Q z kb w)∨(YT (lA x n).vw y.1.er λz=>Q z kb w)
  #[e,λv Q=>e v λt _ h=>zI t.er λb=>Q b h,AD.a]
 | .slc a lo hi,E=>#[λv Q=>(pe Ψ a E).e v λx n h =>
   sq (α:=Option Int) (lA x n) h (if isNop lo=kd then λv (R:Option Int->kA->Prop)=>R kf v else λv R=>(pe Ψ lo E).e v λl _ w=>RF l.er λo=>R o w) λl w =>
   sq (α:=Option Int) (lA x n) w (if isNop hi=kd then λv (R:Option Int->kA->Prop)=>R kf v else λv R=>(pe Ψ hi E).e v λu _ p=>RF u.er λo=>R o p) λu p=>EG (lA x n).vw l u λz k=>Q z k p,AD.t,AD.a]
 | .nop,_=>AD|.lst as,E=>#[λv Q=>(pe Ψ as E).a [] v λg h=>HE g=kd/\g.9<=kt/\Q (.lst (BF g)) kd h,AD.t,AD.a]|.tup as,E=>#[λv Q=>(pe Ψ as E).a [] v λg h=>HE g=kd/\g.9<=kt/\Q (UE (BF g)) kd h,AD.t,AD.a]|.comp mask tgs tg ik its cond elt,E=>#[λv Q=>(pe Ψ its E).a [] v λg h=>KB ik (CB g) λq =>
   GD (fG tg (NN tgs.9 mask (lockA h)) (if isNop cond=kd then λv R=>R kd v else(pe Ψ cond (λ_=>False)).t) (pe Ψ elt (λ_=>False)).e) q [] λW=>Q (.lst W) kd h,AD.t,AD.a]
 | .dnew b,_=>#[λv Q=>Q (.dct b [] []) kd v,AD.t,AD.a]|.dsp a b,E=>#[λv Q=>(pe Ψ a E).e v λy m h=>DH y m=kd/\(pe Ψ b E).e h λx n w=>DH x n=kd/\ED kd y.er/\Q (.dct kd [y.er] [x]) kd w,AD.t,AD.a]|.ng i,_=>#[λv Q=>Q (.d (.int (-i))) kb v,AD.t,AD.a]|.lrg a,E=>#[λv Q=>(pe Ψ a E).e v λx n h=>Tj (lA x n).vw λz k=>Q z k h,AD.t,AD.a]|.anil,_=>#[AD.e,AD.t,λ_ v Q=>Q [] v]|.acons a as,E=>#[AD.e,AD.t,λX v Q=>if(X.headD .fro).isMut=kd then R6 a=kd/\(pe Ψ as E).a X.tail v λg h=>Q ((.d .none,kd)::g) h
   else(pe Ψ a E).e v λx n h=>sq (α:=List (T×Bool)) (if n=kd then .d .none else x) h ((pe Ψ as E).a X.tail) λg w=>Q ((x,n)::g) w]
structure PEnds where
 nx:kA->Prop
 rt:T->kA->Prop
 bk:kA->Prop:=λ_=>False
 ct:kA->Prop:=λ_=>False
noncomputable def SG:PX->LN
 | .var i=>[i]|.idx a _=>SG a|.and a b | .or a b=>SG a++SG b
 | .acons a h=>SG a++SG h|_=>[]
noncomputable def lM:Option (Option Sl)->Bool
 |some (kv (.own _))=>kd|some (kv (.bor _))=>kb|some kf=>kb|none=>kb
def oC(ρ:kA):LN->LN
 |[]=>[]|i::is=>if lM ρ[i]?=kd then i::oC ρ is else oC ρ is
noncomputable def XC:LN->kA->kA->kA
 |[],_,ρ=>ρ|i::L,ρ0,ρ=>XC L ρ0 (ρ.set i (ρ0[i]?.getD kf))
def UU(J L:LN)(h:kA)(N:kA->Prop)(ρ:kA):Prop:=(∀i∈L,i∉J/\ρ[i]?=h[i]?.map eB)/\N (XC L h ρ)
def BH(body:PEnds->kA->Prop)(z:Tg)(Z:PEnds):LT->kA->Prop
 |[],ρ=>Z.nx ρ|x::xs,ρ=>AO z x ρ λy=>body { Z with nx:=λh=>BH body z Z xs h,ct:=λh=>BH body z Z xs h,bk:=Z.nx } y
def Ru(ρ:kA)(i:Nat)(R:T->kA->Prop):Option (Option Sl)->Prop
 |some (kv (.own t))=>R t (ρ.set i kf)|some (kv (.bor t))=>t.isD=kd/\R t ρ|some kf=>False|none=>False
def LK(Ψ:PEv)(E:XE)(y:T->kA->Prop):PX->kA->Prop
 | .var i,ρ=>Ru ρ i y ρ[i]?|e,ρ=>(pe Ψ e E).e ρ λx n h=>DH x n=kd/\y x h
def stT:T->D->D->(T->Prop)->Prop
 | .lst ts,.int i,x,Q=>∃n,JU ts.9 i=kv n/\Q (.lst (ts.set n (.d x)))|.dct b ks ts,k,x,Q=>ED b k/\ks.9<kt/\Q (KJ b ks ts k (.d x))|_,_,_,_=>False
noncomputable def Fu:PX->Option (Nat×Option PX)
 | .var j=>kv (j,kf)|.idx (.var j) k=>kv (j,kv k)|_=>kf
def ui(k:D)(t:T)(Q:T->Prop):Prop:=∃h x,t=.dct kd h x/\ED kd k/\h.9<kt/\((∃n,fA h k=kv n/\Q t)∨(fA h k=kf/\Q (.dct kd (h++[k]) (x++[.dct kd [] []]))))
def Pc:T->Bool
 | .dct kd _ _=>kd|_=>kb
def Uo(z:D)(t:T)(Q:T->(T->T)->Prop):Prop:=∃b x h n s,t=.dct b x h/\ED b z/\fA x z=kv n/\h[n]?=kv s/\Q s λy=>.dct b x (h.set n y)
def Lx(Ψ:PEv)(s:PT)(N:kA->Prop)(ρ:kA):Prop:=(∃i t c a,s=.ife c a .nil/\ρ[i]?=kv (kv (.own t))/\(pe Ψ c λ_=>False).t (lockA (ρ.set i (bD t.er))) λb _=>b=kb/\N ρ)∨∃h,s=Hk/\ρ[6]?=kv (kv (.own (.lst h)))/\8<ρ.9/\h.9<=1000/\((h=[]/\N (ρ.set 8 kf))∨∃(x y:D) (l m:List D) (r:LT),h=.tup [.d x,.d y,.lst (l.map T.d),.lst (m.map T.d)]::r/\l.9<=1000/\m.9<=1000/\∀d,N ((ρ.set 6 (kv (.own (.lst ((d::ersT r).map T.d))))).set 8 kf))
def z9(Ψ:PEv)(e:PX)(z:PEnds->kA->Prop)(w:kA->Prop):LT->kA->T->Prop
 |[],ρ,_=>w ρ|x::r,ρ,hd=>x.isD=kd/\(pe Ψ e λ_=>False).e (((lockA (ρ.set 8 (kv (.bor x)))).set 7 kf).set 5 (bD hd.er)) λt _ _=>∃c,t=.d (.bool c) /\
   z { nx:=λy=>∃n b v h u,y[8]?=kv (bD n)/\y[9]?=kv (bD b)/\y[10]?=kv (kv (.own v))/\y[5]?=kv (kv (.own h))/\y[7]?=kv (kv (.own (.lst u)))/\u.9<=1000/\z9 Ψ e z w r (((y.set 10 kf).set 5 kf).set 7 (kv (.own (.lst (u++[.tup [.d n,.d b,v,h]]))))) h,rt:=λ_ _=>False } ((ρ.set 8 (kv (.bor x))).set 9 (bD (.bool c)))
def xB(Ψ:PEv)(E:XE):PT->PEnds->kA->Prop
 | .nil,Z,u=>Z.nx u|.seq s r,Z,u=>xB Ψ E s { Z with nx:=λf=>xB Ψ E r Z f } u|.set i e,Z,u=>(pe Ψ e E).e u λx n h=>DH x n=kd/\Z.nx (h.set i (bD x.er))|.expr e,Z,u=>(pe Ψ e E).e u λ_ _ h=>Z.nx h|.ret e,Z,u=>LK Ψ E Z.rt e u|.ife c a b,Z,u=>(pe Ψ c E).t u λk h=>if k=kd then xB Ψ E a Z h else xB Ψ E b Z h|.for_ tg ik its body,Z,u=>(pe Ψ its E).a [] u λp h=>KB ik (CB p) λw =>
   if bN p=kd then BH (xB Ψ E body) tg { Z with nx:=λv=>Z.nx (kill tg.ix v) } w h
   else BH (xB Ψ E body) tg { Z with nx:=λv=>UU tg.ix (oC h (SG its)) h Z.nx (kill tg.ix v) } w (lock (oC h (SG its)) h)
 | .own i e,Z,u=>(pe Ψ e E).e u λx n h=>DH x n=kd/\Z.nx (h.set i (kv (.own x)))|.six o i e,Z,u=>match Fu o with
  |none=>False|some (j,kf)=>JC u[j]? λt=>(pe Ψ e E).e (u.set j (kv (.bor t))) λx n h=>DH x n=kd/\(pe Ψ i E).e h λy m v=>DH y m=kd/\v[j]?=kv (kv (.bor t))/\stT t y.er x.er λX=>Z.nx (v.set j (kv (.own X)))|some (j,kv k)=>JC u[j]? λt=>(pe Ψ e E).e (u.set j (kv (.bor t))) λx n h=>DH x n=kd/\(pe Ψ k E).e h λz l v=>DH z l=kd/\Uo z.er t λs put=>(pe Ψ i E).e v λy m g=>DH y m=kd/\g[j]?=kv (kv (.bor t))/\stT s y.er x.er λK=>Z.nx (g.set j (kv (.own (put K))))
 | .sdf j k,Z,u=>JC u[j]? λt=>Pc t=kd/\(pe Ψ k E).e (u.set j (kv (.bor t))) λy m h=>DH y m=kd/\h[j]?=kv (kv (.bor t))/\ui y.er t λX=>Z.nx (h.set j (kv (.own X)))|.whl c body,Z,u=>∃W:Nat->kA->Prop,(∃m,W m u)/\∀m u,W m u->(pe Ψ c E).t u λb h=>if b=kd then
   xB Ψ E body { Z with nx:=λf=>∃q,q < m/\W q f,ct:=λf=>∃q,q < m/\W q f,bk:=Z.nx } h else Z.nx h
 | .frz is s,Z,u=>xB Ψ E s Z (frzAt is u)|.hs s,Z,u=>Lx Ψ s Z.nx u|.gol s m,Z,u=>∃it e,s=.for_ (.nm 8) .val it (.seq (.set 9 e) (zO m))/\(pe Ψ it E).a [] u λp h=>bN p=kd/\KB .val (CB p) λw=>∃Y,h[5]?=kv (kv (.own Y))/\z9 Ψ e (xB Ψ E m) (λv=>Z.nx (kill [8] v)) w h Y
abbrev pF(Ψ:PEv):PT->PEnds->kA->Prop:=xB Ψ λ_=>False
theorem _root_.L2.Same.rd{H x:Hp}(e:Same H x){a:k0}{u:HO}(h:Rd H a u):Rd x a u:=by
 rcases h with h|⟨o,h⟩
 exact .inl (e _ _ h);exact .inr #[o,e _ _ h]
theorem _root_.L2.Same.tupl{K:QA}{H x:Hp}{a:k0}{xs:LV}(e:Same H x)(h:xD K H a xs):xD K x a xs:=by rcases h with h|h;exact .inl (e.rd h);exact .inr h
mutual
theorem NX{K:QA}{H x:Hp}(e:Same H x):∀{k:NK}{v:V},Zm K H k v->Zm K x k v
 | .s _,_,h=>h|.t _,_,#[a,xs,h,q,p]=>#[a,xs,h,e.tupl q,kys_mono e p]
theorem kys_mono{K:QA}{H y:Hp}(e:Same H y):∀{ks:List NK}{vs:LV},KyVs K H ks vs->KyVs K y ks vs
 |[],_,h=>h|_::_,_,#[x,r,h,p,q]=>#[x,r,h,NX e p,kys_mono e q]
end
section
variable{K:QA}{H x:Hp}{vs:LV}{ds:List D}
theorem _root_.L2.Same.key(e:Same H x){b:k0}{k:NK}(h:vO K H b k):vO K x b k:=#[NX e h.1,h.2]
theorem zK.mono(e:Same H x){b:Bool}{o:HO}{ks:List D}(h:zK K H b o ks vs):zK K x b o ks vs:=by
 cases b with|true=>let#[f,y,a,k,w,v,u]:=h;exact#[f,y,a,k,w,λp z=>e.key (v p z),u]|false=>exact h
theorem Rep.mono2(e:Same H x):(∀{v:V}{d:D},Rep K H v d->Rep K x v d)/\∀{vs:LV}{ds:List D},Reps K H vs ds->Reps K x vs ds :=
 Rep.both (P:=Rep K x) (R:=Reps K x) .non .bl .int .str (λh _ r=>.lst (e.seq h) r) (λh _ r=>.tup (e.tupl h) r) (λh q _ r=>.dct (e _ _ h) (q.mono e) r) .nil λ_ _ h r=>.cons h r
theorem Rep.mono(e:Same H x){v:V}{d:D}(h:Rep K H v d):Rep K x v d:=(Rep.mono2 e).1 h
theorem Reps.mono(e:Same H x)(h:Reps K H vs ds):Reps K x vs ds:=(Rep.mono2 e).2 h
theorem Reps.append{ws:LV}{es:List D}(h:Reps K H vs ds)(r:Reps K H ws es):Reps K H (vs++ws) (ds++es):=Reps.ind (R:=λvs ds=>Reps K H (vs++ws) (ds++es)) r (λh t=>.cons h t) h
theorem Reps.get{K:QA}{H:Hp}:∀{vs:LV}{ds:List D}{i:Nat}{d:D},Reps K H vs ds->ds[i]?=kv d->∃v,vs[i]?=kv v/\Rep K H v d
 |_,_,i,_,.nil,h=>by simp at h|_,_,0,_,.cons h _,e=>by simp at e;subst e;exact#[_,rfl,h]|_,_,i+1,d,.cons _ t,e=>by let#[v,z,y]:=Reps.get (i:=i) t (by simpa using e);exact#[v,by simpa using z,y]
theorem Reps.drop{K:QA}{H:Hp}:∀{vs:LV}{ds:List D}(n:Nat),Reps K H vs ds->Reps K H (vs.drop n) (ds.drop n)
 |_,_,0,r=>r|_,_,_+1,.nil=>.nil|_,_,n+1,.cons _ t=>Reps.drop n t
theorem Reps.take{K:QA}{H:Hp}:∀{vs:LV}{ds:List D}(n:Nat),Reps K H vs ds->Reps K H (vs.take n) (ds.take n)
 |_,_,0,_=>.nil|_,_,_+1,.nil=>.nil|_,_,n+1,.cons h t=>.cons h (Reps.take n t)
theorem Reps.bools{K:QA}{H:Hp}:∀{vs:LV}{bs:List Bool},Reps K H vs (bs.map PyData.bool)->vs=bs.map V.bl
 |_,[],.nil=>rfl|_,b::bs,.cons h t=>by cases h;rw[QU,Reps.bools t]
theorem EA{p:k0}{o:HO}(h:H p=kf):Same H (pA H p o):=λb u q=>by rw[jA (oA q h)];exact q
end
mutual
inductive Tr(K:QA)(F H:Hp):Bool->V->T->(k0->Prop)->Prop where
 |d {st:Bool}{v:V}{x:D}{S:fB}:Rep K F v x->(∀b,¬ S b)->Tr K F H st v (.d x) S
 |lst {st:Bool}{a:k0}{vs:LV}{ts:LT}{S S':fB}:H a=kv (.lst vs)->F a=kf->Trs K F H st vs ts S'->¬ S' a->(∀b,S b↔b=a∨S' b)->Tr K F H st (.ref a) (.lst ts) S
 |tup {st:Bool}{a:k0}{vs:LV}{ts:LT}{S S':fB}:H a=kv (.tup vs)->F a=kf->Trs K F H st vs ts S'->¬ S' a->(∀b,S b↔b=a∨S' b)->Tr K F H st (.ref a) (.tup ts) S
 |lstF {a:k0}{vs:LV}{ds:List D}{S:fB}:jC K F a vs->Reps K F vs ds->(∀b,¬ S b)->Tr K F H kb (.ref a) (.lst (ds.map T.d)) S
 |dct {st b:Bool}{a:k0}{o:HO}{ks:List D}{vs:LV}{ts:LT}{S S':fB}:H a=kv o->zK K F b o ks vs->F a=kf->Trs K F H st vs ts S'->¬ S' a->(∀b,S b↔b=a∨S' b)->Tr K F H st (.ref a) (.dct b ks ts) S
inductive Trs(K:QA)(F H:Hp):Bool->LV->LT->(k0->Prop)->Prop where
 |nil {st:Bool}{S:fB}:(∀b,¬ S b)->Trs K F H st [] [] S
 |cons {st:Bool}{v:V}{t:T}{vs:LV}{ts:LT}{S S1 S2:fB}:Tr K F H st v t S1->Trs K F H st vs ts S2->(∀b,S1 b->¬ S2 b)->(∀b,S b↔S1 b∨S2 b)->Trs K F H st (v::vs) (t::ts) S
end
section
variable{K:QA}{F H F' w:Hp}
section
variable{R:Bool->LV->LT->(k0->Prop)->Prop}{st b:Bool}{v:V}{t:T}{S:fB}{vs:LV}{ts:LT}{ds ks:List D}{i:Int}{kvs:List (D×D)}
theorem Tr.both{P:Bool->V->T->(k0->Prop)->Prop}
    (d:∀{st:Bool}{v:V}{x:D}{S:fB},Rep K F v x->(∀b,¬ S b)->P st v (.d x) S)
    (lst:∀{st:Bool}{a:k0}{vs:LV}{ts:LT}{S S':fB},H a=kv (.lst vs)->F a=kf->Trs K F H st vs ts S'->¬ S' a->(∀b,S b↔b=a∨S' b)->R st vs ts S'->P st (.ref a) (.lst ts) S)
    (tup:∀{st:Bool}{a:k0}{vs:LV}{ts:LT}{S S':fB},H a=kv (.tup vs)->F a=kf->Trs K F H st vs ts S'->¬ S' a->(∀b,S b↔b=a∨S' b)->R st vs ts S'->P st (.ref a) (.tup ts) S)
    (y:∀{a:k0}{vs:LV}{ds:List D}{S:fB},jC K F a vs->Reps K F vs ds->(∀b,¬ S b)->P kb (.ref a) (.lst (ds.map T.d)) S)
    (dct:∀{st b:Bool}{a:k0}{o:HO}{ks:List D}{vs:LV}{ts:LT}{S S':fB},H a=kv o->zK K F b o ks vs->F a=kf->Trs K F H st vs ts S'->¬ S' a->(∀b,S b↔b=a∨S' b)->R st vs ts S'->P st (.ref a) (.dct b ks ts) S)
    (u:∀{st:Bool}{S:fB},(∀b,¬ S b)->R st [] [] S)
    (z:∀{st:Bool}{v:V}{t:T}{vs:LV}{ts:LT}{S S1 S2:fB},Tr K F H st v t S1->Trs K F H st vs ts S2->(∀b,S1 b->¬ S2 b)->(∀b,S b↔S1 b∨S2 b)->P st v t S1->R st vs ts S2->R st (v::vs) (t::ts) S) :
    (∀{st:Bool}{v:V}{t:T}{S:fB},Tr K F H st v t S->P st v t S)/\∀{st:Bool}{vs:LV}{ts:LT}{S:fB},Trs K F H st vs ts S->R st vs ts S :=
  #[λh=>Tr.rec (motive_1:=λst v t S _=>P st v t S) (motive_2:=λst vs ts S _=>R st vs ts S) @d @lst @tup @y @dct @u @z h,
   λh=>Trs.rec (motive_1:=λst v t S _=>P st v t S) (motive_2:=λst vs ts S _=>R st vs ts S) @d @lst @tup @y @dct @u @z h]
theorem Tr.mono2(e:Same F F'):(∀{st:Bool}{v:V}{t:T}{S:fB},Tr K F H st v t S->(∀b,S b->w b=H b/\F' b=kf)->Tr K F' w st v t S)/\∀{st:Bool}{vs:LV}{ts:LT}{S:fB},Trs K F H st vs ts S->(∀b,S b->w b=H b/\F' b=kf)->Trs K F' w st vs ts S :=
 Tr.both (P:=λst v t S=>(∀b,S b->w b=H b/\F' b=kf)->Tr K F' w st v t S) (R:=λst v t S=>(∀b,S b->w b=H b/\F' b=kf)->Trs K F' w st v t S)
  (λr n _=>.d (r.mono e) n)
  (λ{_ a _ _ _ _} h _ _ n q x k=>.lst ((k a ((q a).mpr (.inl rfl))).1.trans h) (k a ((q a).mpr (.inl rfl))).2 (x λb hb=>k b ((q b).mpr (.inr hb))) n q)
  (λ{_ a _ _ _ _} h _ _ n q x k=>.tup ((k a ((q a).mpr (.inl rfl))).1.trans h) (k a ((q a).mpr (.inl rfl))).2 (x λb hb=>k b ((q b).mpr (.inr hb))) n q)
  (λh r n _=>.lstF (e.seq h) (r.mono e) n)
  (λ{_ _ a _ _ _ _ _ _} h dk _ _ n q x k=>.dct ((k a ((q a).mpr (.inl rfl))).1.trans h) (dk.mono e) (k a ((q a).mpr (.inl rfl))).2 (x λb hb=>k b ((q b).mpr (.inr hb))) n q)
  (λn _=>.nil n)
  (λ_ _ n q z y k=>.cons (z λb hb=>k b ((q b).mpr (.inl hb))) (y λb hb=>k b ((q b).mpr (.inr hb))) n q)
theorem Tr.mono(e:Same F F')(h:Tr K F H st v t S)(k:∀b,S b->w b=H b/\F' b=kf):Tr K F' w st v t S:=(Tr.mono2 e).1 h k
theorem Trs.mono(e:Same F F')(h:Trs K F H st vs ts S)(k:∀b,S b->w b=H b/\F' b=kf):Trs K F' w st vs ts S:=(Tr.mono2 e).2 h k
theorem Tr.weak2:(∀{st:Bool}{v:V}{t:T}{S:fB},Tr K F H st v t S->Tr K F H kb v t S)/\∀{st:Bool}{vs:LV}{ts:LT}{S:fB},Trs K F H st vs ts S->Trs K F H kb vs ts S :=
 Tr.both (P:=λ_ v t S=>Tr K F H kb v t S) (R:=λ_ v t S=>Trs K F H kb v t S) .d (λh f _ n q x=>.lst h f x n q) (λh f _ n q x=>.tup h f x n q) .lstF (λh dk f _ n q x=>.dct h dk f x n q) .nil λ_ _ n q z y=>.cons z y n q
theorem Tr.weak(h:Tr K F H st v t S):Tr K F H kb v t S:=Tr.weak2.1 h
theorem Trs.weak(h:Trs K F H st vs ts S):Trs K F H kb vs ts S:=Tr.weak2.2 h
theorem t8{C:fB}{a:k0}{S':fB}(q:∀b,S b↔b=a∨S' b)(h:C a)(k:∀b,S' b->C b)(b:k0)(hb:S b):C b:=((q b).mp hb).elim (λe=>e▸h) (k b)
theorem Tr.dom2:(∀{st:Bool}{v:V}{t:T}{S:fB},Tr K F H st v t S->∀b,S b->H b≠kf/\F b=kf)/\∀{st:Bool}{vs:LV}{ts:LT}{S:fB},Trs K F H st vs ts S->∀b,S b->H b≠kf/\F b=kf :=
 have y:∀{a:k0}{o:HO},H a=kv o->H a≠none:=λh z=>by rw[h]at z;cases z
 Tr.both (P:=λ_ _ _ S=>∀b,S b->H b≠kf/\F b=kf) (R:=λ_ _ _ S=>∀b,S b->H b≠kf/\F b=kf)
  (λ_ n b hb=>Uz hb (n b)) (λh f _ _ q x=>t8 q #[y h,f] x) (λh f _ _ q x=>t8 q #[y h,f] x) (λ_ _ n b hb=>Uz hb (n b)) (λh _ f _ _ q x=>t8 q #[y h,f] x)
  (λn b hb=>Uz hb (n b)) λ_ _ _ q k u b hb=>((q b).mp hb).elim (k b) (u b)
theorem Tr.dom(h:Tr K F H st v t S):∀b,S b->H b≠kf/\F b=none:=Tr.dom2.1 h
theorem Trs.dom(h:Trs K F H st vs ts S):∀b,S b->H b≠kf/\F b=none:=Tr.dom2.2 h
theorem Tr.kept2(e:Same F F'):(∀{st:Bool}{v:V}{t:T}{S:fB},Tr K F H st v t S->(∀b u,S b->H b=kv u->F' b=kv u)->Rep K F' v t.er)/\∀{st:Bool}{vs:LV}{ts:LT}{S:fB},Trs K F H st vs ts S->(∀b u,S b->H b=kv u->F' b=kv u)->Reps K F' vs (ersT ts) :=
 Tr.both (P:=λ_ v t S=>(∀b u,S b->H b=kv u->F' b=kv u)->Rep K F' v t.er) (R:=λ_ v t S=>(∀b u,S b->H b=kv u->F' b=kv u)->Reps K F' v (ersT t))
  (λr _ _=>r.mono e)
  (λ{_ a _ _ _ _} h _ _ _ q x k=>by unfold T.er;exact .lst (jC.of (k a _ ((q a).mpr (.inl rfl)) h)) (x λb u hb=>k b u ((q b).mpr (.inr hb))))
  (λ{_ a _ _ _ _} h _ _ _ q x k=>by unfold T.er;exact .tup (xD.of (k a _ ((q a).mpr (.inl rfl)) h)) (x λb u hb=>k b u ((q b).mpr (.inr hb))))
  (λh r _ _=>by unfold T.er;rw[DA];exact .lst (e.seq h) (r.mono e))
  (λ{_ _ a _ _ _ _ _ _} h dk _ _ _ q x k=>by unfold T.er;exact .dct (k a _ ((q a).mpr (.inl rfl)) h) (dk.mono e) (x λb u hb=>k b u ((q b).mpr (.inr hb))))
  (λ_ _=>.nil)
  (λ_ _ _ q z y k=>.cons (z λb u hb=>k b u ((q b).mpr (.inl hb))) (y λb u hb=>k b u ((q b).mpr (.inr hb))))
theorem Tr.kept(e:Same F F')(h:Tr K F H st v t S)(k:∀b u,S b->H b=kv u->F' b=kv u):Rep K F' v t.er:=(Tr.kept2 e).1 h k
theorem Trs.kept(e:Same F F')(h:Trs K F H st vs ts S)(k:∀b u,S b->H b=kv u->F' b=kv u):Reps K F' vs (ersT ts):=(Tr.kept2 e).2 h k
theorem Tr.rep(f:Same F H)(h:Tr K F H st v t S):Rep K H v t.er:=h.kept f λ_ _ _ e=>e
theorem Trs.ind(y:∀{st:Bool}{S:fB},(∀b,¬ S b)->R st [] [] S)
  (x:∀{st:Bool}{v:V}{t:T}{vs:LV}{ts:LT}{S S1 S2:fB},Tr K F H st v t S1->Trs K F H st vs ts S2->(∀b,S1 b->¬ S2 b)->(∀b,S b↔S1 b∨S2 b)->R st vs ts S2->R st (v::vs) (t::ts) S) (h:Trs K F H st vs ts S):R st vs ts S :=
 (Tr.both (P:=λ_ _ _ _=>True) (λ_ _=>trivial) (λ_ _ _ _ _ _=>trivial) (λ_ _ _ _ _ _=>trivial) (λ_ _ _=>trivial) (λ_ _ _ _ _ _ _=>trivial) y λh t n q _ r=>x h t n q r).2 h
theorem Trs.length(h:Trs K F H st vs ts S):vs.9=ts.length:=Trs.ind (R:=λ_ vs ts _=>vs.9=ts.9) (λ_=>rfl) (λ_ _ _ _ e=>ak Nat.succ e) h
theorem Trs.of_reps(h:Reps K F vs ds):Trs K F H st vs (ds.map T.d) (λ_=>False) :=
 Reps.ind (R:=λvs ds=>Trs K F H st vs (ds.map T.d) λ_=>False) (.nil λ_ z=>z) (λh t=>.cons (.d h λ_ z=>z) t (λ_ z=>z.elim) λb=>by simp) h
theorem Trs.un(h:Trs K F H st vs ts S)(e:VG ts=kv ds):Reps K F vs ds/\∀b,¬ S b:=by
 have u:=UL e;clear e;revert ds;refine Trs.ind (R:=λ_ vs ts S=>∀{ds:List D},ts=ds.map T.d->Reps K F vs ds/\∀b,¬ S b) (λn ds e=>?_) (λh _ _ q x ds e=>?_) h;cases ds with|nil=>exact#[.nil,n]|cons d r=>cases e
 cases ds with
 |nil=>cases e|cons d r =>
  injection e with e1 e2;let#[z,y]:=x e2;subst e1;cases h with|d rep m=>exact#[.cons rep z,λb hb=>((q b).mp hb).elim (m b) (y b)]
theorem Trs.get{i:Nat}(h:Trs K F H st vs ts S)(e:ts[i]?=kv t):∃v S1,vs[i]?=kv v/\Tr K F H st v t S1/\∀b,S1 b->S b:=by
 revert i;refine Trs.ind (R:=λst vs ts S=>∀{i:Nat},ts[i]?=kv t->∃v S1,vs[i]?=kv v/\Tr K F H st v t S1/\∀b,S1 b->S b) (λn i e=>by cases e) (λh _ n q x i e=>?_) h;cases i with|zero=>cases e;exact#[_,_,rfl,h,λb hb=>(q b).mpr (.inl hb)]|succ i=>let#[v,S1,u,z,y]:=x (i:=i) e;exact#[v,S1,u,z,λb hb=>(q b).mpr (.inr (y b hb))]
theorem Trs.at(r:Trs K F H st vs ts S)(h:fE ts i=kv t):∃v S1,fE vs i=kv v/\Tr K F H st v t S1/\∀b,S1 b->S b:=by
 unfold fE at h ⊢;rw[r.9];cases e:JU ts.9 i with|none=>rw[e]at h;cases h|some j=>rw[e]at h;exact r.get h
theorem Trs.append{ws:LV}{us:LT}{S1 S2:fB}(h:Trs K F H st vs ts S1)(r:Trs K F H st ws us S2)(k:∀b,S1 b->¬ S2 b):Trs K F H st (vs++ws) (ts++us) (λb=>S1 b∨S2 b) :=
 Trs.ind (R:=λst vs ts S1=>Trs K F H st ws us S2->(∀b,S1 b->¬ S2 b)->Trs K F H st (vs++ws) (ts++us) λb=>S1 b∨S2 b)
  (λ{_ S} n r _=>by have e:(λb=>S b∨S2 b)=S2:=funext λb=>Az #[λz=>z.resolve_left (n b),.inr];rw[e];exact r)
  (λh _ n q x r k=>.cons h (x r λb hb=>k b ((q b).mpr (.inr hb))) (λb hb z=>z.elim (n b hb) (k b ((q b).mpr (.inl hb)))) λb=>by rw[q b,or_assoc]) h r k
theorem Trs.one(h:Tr K F H st v t S):Trs K F H st [v] [t] S:=.cons h (.nil (S:=λ_=>False) λ_ z=>z) (λ_ _ z=>z) λb=>by simp
theorem oH(e:(T.d (.dict kvs)).vw=.ls ts):False:=by
 have e:xC kvs=.ls ts:=e;unfold xC at e;cases h:DD kvs with|none=>rw[h]at e;cases e|some b=>rw[h]at e;cases e
theorem iL(e:(T.d (.dict kvs)).vw=.tp ts):False:=by
 have e:xC kvs=.tp ts:=e;unfold xC at e;cases h:DD kvs with|none=>rw[h]at e;cases e|some b=>rw[h]at e;cases e
theorem Tr.ls(f:Same F H)(h:Tr K F H st v t S)(e:t.vw=.ls ts):∃a vs S',v=.ref a/\jC K H a vs/\Trs K F H kb vs ts S'/\∀b,S' b->S b:=by
 cases h with
 |d r n =>
  cases r with|lst q r=>injection e with e;subst e;exact#[_,_,_,rfl,f.seq q,Trs.of_reps r,λb hb=>hb.elim]|dct _ _ _=>exact(oH e).elim|_=>cases e
 |lst h _ r n q=>injection e with e;subst e;exact#[_,_,_,rfl,jC.of h,r.weak,λb hb=>(q b).mpr (.inr hb)]|tup=>cases e|dct=>cases e|lstF h r n=>injection e with e;subst e;exact#[_,_,_,rfl,f.seq h,Trs.of_reps r,λb hb=>hb.elim]
theorem Tr.tp(f:Same F H)(h:Tr K F H st v t S)(e:t.vw=.tp ts):∃a vs S',v=.ref a/\xD K H a vs/\Trs K F H kb vs ts S'/\∀b,S' b->S b:=by
 cases h with
 |d r n =>
  cases r with|tup q r=>injection e with e;subst e;exact#[_,_,_,rfl,f.tupl q,Trs.of_reps r,λb hb=>hb.elim]|dct _ _ _=>exact(iL e).elim|_=>cases e
 |tup h _ r n q=>injection e with e;subst e;exact#[_,_,_,rfl,xD.of h,r.weak,λb hb=>(q b).mpr (.inr hb)]|lst=>cases e|lstF=>cases e|dct=>cases e
theorem OX{u:Bool}{o:HO}(h:zK K H u o ks vs)(e:DD (ks.zip ds)=kv b):u=b:=by
 cases ks with
 |nil=>cases e|cons k ks =>
  cases ds with
  |nil=>cases e|cons d ds =>
   cases u with
   |true =>
    let#[m,kvs,_,y,_,g,_]:=h;cases kvs with
    |nil=>cases y|cons p r =>
     have a:=(g p QF).1;let#[f,n,j]:=p;cases f with|s x=>cases a|t l=>rw[QU]at y;injection y with y _;subst y;injection e
   |false =>
    rcases h with⟨kvs,_,_,y,_⟩| ⟨_,_,y,_⟩
    rotate_left
    cases y;cases kvs with
    |nil=>cases y|cons p r =>
     rw[QU]at y;injection y with y _;subst y;let#[k,v]:=p;cases k with|inl i=>cases e|inr z=>injection e
theorem Tr.dc(f:Same F H)(h:Tr K F H st v t S)(e:t.vw=.dc b ks ts):∃a o vs S',v=.ref a/\H a=kv o/\zK K F b o ks vs/\Trs K F H kb vs ts S'/\(∀b,S' b->S b)/\∀F' w,Same F F'->Same F' w->(∀b,S b->w b=H b)->w a=kv o:=by
 cases h with
 |d r n =>
  cases r with
  |@dct X a o y l ds h q r =>
   have hl:y.9=ds.length:=by rw[q.len,Reps.length r]
   have g:(y.zip ds).map (λx=>x.1)=y:=Ww (w4 hl);have u:(y.zip ds).map (λx=>x.2)=ds:=WM (w4 hl.symm);have e:xC (y.zip ds)=.dc b ks ts:=e;unfold xC at e;cases z:DD (y.zip ds) with
   |none=>rw[z]at e;cases e|some p =>
    rw[z]at e;injection e with z1 z2 z3;subst z1;rw[g]at z2;subst z2;have m:ts=ds.map T.d:=by have j:=ak (List.map T.d) u;rw[QX]at j;rw[<- z3,<- j];rfl
    subst m;cases OX q z;exact#[_,_,_,_,rfl,f _ _ h,q,Trs.of_reps r,λb hb=>hb.elim,λF' w g u _=>u _ _ (g _ _ h)]
  |_=>cases e
 |dct h q _ r n s=>injection e with z1 z2 z3;subst z1 z2 z3;exact#[_,_,_,_,rfl,h,q,r.weak,λb hb=>(s b).mpr (.inr hb),λF' w _ _ k=>(k _ ((s _).mpr (.inl rfl))).trans h]|lst=>cases e|tup=>cases e|lstF=>cases e
theorem Tr.sc{x:D}(h:Tr K F H st v t S)(e:t.vw=.sc x):t=.d x/\Rep K F v x:=by
 cases h with
 |@d _ _ y _ r n =>
  cases y with
  |list ds=>cases e|tuple ds=>cases e|dict ds =>
   have e:xC ds=.sc x:=e;unfold xC at e;cases z:DD ds with|none=>rw[z]at e;injection e with e;subst e;exact#[rfl,r]|some b=>rw[z]at e;cases e
  |_=>injection e with e;subst e;exact#[rfl,r]
 |tup=>cases e|lst=>cases e|lstF=>cases e|dct=>cases e
theorem Tr.int(h:Tr K F H st v t S)(e:t.vw=.sc (.int i)):v=.int i:=by let#[_,r]:=h.sc e;cases r;rfl
theorem Tr.str{i:Str}(h:Tr K F H st v t S)(e:t.vw=.sc (.str i)):v=.str i:=by let#[_,r]:=h.sc e;cases r;rfl
theorem Tr.bool{i:Bool}(h:Tr K F H st v t S)(e:t.vw=.sc (.bool i)):v=.bl i:=by let#[_,r]:=h.sc e;cases r;rfl
end
end
def Sl.t:Sl->T
 | .own t=>t|.bor t=>t
def Sl.st:Sl->Bool
 | .own _=>kd|.bor _=>kb
noncomputable abbrev Ft:=Nat->k0->Prop
structure Rl(K:QA)(F H:Hp)(S:Ft)(ρ:kA)(σ:St):Prop where
 fh:Same F H
 len:ρ.9=σ.9
 sl:∀(i:Nat) s,ρ[i]?=kv (kv s)->∃v,σ[i]?=kv (kv v)/\Tr K F H s.st v s.t (S i)
 dj:∀(i j:Nat) t s,i≠j->ρ[i]?=kv (kv (.own t))->ρ[j]?=kv (kv s)->∀b,S i b->¬ S j b
def U(ρ:kA)(S:Ft)(b:k0):Prop:=∃(i:Nat) (t:T),ρ[i]?=kv (kv (.own t))/\S i b
structure Stp(F H:Hp)(S:Ft)(ρ:kA)(F' H':Hp)(S':Ft)(ρ':kA):Prop where
 ff:Same F F'
 hh:∀b u,H b=kv u->¬ U ρ S b->H' b=kv u
 dm:∀b,H' b=kf->H b=kf
 fn:∀b,F b=kf->F' b≠kf->U ρ S b∨H b=kf
 uu:∀b,U ρ' S' b->U ρ S b∨H b=kf
 bo:∀(j:Nat) t,ρ'[j]?=kv (kv (.bor t))->t.isD=kb->ρ[j]?=kv (kv (.bor t))/\S' j=S j
structure Ste(F H:Hp)(S:Ft)(ρ:kA)(F' H':Hp)(S':Ft)(ρ':kA):Prop extends Stp F H S ρ F' H' S' ρ' where
 ow:∀(j:Nat) t,ρ'[j]?=kv (kv (.own t))->∃t0,ρ[j]?=kv (kv (.own t0))
section
variable{K:QA}{F H X m B C:Hp}{S S1 S2:Ft}{ρ l A:kA}{σ:St}
section
variable{v:V}{t:T}{Z W:fB}{i:Nat}{s:Sl}{b p:k0}{vs:LN}{g:Hp}{c:Ft}{y:kA}{n:Bool}
theorem Stp.refl:Stp F H S ρ F H S ρ:=#[.refl _,λ_ _ h _=>h,λ_ h=>h,λb h z=>Uz h z,λ_ h=>.inl h,λ_ _ h _=>#[h,rfl]]
theorem Ste.refl:Ste F H S ρ F H S ρ:=#[Stp.refl,λ_ t h=>#[t,h]]
theorem Stp.trans(a:Stp F H S ρ X m S1 l)(b:Stp X m S1 l B C S2 A):Stp F H S ρ B C S2 A where
 ff:=a.ff.trans b.ff
 hh:=λx u h n=>b.hh x u (a.hh x u h n) λz=>by rcases a.uu x z with q|q;exact n q;rw[q]at h;cases h
 dm:=λx h=>a.dm x (b.dm x h)
 fn:=λx h z=>by
  by_cases q:X x=kf;rcases b.fn x q z with w|w
  ·exact a.uu x w
  exact .inr (a.dm x w);exact a.fn x h q
 uu:=λx h=>by rcases b.uu x h with w|w;exact a.uu x w;exact .inr (a.dm x w)
 bo:=λj t h n=>by let#[o,f]:=b.bo j t h n;let#[e,k]:=a.bo j t o n;exact#[e,f.trans k]
theorem Ste.trans(a:Ste F H S ρ X m S1 l)(b:Ste X m S1 l B C S2 A):Ste F H S ρ B C S2 A:=#[a.toStp.trans b.toStp,λj t h=>by let#[x,z]:=b.ow j t h;exact a.ow j x z]
theorem Stp.keep(s:Stp F H S ρ X m S1 l){st:Bool}(h:Tr K F H st v t Z)(n:∀b,Z b->¬ U ρ S b):Tr K X m st v t Z :=
 h.mono s.ff λb hb=>by
  let#[x,w]:=h.dom b hb;refine#[?_,?_];cases e:H b with|none=>exact Uz e x|some u=>exact s.hh b u e (n b hb)
  by_cases q:X b=kf
  ·exact q
  rcases s.fn b w q with z|z
  ·exact Uz z (n b hb)
  exact Uz z x
theorem Rl.dom(I:Rl K F H S ρ σ)(h:ρ[i]?=kv (kv s))(hb:S i b):H b≠kf/\F b=none:=by let#[v,_,r]:=I.sl i s h;exact r.dom b hb
theorem Rl.isD(I:Rl K F H S ρ σ)(h:ρ[i]?=kv (kv s))(x:s.t.isD=kd):¬ S i b:=by
 let#[v,_,r]:=I.sl i s h;generalize s.t=t at r x;generalize s.st=st at r;cases r with|d r n=>exact n b|_=>cases x
structure Held(F H:Hp)(S:Ft)(ρ:kA)(Z:fB):Prop where
 dom:∀b,Z b->H b≠kf/\F b=kf
 nw:∀(i:Nat) s,ρ[i]?=kv (kv s)->∀b,Z b->¬ S i b
theorem Held.nu(h:Held F H S ρ Z):∀b,Z b->¬ U ρ S b:=λb hb #[i,t,z,x]=>h.nw i _ z b hb x
theorem Held.step(h:Held F H S ρ Z)(s:Stp F H S ρ X m S1 l)(j:Rl K X m S1 l σ):Held X m S1 l Z where
 dom:=λb hb=>by
  let#[u,k]:=h.dom b hb;refine#[λz=>u (s.dm b z),?_];by_cases q:X b=kf;exact q;rcases s.fn b k q with z|z
  ·exact Uz z (h.nu b hb)
  exact Uz z u
 nw:=λi w e b hb z=>by
  cases w with
  |own t=>rcases s.uu b ⟨i,t,e,z⟩ with q|q;exact h.nu b hb q;exact(h.dom b hb).1 q
  |bor t =>
   cases x:t.isD with|true=>exact j.isD e x z|false=>let#[f,a]:=s.bo i t e x;rw[a]at z;exact h.nw i _ f b hb z
theorem Held.none:Held F H S ρ λ_=>False:=#[λ_ z=>z.elim,λ_ _ _ _ z=>z.elim]
theorem Held.or{Y:fB}(a:Held F H S ρ Z)(b:Held F H S ρ Y):Held F H S ρ λx=>Z x∨Y x:=#[λx h=>h.elim (a.dom x) (b.dom x),λi s e x h=>h.elim (a.nw i s e x) (b.nw i s e x)]
noncomputable def cF(F H:Hp)(W:fB):Hp:=open Classical in λb=>if W b then H b else F b
theorem cE(h:W b):cF F H W b=H b:=t6 h
theorem iB(h:¬ W b):cF F H W b=F b:=t3 h
theorem HC(h:∀b,W b->F b=kf):Same F (cF F H W):=λb u e=>by rw[iB λz=>by rw[h b z]at e;cases e];exact e
theorem Hc(f:Same F H):Same (cF F H W) H:=λb u e=>by by_cases hb:W b;rw[cE hb]at e;exact e;rw[iB hb]at e;exact f b u e
theorem Rl.frz(I:Rl K F H S ρ σ){W:fB}(h:Held F H S ρ W):Rl K (cF F H W) H S ρ σ where
 fh:=Hc I.fh
 len:=I.len
 sl:=λi s e=>by let#[v,u,x]:=I.sl i s e;refine#[v,u,x.mono (HC λb hb=>(h.dom b hb).2) λb hb=>#[rfl,?_]];rw[iB λz=>h.nw i s e b z hb];exact(x.dom b hb).2
 dj:=I.dj
theorem Stp.frz(s:Stp F H S ρ X m S1 l){W:fB}(x:∀b,W b->X b=kf)(fr:∀b,W b->H b=kf∨U ρ S b):Stp F H S ρ (cF X m W) m S1 l :=
 #[s.ff.trans (HC x),s.hh,s.dm,λb h z=>by by_cases q:W b;exact(fr b q).symm;rw[iB q]at z;exact s.fn b h z,s.uu,s.bo]
theorem Ste.frz(s:Ste F H S ρ X m S1 l){W:fB}(h:∀b,W b->X b=kf)(fr:∀b,W b->H b=kf∨U ρ S b):Ste F H S ρ (cF X m W) m S1 l:=#[s.toStp.frz h fr,s.ow]
theorem Stp.new(s:Stp F H S ρ X m S1 l){p:k0}(h:m p=kf)(o:HO):Stp F H S ρ X (pA m p o) S1 l :=
 #[s.ff,λb u e n=>EA h b u (s.hh b u e n),λb e=>by by_cases hb:b=p;rw[hb,bA]at e;cases e;rw[jA hb]at e;exact s.dm b e,s.fn,s.uu,s.bo]
theorem Ste.new(s:Ste F H S ρ X m S1 l){p:k0}(h:m p=kf)(o:HO):Ste F H S ρ X (pA m p o) S1 l:=#[s.toStp.new h o,s.ow]
theorem Rl.same(I:Rl K F H S ρ σ)(h:Same H m):Rl K F m S ρ σ where
 fh:=I.fh.trans h
 len:=I.len
 sl:=λi s e=>by
  let#[v,z,x]:=I.sl i s e;refine#[v,z,x.mono (.refl _) λb hb=>#[?_,(x.dom b hb).2]];cases e:H b with|none=>exact Uz e (x.dom b hb).1|some u=>exact h b u e
 dj:=I.dj
theorem Rl.new(I:Rl K F H S ρ σ){p:k0}(h:H p=kf)(o:HO):Rl K F (pA H p o) S ρ σ:=I.same (EA h)
theorem Stp.newT(s:Stp F H S ρ X m S1 l)(h:m p=kf)(u:X p=kf)(o:HO):Stp F H S ρ (pA X p o) (pA m p o) S1 l :=
 let x:=s.new h o
 #[s.ff.trans (EA u),x.hh,x.dm,λb e z=>by by_cases hb:b=p;rw[hb];exact .inr (s.dm p h);rw[jA hb]at z;exact s.fn b e z,s.uu,s.bo]
theorem Ste.newT(s:Ste F H S ρ X m S1 l)(h:m p=kf)(x:X p=kf)(o:HO):Ste F H S ρ (pA X p o) (pA m p o) S1 l:=#[s.toStp.newT h x o,s.ow]
theorem Rl.newT(I:Rl K F H S ρ σ)(h:H p=kf)(o:HO):Rl K (pA F p o) (pA H p o) S ρ σ where
 fh:=λb u e=>by by_cases hb:b=p;rw[hb,bA]at e ⊢;exact e;rw[jA hb]at e ⊢;exact I.fh b u e
 len:=I.len
 sl:=λi s e=>by let#[v,k,x]:=I.sl i s e;refine#[v,k,x.mono (EA (I.fh.free h)) λb hb=>?_];have w:b≠p:=λz=>(x.dom b hb).1 (by rw[z];exact h);rw[jA w,jA w];exact#[rfl,(x.dom b hb).2]
 dj:=I.dj
theorem aZ(ρ:kA)(i:Nat):(lockA ρ)[i]?=ρ[i]?.map eB:=by unfold lockA;rw[Qd]
theorem zB{ρ:kA}(h:(lockA ρ)[i]?=kv (kv s)):∃x,ρ[i]?=kv (kv x)/\s=.bor x.t:=by
 rw[aZ]at h;cases e:ρ[i]? with
 |none=>rw[e]at h;cases h|some o =>
  rw[e]at h;cases o with
  |none=>cases h|some x =>
   cases x with|own t=>injection h with h;injection h with h;subst h;exact#[_,rfl,rfl]|bor t=>injection h with h;injection h with h;subst h;exact#[_,rfl,rfl]
theorem FC(b:k0):¬ U (lockA ρ) S b:=λ#[i,t,h,_]=>by let#[x,_,e]:=zB h;cases e
theorem Rl.lockA(I:Rl K F H S ρ σ):Rl K F H S (lockA ρ) σ where
 fh:=I.fh
 len:=by unfold L3.lockA;rw[QE];exact I.len
 sl:=λi s e=>by let#[x,h,rfl]:=zB e;let#[v,u,z]:=I.sl i x h;exact#[v,u,z.weak]
 dj:=λi j t s _ h=>by let#[x,_,e]:=zB h;cases e
theorem Stp.unlockA(s:Stp F H S (L3.lockA ρ) X m S1 l):Stp F H S ρ X m S ρ :=
 #[s.ff,λb u e _=>s.hh b u e (FC b),s.dm,λb h z=>(s.fn b h z).elim (λq=>Uz q (FC b)) .inr,λ_ h=>.inl h,λ_ _ h _=>#[h,rfl]]
theorem Rl.unlockA(I:Rl K F H S ρ σ)(s:Stp F H S (L3.lockA ρ) X m S1 l)(f:Same X m):Rl K X m S ρ σ where
 fh:=f
 len:=I.len
 sl:=λi sl e=>by let#[v,x,h]:=I.sl i sl e;exact#[v,x,s.keep h λb _=>FC b]
 dj:=I.dj
structure VR(K:QA)(vs:LN)(g:Hp)(c:Ft)(y:kA)(F H:Hp)(S:Ft)(ρ:kA)(v:V)(t:T)(n:Bool)(Z:fB):Prop where
 tr:Tr K F H n v t Z
 fr:n=kd->∀b,Z b->g b=kf∨U y c b
 tm:n=kb->∀b,Z b->∃(i:Nat) (s:Sl),i∈vs/\ρ[i]?=kv (kv s)/\S i b
 nw:n=kd->∀(i:Nat) s,ρ[i]?=kv (kv s)->∀b,Z b->¬ S i b
theorem VR.d{vs:LN}{g:Hp}{c:Ft}{y:kA}{v:V}{x:D}(n:Bool)(r:Rep K F v x):VR K vs g c y F H S ρ v (.d x) n (λ_=>False) :=
 #[.d r λ_ z=>z,λ_ _ z=>z.elim,λ_ _ z=>z.elim,λ_ _ _ _ _ z=>z.elim]
theorem VR.held(h:VR K vs g c y F H S ρ v t kd Z):Held F H S ρ Z:=#[λb hb=>h.tr.dom b hb,h.nw rfl]
theorem VR.vars{ws:LN}(h:VR K vs g c y F H S ρ v t n Z)(k:∀i∈vs,i∈ws):VR K ws g c y F H S ρ v t n Z :=
 #[h.tr,h.fr,λe b hb=>let#[i,s,z,x]:=h.tm e b hb;#[i,s,k i z,x],h.nw]
theorem VR.from(s:Stp F H S ρ X m S1 l)(h:VR K vs m S1 l B C S2 A v t n Z):VR K vs H S ρ B C S2 A v t n Z :=
 #[h.tr,λe b hb=>by rcases h.fr e b hb with q|q;exact .inl (s.dm b q);exact(s.uu b q).symm,h.tm,h.nw]
theorem VR.frz{vs:LN}{v:V}{t:T}{n:Bool}{Z:fB}(s:Ste F H S ρ X m S1 l)(I:Rl K X m S1 l σ)(h:VR K vs H S ρ X m S1 l v t n Z) :
  ∃B o,Ste F H S ρ B m S1 l/\Rl K B m S1 l σ/\Tr K B m kb v (lA t n) o/\(DH t n=kd->Rep K B v t.er)/\(∀b,o b->∃(i:Nat) (s:Sl),i∈vs/\l[i]?=kv (kv s)/\S1 i b) /\
   ∀st a t' k,Tr K X m st a t' k->(∀b,k b->∃(i:Nat) (s:Sl),l[i]?=kv (kv s)/\S1 i b)->Tr K B m st a t' k:=by
 cases n with
 |true =>
  have w:=h.held;have j:=HC (H:=m) λb hb=>(w.dom b hb).2;have f:=h.tr.kept j λb u hb e=>by rw[cE hb];exact e
  refine#[cF X m Z,λ_=>False,s.frz (λb hb=>(w.dom b hb).2) (h.fr rfl),I.frz w,.d f λ_ z=>z,λ_=>f,λb z=>z.elim,λst a t' k r E=>r.mono j λb hb=>#[rfl,?_]];let#[i,Y,J,G]:=E b hb;rw[iB λz=>w.nw i Y J b z G];exact(r.dom b hb).2
 |false =>
  refine#[X,Z,s,I,h.tr,?_,h.tm rfl,λ_ _ _ _ r _=>r];intro e;have q:=h.tr;cases t with
  |d x=>cases q with|d r n=>exact r
  |_=>cases e
end
end
noncomputable abbrev bB(K:QA)(vs:LN)(F H:Hp)(S:Ft)(ρ:kA)(σ:St)(Q:TK)(R:VK):Prop :=
 ∀v z x y h t n Z,Ste F H S ρ z x y h->Rl K z x y h σ->VR K vs H S ρ z x y h v t n Z->Q t n h->R v x
noncomputable abbrev mH(K:QA)(F H:Hp)(S:Ft)(ρ:kA)(σ:St)(Q:Bool->kA->Prop)(R:Bool->Hp->Prop):Prop :=
 ∀b z x y h,Ste F H S ρ z x y h->Rl K z x y h σ->Q b h->R b x
section
variable{K:QA}{ws:LN}{F H A Y:Hp}{S S1:Ft}{ρ X:kA}{σ:St}{v w:V}{a b:T}{G E:fB}{Q:TK}{R:VK}{C B:Bool}
section
variable{o m:Hp}{S2:Ft}{u:kA}{p:k0}{vs:LV}{ds:List D}
theorem bB.from(k:bB K ws F H S ρ σ Q R)(s:Ste F H S ρ o m S2 u):bB K ws o m S2 u σ Q R:=λv f e y h t n Z x z r q=>k v f e y h t n Z (s.trans x) z (r.from s.toStp) q
theorem mH.from{Q:Bool->kA->Prop}{R:Bool->Hp->Prop}(k:mH K F H S ρ σ Q R)(s:Ste F H S ρ o m S2 u):mH K o m S2 u σ Q R:=λb f e y h x z q=>k b f e y h (s.trans x) z q
theorem bB.vars{us:LN}(k:bB K ws F H S ρ σ Q R)(h:∀i∈us,i∈ws):bB K us F H S ρ σ Q R:=λv e z y x t n Z s I r q=>k v e z y x t n Z s I (r.vars h) q
theorem bB.d(k:bB K ws F H S ρ σ Q R)(s:Ste F H S ρ A Y S1 X)(I:Rl K A Y S1 X σ){x:D}{n:Bool}(r:Rep K A v x)(q:Q (.d x) n X):R v Y:=k v A Y S1 X _ n _ s I (VR.d n r) q
theorem bB.list(k:bB K ws F H S ρ σ Q R)(s:Ste F H S ρ A Y S1 X)(I:Rl K A Y S1 X σ)(x:Y p=kf){ts:LT}{W:fB}(r:Trs K A Y kd vs ts W)
  (fr:∀b,W b->H b=kf∨U ρ S b) (y:Held A Y S1 X W) (q:Q (.lst ts) kd X):R (.ref p) (pA Y p (.lst vs)):=by
 have g:∀b,Y b≠kf->b≠p:=λb h z=>h (by rw[z];exact x);refine k _ A _ S1 X _ kd (λb=>b=p∨W b) (s.new x _) (I.new x _) #[.lst bA (I.fh.free x) (r.mono (.refl _) λb hb=>#[?_,(y.dom b hb).2]) (λz=>(y.dom p z).1 x) (λb=>wW),λ_ b hb=>?_,λz=>(by cases z),λ_ i f e b hb z=>?_] q;rw[jA (g b (y.dom b hb).1)];rcases hb with rfl|hb
 ·exact .inl (s.dm _ x)
 exact fr b hb;rcases hb with rfl|hb
 ·exact(I.dom e z).1 x
 exact y.nw i f e b hb z
theorem bB.listD(k:bB K ws F H S ρ σ Q R)(s:Ste F H S ρ A Y S1 X)(I:Rl K A Y S1 X σ)(h:Y p=kf)(r:Reps K A vs ds)(q:Q (.lst (ds.map T.d)) kd X):R (.ref p) (pA Y p (.lst vs)) :=
 k.list s I h (Trs.of_reps r) (λb z=>z.elim) .none q
theorem bB.tupD(k:bB K ws F H S ρ σ Q R)(s:Ste F H S ρ A Y S1 X)(I:Rl K A Y S1 X σ)(h:Y p=kf){n:Bool}(r:Reps K A vs ds)(q:Q (.d (.tuple ds)) n X):R (.ref p) (pA Y p (.tup vs)) :=
 bB.d k (s.newT h (I.fh.free h) _) (I.newT h _) (.tup (xD.of bA) (r.mono (EA (I.fh.free h)))) q
theorem bB.tup(k:bB K ws F H S ρ σ Q R)(s:Ste F H S ρ A Y S1 X)(I:Rl K A Y S1 X σ){p:k0}(x:Y p=kf){vs:LV}{ts:LT}{W:fB}(r:Trs K A Y kd vs ts W)
  (fr:∀b,W b->H b=kf∨U ρ S b) (y:Held A Y S1 X W) (q:Q (UE ts) kd X):R (.ref p) (pA Y p (.tup vs)):=by
 unfold UE at q;cases e:VG ts with
 |some ds=>rw[e]at q;exact k.tupD s I x (r.un e).1 q|none =>
  rw[e]at q;have g:∀b,Y b≠kf->b≠p:=λb h z=>h (by rw[z];exact x);refine k _ A _ S1 X _ kd (λb=>b=p∨W b) (s.new x _) (I.new x _) #[.tup bA (I.fh.free x) (r.mono (.refl _) λb hb=>#[?_,(y.dom b hb).2]) (λz=>(y.dom p z).1 x) (λb=>wW),λ_ b hb=>?_,λz=>(by cases z),λ_ i f e b hb z=>?_] q;rw[jA (g b (y.dom b hb).1)];rcases hb with rfl|hb
  ·exact .inl (s.dm _ x)
  exact fr b hb;rcases hb with rfl|hb
  ·exact(I.dom e z).1 x
  exact y.nw i f e b hb z
theorem Ll{op:gV}(s:Ste F H S ρ A Y S1 X)(I:Rl K A Y S1 X σ)(Z:Tr K A Y C v a G)(r:Tr K A Y B w b E)(h:binT op a.vw b.vw λz n=>Q z n X)(k:bB K ws F H S ρ σ Q R):Kd K op v w Y R:=by
 have g:∀{i j:Int},a.vw=.sc (.int i)->b.vw=.sc (.int j)->v=.int i/\w=.int j:=λf e=>#[Z.int f,r.int e]
 cases op with
 |Add =>
  rcases h with⟨i,j,f,e,h⟩| ⟨x,y,f,e,h⟩| ⟨N,L,ds,es,f,e,e1,e2,hl,q⟩
  let#[rfl,rfl]:=g f e;exact k.d s I (.int _) h;obtain rfl:=Z.str f;obtain rfl:=r.str e;exact#[h.1,k.d s I (.str _) h.2];let#[p,O,_,rfl,hp,rp,_]:=Z.ls I.fh f;let#[p2,M,_,rfl,hq,P,_]:=r.ls I.fh e;have J:=(rp.un e1).1;have W:=(P.un e2).1;exact#[O,M,hp,hq,by rw[J.9,W.9];exact hl,λl hl=>k.listD s I hl (J.append W) q]
 |Sub=>let#[i,j,f,e,h]:=h;let#[rfl,rfl]:=g f e;exact k.d s I (.int _) h|Mult =>
  rcases h with⟨i,j,f,e,h⟩| ⟨x,y,f,e,h⟩
  let#[rfl,rfl]:=g f e;exact#[h.1,k.d s I (.int _) h.2];obtain rfl:=Z.str f;obtain rfl:=r.int e;exact#[h.1,k.d s I (.str _) h.2]
 |FloorDiv=>let#[i,j,f,e,h]:=h;let#[rfl,rfl]:=g f e;exact#[h.1,k.d s I (.int _) h.2]|Mod=>let#[i,j,f,e,h]:=h;let#[rfl,rfl]:=g f e;exact#[h.1,k.d s I (.int _) h.2]|_=>exact h.elim
theorem Df{x y:D}{r:Bool->Prop}(neg:Bool)(e:Rep K Y v x)(z:Rep K Y w y)(h:Jt x y λk=>r (if neg then !k else k))(k:∀c,r c->R (.bl c) Y):rEq K neg v w Y R:=by
 have n:ZD x/\ZD y/\r (if neg then !PyData.eqv x y else Qw x y)->(∃l f,Rep K Y v l/\Rep K Y w f/\ZD l/\ZD f/\R (.bl (if neg then !PyData.eqv l f else Qw l f)) Y):=λ#[Z,s,q] =>
  #[x,y,e,z,Z,s,k _ q]
 unfold Jt at h;split at h;cases e;cases z;exact k _ h;cases e;cases z;exact k _ h;cases e;cases z;exact k _ h;have g:=n h;rename_i n1 n2 n3;cases e with
 |int i =>
  cases z with|int j=>exact Uz rfl (n1 i j rfl)|_=>exact g
 |str i =>
  cases z with|str j=>exact Uz rfl (n2 i j rfl)|_=>exact g
 |bl i =>
  cases z with|bl j=>exact Uz rfl (n3 i j rfl)|_=>exact g
 |_=>exact g
theorem Y7{F:Hp}{v w:V}{a b:D}(x:Rep K F v a)(h:Rep K F w b)(z:TB a=kd)(y:TB b=kd):Nc v w=Qw a b:=by cases x<;>cases h<;>first|exact Uz (show kb=kd from z) QG|exact Uz (show kb=kd from y) QG | (simp only[Qw];rfl) | (simp only[Qw])
theorem lW{F:Hp}{v:V}{a:D}(h:Rep K F v a)(x:TB a=kd):uG v=true:=by cases h<;>first|rfl|exact Uz (show kb=kd from x) QG
theorem rT{F:Hp}(h:Reps K F vs ds)(f:ds.all TB=kd):vs.all uG=kd :=
 Reps.ind (R:=λvs ds=>ds.all TB=kd->vs.all uG=kd) (λ_=>rfl) (λh x f=>by rw[qb,Qb]at f ⊢;exact#[lW h f.1,x f.2]) h f
theorem MM{F:Hp}{v:V}{a:D}(x:Rep K F v a)(z:TB a=kd):∀{vs:LV}{ds:List D},Reps K F vs ds->ds.all TB=kd->inV v vs=ds.any λy=>Qw y a
 |_,_,.nil,_=>rfl|_,_,.cons h t,f=>by rw[qb,Qb]at f;have e:=MM x z t f.2;unfold inV at e ⊢;rw[WC,WC,Y7 h x f.1 z,e]
end
mutual
theorem lX{F:Hp}:∀{k:NK}{v:V},Rep K F v (tD k)->Zm K F k v
 | .s x,v,h=>by have h:Rep K F v (.str x):=h;cases h;rfl|.t ks,v,h=>by
  have h:Rep K F v (.tuple (tDs ks)):=h;cases h with|tup z y=>exact#[_,_,rfl,z,reps_key y]
theorem reps_key{F:Hp}:∀{ks:List NK}{vs:LV},Reps K F vs (tDs ks)->KyVs K F ks vs
 |[],vs,h=>by have h:Reps K F vs []:=h;cases h;rfl|k::ks,vs,h=>by
  have h:Reps K F vs (tD k::tDs ks):=h;cases h with|cons h t=>exact#[_,_,rfl,lX h,reps_key t]
end
section
variable{k x y:D}{o:HO}{ks ds:List D}{vs xs:LV}{u:Bool->Prop}{op:h7}{j:Bool->Hp->Prop}{n:String}{Y:fB}{ts:LT}
theorem YQ{F:Hp}{v:V}(hk:ED kd k)(r:Rep K F v k):∃q p,k=tD q/\v=.ref p/\vO K F p q:=by let#[q,rfl,h]:=hk;have r:=lX r;let#[p,_,rfl,_]:=id r;exact#[_,p,rfl,rfl,r,h]
theorem KG(q:NK):∀(kvs:List KE),AG kvs q=(fA (kvs.map λp=>tD p.1) (tD q)).bind λn=>(kvs.map (·.2.2))[n]?
 |[]=>rfl|p::r=>by rw[QU,QU];unfold fA;by_cases e:p.1=q;rw[UR e,t6 (by rw[e])];rfl;rw[BR e,t3 λz=>e (MU z),KG q r];cases fA (r.map λp=>tD p.1) (tD q)<;>rfl
theorem sJ(q:Key):∀(kvs:List (Key×V)),ZL kvs q=(fA (kvs.map λp=>kD p.1) (kD q)).bind λn=>(kvs.map (·.2))[n]?
 |[]=>rfl|p::r=>by rw[QU,QU];unfold fA;by_cases e:p.1=q;rw[JL e,t6 (by rw[e])];rfl;rw[YL e,t3 λz=>e (G6 z),sJ q r];cases fA (r.map λp=>kD p.1) (kD q)<;>rfl
theorem zK.get{a:k0}{b:Bool}(v:H1 a=kv o)(q:zK K H1 b o ks vs)(f:Rep K H1 w k)(hk:ED b k):nR K H1 a w ((fA ks k).bind λn=>vs[n]?):=by
 cases b with
 |true=>let#[e,h,rfl,rfl,rfl,i,_]:=q;let#[q,p,rfl,rfl,g]:=YQ hk f;exact#[e,h,q,v,i,g,(KG q h).symm]|false =>
  let#[z,rfl]:=hk;cases f;rcases q with⟨h,_,rfl,rfl,rfl,_⟩| ⟨e,rfl,rfl,rfl⟩
  exact .inl #[h,v,(sJ (.inr z) h).symm];exact .inr #[e,v,rfl]
theorem eT{b:Bool}(q:zK K H1 b o ks vs):((fA ks k).bind λn=>vs[n]?).isSome=(fA ks k).isSome:=by
 cases e:fA ks k with
 |none=>rfl|some n =>
  have z:=(Qf.mp (AC e)).1;have h:n<vs.length:=by rw[<- q.len];exact z
  simp[h]
theorem yW{b neg:Bool}{a:k0}(w:H1 a=kv o)(q:zK K H1 b o ks vs)(z:Rep K H1 v x)(hk:ED b x)(h:R (.bl (if neg then !(fA ks x).isSome else(fA ks x).isSome)) H1):bS K neg v (.ref a) H1 R :=
 .inr (.inr #[_,q.get w z hk,by rw[eT q];exact h])
theorem tf(neg:Bool)(z:Rep K H1 v x)(f:Rep K H1 w y)(h:ut x y λk=>u (if neg then !k else k))(k:∀c,u c->R (.bl c) H1):bS K neg v w H1 R:=by
 unfold ut at h;split at h;cases z;cases f;exact k _ h;rename_i ds;have e:=f;cases f with
 |lst p g =>
  rcases h.1 with⟨i,fs⟩| ⟨m,l⟩
  refine .inl #[_,_,rfl,.inl p,lW z i,rT g fs,?_];rw[MM z i g fs];exact k _ h.2;exact .inr (.inl #[_,ds,z,.inl e,m,l,k _ h.2])
 rename_i ds;have e:=f;cases f with
 |tup p g =>
  rcases h.1 with⟨i,fs⟩| ⟨m,l⟩
  refine .inl #[_,_,rfl,.inr p,lW z i,rT g fs,?_];rw[MM z i g fs];exact k _ h.2;exact .inr (.inl #[_,ds,z,.inr e,m,l,k _ h.2])
 let#[b,s,hk,q]:=h;cases f with
 |@dct X a o ks vs ds h dk r =>
  have hl:ks.9=ds.length:=by rw[dk.len,Reps.length r]
  rw[Ww (w4 hl)]at q;cases OX dk s;exact yW h dk z hk (k _ q)
 exact h.elim
theorem xV{g:Int->Int->Bool}(a:Rep K H1 v x)(z:Rep K H1 w y)(h:A4 g x y u)(k:∀c,u c->R (.bl c) H1):PY g v w H1 R:=by unfold A4 at h;split at h;cases a;cases z;exact k _ h;exact h.elim
theorem jF{z:Hp}:∀{vs:LV}{ns:LJ},Reps K z vs (ns.map j5)->vs=ns.map V.int
 |_,[],h=>by cases h;rfl|_,n::r,h=>by
  cases h with|cons a b=>cases a;exact ak (_::·) (jF b)
theorem Lq(e:Rep K H1 v x)(b:Rep K H1 w y)(h:Av x y u)(k:∀c,u c->R (.bl c) H1):Vi K v w H1 R:=by
 unfold Av at h;split at h;cases e;cases b;exact .inl (k _ h);let#[i,l,rfl,rfl,q]:=h;cases e with
 |tup a g =>
  cases b with|tup z f=>rw[jF g]at a;rw[jF f]at z;exact .inr #[_,_,i,l,rfl,rfl,a,z,k _ q]
 exact h.elim
theorem Rep.non_iff(h:Rep K H1 v x):decide (v=.non)=S6 x:=by cases h<;>rfl
theorem iW(a:Rep K H1 v x)(z:Rep K H1 w y)(h:SI op x y u)(k:∀c,u c->R (.bl c) H1):R7 K op v w H1 R:=by
 cases op with|Eq=>exact Df kb a z h k|NotEq=>exact Df kd a z h k|Lt=>exact xV a z h k|LtE=>exact xV a z h k|Gt=>exact xV a z h k|GtE=>exact Lq a z h k|In=>exact tf kb a z h k|NotIn=>exact tf kd a z h k|Is=>have b:UZ x y u:=h;unfold UZ at b;split at b;cases z;have e:=a.non_iff;show R (.bl (decide (v=.non))) H1;rw[e];exact k _ b;cases z;cases a;exact#[_,rfl,k _ b];exact b.elim|IsNot=>have b:UZ x y λk=>u (!k):=h;unfold UZ at b;split at b;cases z;have e:=a.non_iff;show R (.bl (!decide (v=.non))) H1;rw[e];exact k _ b;cases z;cases a;exact#[_,rfl,k _ b];exact b.elim
theorem Tc(f:Same F1 H1)(z:Rep K H1 v x)(a:Tr K F1 H1 sb w b Zb)(h:Ac op x b u)(k:∀c,u c->R (.bl c) H1):R7 K op v w H1 R:=by
 cases b with
 |d y=>exact iW z (a.rep f) h k|lst ts=>exact iW z (a.rep f) h k|tup ts=>exact iW z (a.rep f) h k|dct b ks ts =>
  let#[hk,h]:=h;cases a with
  |dct e dk _ _ _ _ =>
   rcases h with⟨rfl,q⟩| ⟨rfl,q⟩
   exact yW (neg:=kb) e (dk.mono f) z hk (k _ q);exact yW (neg:=kd) e (dk.mono f) z hk (k _ q)
theorem FI(r:Reps K F xs ds):(!ds.isEmpty)=!xs.isEmpty:=by cases r<;>rfl
theorem vX(z:Rep K H1 v x)(h:zI x u)(k:∀c,u c->j c H1):DF K v H1 j:=by
 unfold zI at h;split at h;cases z;exact k _ h;cases z;exact k _ h;cases z;exact k _ h;cases z;exact#[h.1,k _ h.2];cases z with|lst a w=>rw[FI w]at h;exact#[_,.inl #[_,a,rfl],k _ h]
 cases z with|tup a w=>rw[FI w]at h;exact#[_,.inr (.inl #[_,a,rfl]),k _ h]
 exact h.elim
theorem i8(z:Rep K H1 v x)(h:ym x u)(k:∀c,u c->j c H1):J8 v H1 j:=by unfold ym at h;split at h;cases z;exact k _ h;exact h.elim
theorem Dk(s:Ste F H S ρ F1 H1 S1 ρ1)(I:Rl K F1 H1 S1 ρ1 σ)(A:Tr K F1 H1 sa v a Za)(E:∀b,Za b->∃(i:Nat) (s:Sl),i∈ws/\ρ1[i]?=kv (kv s)/\S1 i b)(W:Tr K F1 H1 sb w b Zb)(h:HN a.vw b.vw λz=>Q z kb ρ1)(k:bB K ws F H S ρ σ Q R):uS K v w H1 R:=by
 rcases h with⟨z,i,c,m,l,g,f,q⟩| ⟨ts,i,d,m,l,g,q⟩| ⟨ts,i,d,m,l,g,q⟩
 obtain rfl:=A.str m;obtain rfl:=W.int l;exact#[g,c,f,k.d s I (.str _) q];let#[p,xs,G,rfl,C,X,B]:=A.ls I.fh m;obtain rfl:=W.int l;let#[x,Z,f,r,e]:=X.at g;exact#[xs,x,.inl C,f,k _ F1 H1 S1 ρ1 _ kb Z s I #[r,λz=>(by cases z),λ_ b hb=>E b (B b (e b hb)),λz=>(by cases z)] q];let#[p,xs,G,rfl,C,X,B]:=A.tp I.fh m;obtain rfl:=W.int l;let#[x,Z,f,r,e]:=X.at g;exact#[xs,x,.inr C,f,k _ F1 H1 S1 ρ1 _ kb Z s I #[r,λz=>(by cases z),λ_ b hb=>E b (B b (e b hb)),λz=>(by cases z)] q]
theorem xl(s:Ste F H S ρ F1 H1 S1 ρ1)(I:Rl K F1 H1 S1 ρ1 σ)(X:Tr K F1 H1 sa v a Za)(f:∀b,Za b->∃(i:Nat) (s:Sl),i∈ws/\ρ1[i]?=kv (kv s)/\S1 i b)(m:Rep K H1 w y)(h:YT a.vw y λz=>Q z kb ρ1)(k:bB K ws F H S ρ σ Q R):uS K v w H1 R:=by
 let#[b,ks,ts,n,d,G,hk,C,A,q]:=h;let#[p,o,vs,J,rfl,B,dk,l,W,_]:=X.dc I.fh G;let#[x,Z,E,r,e]:=l.get A;have g:=(dk.mono I.fh).get B m hk;rw[C]at g;have g:nR K H1 p w (vs[n]?):=g;rw[E]at g;have fin:=k _ F1 H1 S1 ρ1 _ kb Z s I #[r,λz=>(by cases z),λ_ b hb=>f b (W b (e b hb)),λz=>(by cases z)] q;cases w with|str z=>exact#[x,g,fin]|ref c=>exact#[x,g,fin]|_=>exact g.elim
theorem Reps.cut(r:Reps K F xs ds)(h z:Option Int):Reps K F (ON xs h z) (mD ds h z):=by unfold ON mD;rw[r.9];exact(r.drop _).take _
theorem zi{i m:Option Int}(s:Ste F H S ρ F1 H1 S1 ρ1)(I:Rl K F1 H1 S1 ρ1 σ)(f:Tr K F1 H1 sa v a Za)(h:EG a.vw i m λz n=>Q z n ρ1)(k:bB K ws F H S ρ σ Q R):jt K v i m H1 R:=by
 rcases h with⟨z,w,h⟩| ⟨ts,ds,w,e,q⟩| ⟨ts,ds,w,e,n,q⟩
 obtain rfl:=f.str w;exact#[h.1,k.d s I (.str _) h.2];let#[p,xs,_,rfl,g,b,_]:=f.ls I.fh w;exact .inl #[p,xs,rfl,g,λl hl=>k.listD s I hl ((b.un e).1.cut _ _) q];let#[p,xs,_,rfl,g,b,_]:=f.tp I.fh w;refine .inr #[p,xs,rfl,g,by rw[(b.un e).1.length];exact n,λl hl=>k.tupD s I hl ((b.un e).1.cut _ _) q]
theorem Na{P:Option Int->Prop}{z:Option Int->Hp->Prop}(w:Rep K H1 v x)(h:RF x P)(k:∀o,P o->z o H1):dM v H1 z:=by unfold RF at h;split at h;cases w;exact k _ h;exact h.elim
noncomputable def Ts:D->kn
 | .none=>.type "NoneType"|.bool _=>.type "bool"|.int _=>.type "int"|.str _=>.type "str"|.list _=>.type "list"|.tuple _=>.type "tuple"|.dict _=>.type "dict"
theorem Rep.ty(a:Rep K H1 v x):TyOf K H1 v (Ts x)∨Sx K H1 v (Ts x):=by
 cases a with
 |non=>exact .inl .non|bl b=>exact .inl (.bl _)|int b=>exact .inl (.int _)|str b=>exact .inl (.str _)|lst h w=>exact .inr (.inl #[_,_,rfl,h,rfl])|tup h w=>exact .inr (.inr #[_,_,rfl,h,rfl])|@dct b _ _ _ _ _ h q _ =>
  cases b with
  |true=>let#[e,z,rfl,_]:=q;exact .inl (.dT h)|false =>
   rcases q with⟨z,_,rfl,_⟩| ⟨e,rfl,_⟩
   exact .inl (.dK h);exact .inl (.dT h)
theorem nk{k:Bool}(h:isD n x=kv k)(z:DO n=kd):QBN K (Ts x) (.type n)=kv k:=by simp only[DO,wc,beq_iff_eq]at z;rcases z with((((rfl|rfl)|rfl)|rfl)|rfl)|rfl<;>cases x<;>simp[isD]at h<;>subst h<;>rfl
theorem Bk{k:Bool}(z:Rep K H1 v x)(h:isD n x=kv k)(w:DO n=kd)(q:R (.bl k) H1):Ki K [v,.ty n] H1 R :=
 #[Ts x,.type n,k,z.ty,rfl,nk h w,q]
inductive Tn(K:QA)(F H:Hp)(Y:fB):LV->LT->Prop where
 |nil:Tn K F H Y [] []
 |cons {v:V}{t:T}{vs:LV}{ts:LT}{Z:fB}:Tr K F H kb v t Z->(∀b,Z b->Y b)->Tn K F H Y vs ts->Tn K F H Y (v::vs) (t::ts)
theorem rJ(ts:LT):∀{xs:List (T×Bool)},MN xs=ts->CB xs=ts.map T.vw
 |[],h=>by subst h;rfl|p::r,h=>by subst h;simp only[CB,MN,QU,rJ _ rfl]
theorem Tn.one{x:Vw}(h:Tn K F H Y vs ts)(e:ts.map T.vw=[x]):∃v t Z,vs=[v]/\ts=[t]/\t.vw=x/\Tr K F H kb v t Z/\∀b,Z b->Y b:=by
 cases h with
 |nil=>cases e|cons r z t =>
  simp only[QU,QAF]at e;cases t with|nil=>exact#[_,_,_,rfl,rfl,e.1,r,z]|cons _ _ _=>simp at e
theorem YJ:∀{xs:LV}{z:LS},Reps K F xs (z.map j3)->xs=z.map V.str
 |_,[],.nil=>rfl|_,y::z,.cons h t=>by cases h;rw[QU,YJ t]
theorem dO:∀(h:LS),Reps K F (h.map V.str) (h.map j3)
 |[]=>.nil|y::h=>.cons (.str y) (dO h)
theorem vT:∀{xs:LV}{z:LJ},Reps K F xs (z.map j5)->xs=z.map V.int
 |_,[],.nil=>rfl|_,y::z,.cons h t=>by cases h;rw[QU,vT t]
theorem GO:∀(h:LJ),Reps K F (h.map V.int) (h.map j5)
 |[]=>.nil|y::h=>.cons (.int y) (GO h)
theorem MY{α:Type}{g:α->D}{w:LV}(W:xs.Perm w):∀{l:List α},Reps K F xs (l.map g)->∃z:List α,z.Perm l/\Reps K F w (z.map g):=by
 induction W with
 |nil=>intro l r;exact#[l,QBQ _,r]|cons x _ s =>
  intro l r;cases l with
  |nil=>cases r|cons a l=>cases r with|cons h t=>let#[z,p,v]:=s t;exact#[a::z,p.cons _,.cons h v]
 |swap x y C =>
  intro l r;cases l with
  |nil=>cases r|cons a l=>cases l with
   |nil=>cases r with|cons h t=>cases t
   |cons b l=>cases r with
    |cons h t=>cases t with|cons A t=>exact#[b::a::l,QCi.swap _ _ _,.cons A (.cons h t)]
 |trans _ _ Z X=>intro l r;let#[B,m,f]:=Z r;let#[q,i,e]:=X f;exact#[q,i.trans m,e]
theorem AU{ls:List (LS)}(h:Reps K F xs (ls.map ID)):∀x∈xs,∃a,∃v:LS,x=.ref a/\jC K F a (v.map V.str):=by
 induction ls generalizing xs with
 |nil=>cases h;exact λ_ z=>nomatch z
 |cons l ls w =>
  cases h with
  |cons r t =>
   intro x h;rcases QM.mp h with e|h;subst e;cases r with|lst q r=>exact#[_,l,rfl,by rw[<- YJ r];exact q]
   exact w t x h
theorem Il{L:Bi}(s:Ste F H S ρ F1 H1 S1 ρ1)(I:Rl K F1 H1 S1 ρ1 σ)(g:Tn K F1 H1 Y vs ts)(h:GW L (ts.map T.vw) λz n=>Q z n ρ1)(k:bB K ws F H S ρ σ Q R):Gr K L vs H1 R:=by
 cases L with
 |len =>
  rcases h with⟨z,e,h⟩| ⟨m,e,h⟩| ⟨m,e,h⟩
  let#[v,t,Z,rfl,rfl,e,r,_]:=g.one e;obtain rfl:=r.str e;exact .inl #[_,rfl,h.1,k.d s I (.int _) h.2];let#[v,t,Z,rfl,rfl,e,r,_]:=g.one e;let#[p,xs,_,rfl,w,f,_]:=r.ls I.fh e;exact .inr #[_,xs,rfl,.inl w,by rw[f.9];exact k.d s I (.int _) h];let#[v,t,Z,rfl,rfl,e,r,_]:=g.one e;let#[p,xs,_,rfl,w,f,_]:=r.tp I.fh e;exact .inr #[_,xs,rfl,.inr w,by rw[f.9];exact k.d s I (.int _) h]
 |all=>let#[m,bs,e,hb,q]:=h;let#[v,t,Z,rfl,rfl,e,r,_]:=g.one e;let#[p,xs,_,rfl,w,f,_]:=r.ls I.fh e;obtain rfl:=(f.un hb).1.bools;exact#[bs,w,k.d s I (.bl _) q]|any=>let#[m,bs,e,hb,q]:=h;let#[v,t,Z,rfl,rfl,e,r,_]:=g.one e;let#[p,xs,_,rfl,w,f,_]:=r.ls I.fh e;obtain rfl:=(f.un hb).1.bools;exact#[bs,w,k.d s I (.bl _) q]|list =>
  let#[x,m,ds,e,B,hb,q]:=h;let#[v,t,Z,rfl,rfl,e,r,_]:=g.one e;cases x with|ls m=>cases B;let#[p,xs,_,rfl,w,f,_]:=r.ls I.fh e;exact#[_,xs,rfl,.inl w,λl hl=>k.listD s I hl (f.un hb).1 q]|tp m=>cases B;let#[p,xs,_,rfl,w,f,_]:=r.tp I.fh e;exact#[_,xs,rfl,.inr w,λl hl=>k.listD s I hl (f.un hb).1 q]|_=>cases B
 |sorted =>
  rcases h with⟨m,C,e,hb,i,q⟩| ⟨m,ls,e,hb,i,q⟩| ⟨m,N,e,hb,i,q⟩
  let#[v,t,Z,rfl,rfl,e,r,_]:=g.one e;let#[p,xs,_,rfl,w,f,_]:=r.ls I.fh e;obtain rfl:=YJ (f.un hb).1;exact#[_,rfl,.inl #[C,w,i,λl X hl W G=>k.listD s I hl (dO X) (q X W G)]];let#[v,t,Z,rfl,rfl,e,r,_]:=g.one e;let#[p,xs,_,rfl,w,f,_]:=r.ls I.fh e;have E:=(f.un hb).1;refine#[_,rfl,.inr (.inl #[xs,w,by rw[Reps.length E,QE];exact i,λx B=>?_,λl O hl w=>?_])];let#[a,C,e,sq]:=AU E x B;exact#[a,C,e,I.fh.seq sq];let#[J,W,M]:=MY w.symm E;exact k.listD s I hl M (q J W);let#[v,t,Z,rfl,rfl,e,r,_]:=g.one e;let#[p,xs,_,rfl,w,f,_]:=r.ls I.fh e;obtain rfl:=vT (f.un hb).1;exact#[_,rfl,.inr (.inr #[N,w,i,λl A hl W G=>k.listD s I hl (GO A) (q A W G)])]
 |tuple=>let#[m,ds,e,hb,q]:=h;let#[v,t,Z,rfl,rfl,e,r,_]:=g.one e;let#[p,xs,_,rfl,w,f,_]:=r.ls I.fh e;exact#[_,xs,rfl,w,λl hl=>k.tupD s I hl (f.un hb).1 q]|int=>let#[b,e,q]:=h;let#[v,t,Z,rfl,rfl,e,r,_]:=g.one e;obtain rfl:=r.bool e;exact#[b,rfl,k.d s I (.int _) q]
theorem Nj{m:Mt}(s:Ste F H S ρ F1 H1 S1 ρ1)(I:Rl K F1 H1 S1 ρ1 σ)(w:Tr K F1 H1 sa v a Za)(b:Tn K F1 H1 Y vs ts)(h:pv m a.vw (ts.map T.vw) λz n=>Q z n ρ1)(k:bB K ws F H S ρ σ Q R):Ab K m v vs H1 R:=by
 cases m with|_=>exact h.elim
theorem Yq{x:Vw}(h:x.isS=kd):∃z,x=.sc (.str z):=by
 cases x with
 |sc d=>cases d with|str z=>exact#[z,rfl]|_=>exact(QG h).elim
 |_=>exact(QG h).elim
theorem vq{m:Mt}(w:Tr K F1 H1 sa v a Za)(h:Tb m a.vw=kd):BU K m.ty v H1:=by
 have h:=zA h;let#[z,b]:=Yq h.1;obtain rfl:=w.str b;cases m with|_=>exact(QG h.2).elim
end
end
inductive AV(K:QA)(F H:Hp):List Md->LV->List (T×Bool)->(k0->Prop)->(k0->Prop)->Prop where
 |nil {md:List Md}{W Y:fB}:(∀b,¬ W b)->AV K F H md [] [] W Y
 |chg {md:List Md}{v:V}{vs:LV}{x:T}{xs:List (T×Bool)}{W Y:fB}:(md.headD .fro).isMut=kd->AV K F H md.tail vs xs W Y->AV K F H md (v::vs) ((x,kd)::xs) W Y
 |new {md:List Md}{v:V}{vs:LV}{x:T}{xs:List (T×Bool)}{Z W W' Y:fB}:(md.headD .fro).isMut=kb->Tr K F H kd v x Z->AV K F H md.tail vs xs W' Y->(∀b,Z b->¬ W' b)->(∀b,W b↔Z b∨W' b) ->
   AV K F H md (v::vs) ((x,kd)::xs) W Y
 |tmp {md:List Md}{v:V}{vs:LV}{x:T}{xs:List (T×Bool)}{Z W Y:fB}:(md.headD .fro).isMut=kb->Tr K F H kb v x Z->(∀b,Z b->Y b)->AV K F H md.tail vs xs W Y ->
   AV K F H md (v::vs) ((x,kb)::xs) W Y
section
variable{K:QA}{F H o l:Hp}{S S1:Ft}{ρ g:kA}{σ:St}
section
variable{Y W:fB}{md:List Md}{vs:LV}{xs:List (T×Bool)}{ws:LN}{c:Hp}{w:Ft}{y:kA}
theorem AV.sub{u:fB}(h:AV K F H md vs xs W Y)(k:∀b,Y b->u b):AV K F H md vs xs W u:=by
 induction h with|nil h=>exact .nil h|chg h t x=>exact .chg h (x k)|new h r t n q x=>exact .new h r (x k) n q|tmp h r z t x=>exact .tmp h r (λb hb=>k b (z b hb)) (x k)
theorem AV.dom(h:AV K F H md vs xs W Y):∀b,W b->H b≠kf/\F b=none:=by
 induction h with|nil h=>exact λb hb=>Uz hb (h b)|chg h t x=>exact x|new h r t n q x=>exact λb hb=>((q b).mp hb).elim (r.dom b) (x b)|tmp h r z t x=>exact x
theorem AV.length(h:AV K F H md vs xs W Y):vs.9=xs.length:=by
 induction h with|nil h=>rfl|chg h t x=>simp[x]|new h r t n q x=>simp[x]|tmp h r z t x=>simp[x]
theorem AV.trs(h:AV K F H md vs xs W Y):(∀(i:Nat),(md.getD i .fro).isMut=kb)->HE xs=kd->Trs K F H kd vs (BF xs) W:=by
 induction h with
 |nil h=>exact λ_ _=>.nil h|@chg md _ _ _ _ _ _ h t u =>
  intro m;have:=m 0;cases md with|nil=>cases h|cons a r=>exact Uz h (by simpa using this)
 |@new md v vs x xs Z W k Y h r t n q u =>
  intro m e;simp only[HE,Qb]at e;exact .cons r (u (λi=>by cases md with|nil=>exact m i|cons a md=>exact m (i+1)) e.2) n q
 |@tmp md v vs x xs Z W Y h r z t u =>
  intro m e;simp only[HE,Qb]at e;refine .cons (S1:=λ_=>False) ?_ (u (λi=>by cases md with|nil=>exact m i|cons a md=>exact m (i+1)) e.2) (λ_ z=>z.elim) λb=>by simp
  cases x with
  |d x=>cases r with|d r n=>exact .d r λ_ z=>z
  |_=>exact Uz e.1 (by simp[DH,T.isD])
theorem Fj(i:Nat):((([]:List Md).getD i .fro).isMut)=false:=rfl
theorem AV.tn(h:AV K F H md vs xs W Y)(e:Same F o)(k:∀b,W b->o b=H b)(f:∀b,Y b->F b=kf->o b=kf)(i:md=[]):Tn K o H Y vs (MN xs):=by
 induction h with|nil h=>exact .nil|chg h t a=>subst i;cases h|@new md v vs x xs Z W m Y h r t n q a=>subst i;refine .cons (Z:=λ_=>False) ?_ (λb z=>z.elim) (a (λb hb=>k b ((q b).mpr (.inr hb))) f rfl);exact .d (r.kept e λb u hb j=>by rw[k b ((q b).mpr (.inl hb))];exact j) λ_ z=>z|@tmp md v vs x xs Z W Y h r z t a=>subst i;exact .cons (r.mono e λb hb=>#[rfl,f b (z b hb) (r.dom b hb).2]) z (a k f rfl)
structure AR(K:QA)(ws:LN)(md:List Md)(c:Hp)(w:Ft)(y:kA)(F H:Hp)(S:Ft)(ρ:kA)(vs:LV)(xs:List (T×Bool))(W Y:fB):Prop where
 av:AV K F H md vs xs W Y
 fr:∀b,W b->c b=kf∨U y w b
 tm:∀b,Y b->∃(i:Nat) (s:Sl),i∈ws/\ρ[i]?=kv (kv s)/\S i b
 nw:∀(i:Nat) s,ρ[i]?=kv (kv s)->∀b,W b->¬ S i b
theorem AR.held(h:AR K ws md c w y F H S ρ vs xs W Y):Held F H S ρ W:=#[h.av.dom,h.nw]
theorem AR.from{u z:Hp}{S2:Ft}{x:kA}(s:Stp F H S ρ o l S1 g)(h:AR K ws md l S1 g u z S2 x vs xs W Y):AR K ws md H S ρ u z S2 x vs xs W Y :=
 #[h.av,λb hb=>by rcases h.fr b hb with q|q;exact .inl (s.dm b q);exact(s.uu b q).symm,h.tm,h.nw]
theorem AR.vars{us:LN}(h:AR K ws md c w y F H S ρ vs xs W Y)(k:∀i∈ws,i∈us):AR K us md c w y F H S ρ vs xs W Y :=
 #[h.av,h.fr,λb hb=>let#[i,s,z,x]:=h.tm b hb;#[i,s,k i z,x],h.nw]
theorem AR.frz{ws:LN}{vs:LV}{xs:List (T×Bool)}{W Y:fB}(s:Ste F H S ρ o l S1 g)(I:Rl K o l S1 g σ)(h:AR K ws [] H S ρ o l S1 g vs xs W Y) :
  ∃v,Ste F H S ρ v l S1 g/\Rl K v l S1 g σ/\Tn K v l Y vs (MN xs) /\
   ∀st k t' u,Tr K o l st k t' u->(∀b,u b->∃(i:Nat) (s:Sl),g[i]?=kv (kv s)/\S1 i b)->Tr K v l st k t' u:=by
 have x:=h.held;have f:=HC (H:=l) λb hb=>(x.dom b hb).2;refine#[cF o l W,s.frz (λb hb=>(x.dom b hb).2) h.fr,I.frz x,h.av.tn f (λb hb=>cE hb) (λb m n=>?_) rfl,λst k t' u r j=>r.mono f λb hb=>#[rfl,?_]];let#[i,a,_,e,p]:=h.tm b m;rw[iB λz=>h.nw i a e b z p];exact n;let#[i,a,q,e]:=j b hb;rw[iB λz=>x.nw i a q b z e];exact(r.dom b hb).2
noncomputable def aB:List Md->LV->LV
 |_,[]=>[]|md,v::vs=>match md.headD .fro with
  | .chg=>v::aB md.tail vs|_=>aB md.tail vs
noncomputable abbrev Vs(K:QA)(p:PX)(md:List Md)(F H:Hp)(S:Ft)(ρ:kA)(σ:St)(Q:List (T×Bool)->kA->Prop)(R:LV->Hp->Prop):Prop :=
 ∀vs u x z h xs W Y,Ste F H S ρ u x z h->Rl K u x z h σ->AR K (SG p) md H S ρ u x z h vs xs W Y->(aB md vs).map (λv=>kv (kv v))=(cA md p).map (λj=>σ[j]?)->Q xs h->R vs x
def Mr(K:QA)(F H:Hp)(x:XD)(h:Option k0):Prop:=∃a fs,h=kv a/\H a=kv (.xd fs)/\y0 (λ(p:Str×V) (q:Str×D)=>p.1=q.1/\Rep K F p.2 q.2) fs x.2
def aE(K:QA)(F H:Hp)(S:Ft)(ρ:kA)(E:XE)(a:XK):Prop:=∀x v u h k z,Stp F H S ρ u h k z->Same u h->Mr K u h x v->E x->a x.1 v h
theorem aE.from{E:XE}{u:XK}(h:aE K F H S ρ E u)(s:Stp F H S ρ o l S1 g):aE K o l S1 g E u:=λx k e b a z v f r q=>h x k e b a z (s.trans v) f r q
theorem aE.never:aE K F H S ρ (λ_=>False) (λ_ _ _=>False):=λ_ _ _ _ _ _ _ _ _ z=>z
inductive ArgsR(K:QA)(F H:Hp)(Y:fB):List Md->LV->LT->Prop where
 |nil {md:List Md}:ArgsR K F H Y md [] []
 |chg {md:List Md}{v:V}{vs:LV}{t:T}{ts:LT}:md.headD .fro=.chg->ArgsR K F H Y md.tail vs ts->ArgsR K F H Y md (v::vs) (t::ts)
 |rd {md:List Md}{v:V}{vs:LV}{t:T}{ts:LT}{Z:fB}:md.headD .fro≠.chg->Tr K F H kb v t Z->(∀b,Z b->Y b)->ArgsR K F H Y md.tail vs ts->ArgsR K F H Y md (v::vs) (t::ts)
structure Frm(M:fB)(F H F' H':Hp):Prop where
 ff:Same F F'
 fh:Same F' H'
 hh:∀b u,H b=kv u->¬ M b->H' b=kv u
 dm:∀b,H' b=kf->H b=kf
 fn:∀b,F b=kf->F' b≠kf->M b∨H b=kf
def lift(K:QA)(P:PSp):Sp:=λvs H Q E=>∃(F:Hp) (u:LT) (M Y:fB),Same F H/\ArgsR K F H Y P.md vs u/\Trs K F H kd (aB P.md vs) (LB P.md u) M/\(∀b,Y b->¬ M b) /\
 P.run u (λr e=>∀v z h Z k,Frm M F H z h->Tr K z h kd v r Z->Trs K z h kd (aB P.md vs) e k->(∀b,Z b->¬ k b)->(∀b,Z b∨k b->M b∨H b=kf)->Q v h)
  (λx=>∀a z h,Frm M F H z h->Mr K z h x a->E x.1 a h)
structure GOk(K:QA)(Γ:Ev)(Ψ:PEv):Prop where
 sp:∀f vs H Q E,lift K (Ψ.sp f) vs H Q E->Γ.sp f vs H Q E
 va:∀x d,Ψ.va x=kv d->∀F,Rep K F (Γ.va x) d
structure PSnd(K:QA)(Γ:Ev)(Ψ:PEv)(p:PX):Prop where
 e:∀{E:XE}{EK:XK}{F H:Hp}{S:Ft}{ρ:kA}{σ:St}{Q:TK}{R:VK},Rl K F H S ρ σ->aE K F H S ρ E EK->(pe Ψ p E).e ρ Q->bB K (SG p) F H S ρ σ Q R->(wp K Γ p EK).e σ H R
 t:∀{E:XE}{EK:XK}{F H:Hp}{S:Ft}{ρ:kA}{σ:St}{Q:Bool->kA->Prop}{R:Bool->Hp->Prop},Rl K F H S ρ σ->aE K F H S ρ E EK->(pe Ψ p E).t ρ Q->mH K F H S ρ σ Q R->(wp K Γ p EK).t σ H R
 a:∀{E:XE}{EK:XK}{F H:Hp}{S:Ft}{ρ:kA}{σ:St}{md:List Md}{Q:List (T×Bool)->kA->Prop}{R:LV->Hp->Prop},Rl K F H S ρ σ->aE K F H S ρ E EK->(∀j∈cA md p,∃v,σ[j]?=kv (kv v))->(pe Ψ p E).a md ρ Q->Vs K p md F H S ρ σ Q R->(wp K Γ p EK).a σ H R
end
end
section
variable{K:QA}{Γ:Ev}{Ψ:PEv}{E:XE}{c:XK}{F H A U:Hp}{S S1:Ft}{ρ o:kA}{σ:St}
section
variable{b a u:PX}{RR:LV->Hp->Prop}{P:List (T×Bool)->kA->Prop}{Y Z:fB}{t:T}{st:Bool}{ts:LT}{v:V}
theorem Fo(M:PSnd K Γ Ψ b)(I:Rl K F H S ρ σ)(X:aE K F H S ρ E c){x:T}{P:T×Bool->kA->Prop}{RR:VK}(h:sq x ρ (cu (pe Ψ b E).e) P)
  (L:∀w F' g S' k y m Z,Ste F H S ρ F' g S' k->Rl K F' g S' k σ->(∀st v l,Tr K F H st v x l->Tr K F' g st v x l)->(x.isD=kb->k=ρ/\S'=S)->VR K (SG b) H S ρ F' g S' k w y m Z->P (y,m) k->RR w g) :
  (wp K Γ b c).e σ H RR:=by
 unfold sq at h;cases p:x.isD with
 |true =>
  rw[p,t6 rfl]at h;refine M.e I X h λw F' g S' k y m Z s B r q=>L w F' g S' k y m Z s B (λst v l W=>?_) (λz=>(by rw[p]at z;cases z)) r q;cases x with
  |d x=>cases W with|d r n=>exact .d (r.mono s.ff) n
  |_=>cases p
 |false =>
  rw[p,t3 (by simp)]at h;have X':aE K F H S (lockA ρ) E c:=λx dx F2 H2 S2 N O f r q=>X x dx F2 H2 S ρ O.unlockA f r q;refine M.e I.lockA X' h λw F' g S' k y m Z s B r q=>?_;have R:∀st v t l,Tr K F H st v t l->Tr K F' g st v t l:=λst v t l W=>s.keep W λb _=>FC b;refine L w F' g S ρ y m Z #[s.unlockA,λj t h=>#[t,h]] (I.unlockA s.toStp B.fh) (λst v l W=>R st v _ l W) (λ_=>#[rfl,rfl]) #[r.tr,λe b hb=>?_,λe b hb=>?_,λe i J hi b hb z=>?_] q;exact .inl ((r.fr e b hb).elim id λz=>Uz z (FC b));let#[i,J,h1,G,C]:=r.tm e b hb;cases J with
  |own t=>let#[t0,h0]:=s.ow i t G;let#[_,_,e0]:=zB h0;cases e0|bor t =>
   cases p:t.isD with|true=>exact Uz C (B.isD G p)|false=>let#[g1,g2]:=s.bo i t G p;let#[Q,g3,_]:=zB g1;rw[g2]at C;exact#[i,Q,h1,g3,C]
  rcases r.fr e b hb with q|q
  ·exact(I.dom hi z).1 q
  exact Uz q (FC b)
theorem Go{md:List Md}(N:PSnd K Γ Ψ b)(I:Rl K F H S ρ σ)(X:aE K F H S ρ E c)(O:∀j∈cA md b,∃v,σ[j]?=kv (kv v)){x:T}(h:sq x ρ ((pe Ψ b E).a md) P)
  (M:∀ws F' e S' k J W Y,Ste F H S ρ F' e S' k->Rl K F' e S' k σ->(∀st v g,Tr K F H st v x g->Tr K F' e st v x g)->(x.isD=kb->k=ρ/\S'=S)->AR K (SG b) md H S ρ F' e S' k ws J W Y->(aB md ws).map (λv=>kv (kv v))=(cA md b).map (λj=>σ[j]?)->P J k->RR ws e) :
  (wp K Γ b c).a σ H RR:=by
 unfold sq at h;cases l:x.isD with
 |true =>
  rw[l,t6 rfl]at h;refine N.a I X O h λw F' e S' k y W Y s p r B q=>M w F' e S' k y W Y s p (λst v g m=>?_) (λz=>(by rw[l]at z;cases z)) r B q;cases x with
  |d x=>cases m with|d r n=>exact .d (r.mono s.ff) n
  |_=>cases l
 |false =>
  rw[l,t3 (by simp)]at h;have X':aE K F H S (lockA ρ) E c:=λx dx F2 H2 S2 Q R f r q=>X x dx F2 H2 S ρ R.unlockA f r q;refine N.a I.lockA X' O h λw F' e S' k y W Y s p r B q=>?_;have kp:∀st v t g,Tr K F H st v t g->Tr K F' e st v t g:=λst v t g m=>s.keep m λb _=>FC b;refine M w F' e S ρ y W Y #[s.unlockA,λj t h=>#[t,h]] (I.unlockA s.toStp p.fh) (λst v g m=>kp st v _ g m) (λ_=>#[rfl,rfl]) #[r.av,λb hb=>?_,λb hb=>?_,λi L hi b hb z=>?_] B q;exact .inl ((r.fr b hb).elim id λz=>Uz z (FC b));let#[i,L,h1,G,C]:=r.tm b hb;cases L with
  |own t=>let#[t0,h0]:=s.ow i t G;let#[_,_,e0]:=zB h0;cases e0|bor t =>
   cases l:t.isD with|true=>exact Uz C (p.isD G l)|false=>let#[g1,g2]:=s.bo i t G l;let#[s0,g3,_]:=zB g1;rw[g2]at C;exact#[i,s0,h1,g3,C]
  rcases r.fr b hb with q|q
  ·exact(I.dom hi z).1 q
  exact Uz q (FC b)
theorem KF(j:PSnd K Γ Ψ a)(I:Rl K F H S ρ σ)(X:aE K F H S ρ E c){P:TK}{RR:VK}(h:(pe Ψ a E).e ρ P)
  (g:∀v F' z S' y x n Z,Ste F H S ρ F' z S' y->Rl K F' z S' y σ->aE K F' z S' y E c->Tr K F' z kb v (lA x n) Z->(DH x n=kd->Rep K F' v x.er)->(∀b,Z b->∃(i:Nat) (s:Sl),i∈SG a/\y[i]?=kv (kv s)/\S' i b)->P x n y->RR v z) :
  (wp K Γ a c).e σ H RR:=by
 refine j.e I X h λv F' z S' y x n Z s W r q=>?_;let#[B,m,w,p,f,l,k,_]:=r.frz s W;exact g v B z S' y x n m w p (X.from w.toStp) f l k q
theorem U2(ia:PSnd K Γ Ψ a)(ib:PSnd K Γ Ψ b)(I:Rl K F H S ρ σ)(X:aE K F H S ρ E c){P:T->Bool->T->Bool->kA->Prop}{RR:V->V->Hp->Prop}
  (h:(pe Ψ a E).e ρ λx n o=>sq (lA x n) o (cu (pe Ψ b E).e) λy k=>P x n y.1 y.2 k)
  (kk:∀v w F' f S' z x n y m j Zb,Ste F H S ρ F' f S' z->Rl K F' f S' z σ->aE K F' f S' z E c->Tr K F' f kb v (lA x n) j->(∀b,j b->∃(i:Nat) (s:Sl),i∈SG a/\z[i]?=kv (kv s)/\S' i b)->Tr K F' f kb w (lA y m) Zb ->
   P x n y m z->RR v w f):(wp K Γ a c).e σ H λv U=>(wp K Γ b c).e σ U λw q=>RR v w q:=by
 refine KF ia I X h λv A U S1 o x n j L I1 X1 l _ C Q=>?_;refine Fo ib I1 X1 Q λw F2 q B k y m Z J I2 R hs N O=>?_;let#[F3,Z3,G,I3,M,_,_,k3]:=N.frz J I2;have W:∀b,j b->∃(i:Nat) (s:Sl),i∈SG a/\k[i]?=kv (kv s)/\B i b:=by
  cases p:(lA x n).isD with
  |true =>
   intro b hb;exfalso;generalize lA x n=t at l p;cases l with|d r n=>exact n b hb|_=>cases p
  |false=>let#[e1,e2]:=hs p;rw[e1,e2];exact C
 have g:=L.trans G;exact kk v w F3 q B k x n y m j Z3 g I3 (X.from g.toStp) (k3 _ _ _ _ (R _ _ _ l) λb hb=>let#[i,s,_,h2]:=W b hb;#[i,s,h2]) W M O
theorem uR(k:PSnd K Γ Ψ u)(I:Rl K F H S ρ σ)(X:aE K F H S ρ E c)(h:(pe Ψ u E).a [] ρ P)
  (w:∀vs F' y S' x xs Y,Ste F H S ρ F' y S' x->Rl K F' y S' x σ->aE K F' y S' x E c->Tn K F' y Y vs (MN xs)->(∀b,Y b->∃(i:Nat) (s:Sl),i∈SG u/\x[i]?=kv (kv s)/\S' i b)->P xs x->RR vs y):(wp K Γ u c).a σ H RR:=by
 refine k.a (md:=[]) I X (λj e=>by cases u<;>cases e) h λvs F' y S' x xs W Y s g r _ q=>?_;let#[l,z,f,t,_]:=r.frz s g;exact w vs l y S' x xs Y z f (X.from z.toStp) t r.tm q
theorem xo(ia:PSnd K Γ Ψ a)(ib:PSnd K Γ Ψ u)(I:Rl K F H S ρ σ)(X:aE K F H S ρ E c){P1:T->Bool->Prop}{P:T->Bool->List (T×Bool)->kA->Prop}{R1:V->Hp->Prop}{RR:V->LV->Hp->Prop}
  (h:(pe Ψ a E).e ρ λx n o=>P1 x n/\sq (lA x n) o ((pe Ψ u E).a []) λxs z=>P x n xs z)
  (k1:∀v F' w x n k,Tr K F' w kb v (lA x n) k->P1 x n->R1 v w)
  (R:∀v vs F' w S' y x n xs k Y,Ste F H S ρ F' w S' y->Rl K F' w S' y σ->aE K F' w S' y E c->Tr K F' w kb v (lA x n) k->(∀b,k b->∃(i:Nat) (s:Sl),i∈SG a/\y[i]?=kv (kv s)/\S' i b)->Tn K F' w Y vs (MN xs) ->
   P x n xs y->RR v vs w):(wp K Γ a c).e σ H λv U=>R1 v U/\(wp K Γ u c).a σ U λvs m=>RR v vs m:=by
 refine KF ia I X h λv A U S1 o x n k J I1 X1 g _ B #[O,N]=>#[k1 v A U x n k g O,?_]
 refine Go ib I1 X1 (λj hj=>by cases u<;>cases hj) N λvs F2 m q z xs W Y G I2 Q hs L _ M=>?_;let#[F3,C,I3,tn,k3]:=L.frz G I2;have p:∀b,k b->∃(i:Nat) (s:Sl),i∈SG a/\z[i]?=kv (kv s)/\q i b:=by
  cases l:(lA x n).isD with
  |true =>
   intro b hb;exfalso;generalize lA x n=t at g l;cases g with|d r n=>exact n b hb|_=>cases l
  |false=>let#[e1,e2]:=hs l;rw[e1,e2];exact B
 have f:=J.trans C;exact R v vs F3 m q z x n xs k Y f I3 (X.from f.toStp) (k3 _ _ _ _ (Q _ _ _ g) λb hb=>let#[i,s,_,h2]:=p b hb;#[i,s,h2]) p tn M
def iY(K:QA)(F H:Hp)(Y:fB):Item->T->Prop
 | .one v,t=>∃Z,Tr K F H kb v t Z/\∀b,Z b->Y b|.tup vs,t=>∃h,t=.d (.tuple h)/\Reps K F vs h
theorem iY.mono{it:Item}(h:iY K F H Y it t)(e:Same F A)(k:∀b,Y b->U b=H b/\A b=kf):iY K A U Y it t:=by
 cases it with|one v=>let#[Z,r,z]:=h;exact#[Z,r.mono e λb hb=>k b (z b hb),z]|tup y=>let#[ts,x,r]:=h;exact#[ts,x,r.mono e]
theorem L6{xs:LV}(h:Trs K F H st xs ts Z)(z:∀b,Z b->Y b):y0 (iY K F H Y) (xs.map .one) ts :=
 Trs.ind (R:=λ_ xs ts Z=>(∀b,Z b->Y b)->y0 (iY K F H Y) (xs.map .one) ts) (λ_ _=>.nil) (λh _ _ q x z=>.cons #[_,h.weak,λb hb=>z b ((q b).mpr (.inl hb))] (x λb hb=>z b ((q b).mpr (.inr hb)))) h z
theorem RX{Y:fB}{α:Type}(f:α->V)(g:α->D)(h:∀x,Rep K F (f x) (g x)):∀(l:List α),y0 (iY K F H Y) (l.map λx=>.one (f x)) (l.map λx=>T.d (g x))
 |[]=>.nil|x::r=>.cons #[λ_=>False,.d (h x) λ_ z=>z,λ_ z=>z.elim] (RX f g h r)
theorem Tr.lsS(f:Same F H)(h:Tr K F H st v t Z)(e:t.vw=.ls ts):∃a vs S',v=.ref a/\jC K H a vs/\Trs K F H kb vs ts S'/\(∀b,S' b->Z b)/\∀F' x,Same F F'->Same F' x->(∀b,Z b->x b=H b)->jC K x a vs:=by
 cases h with
 |d r n =>
  cases r with|lst q r=>injection e with e;subst e;exact#[_,_,_,rfl,f.seq q,Trs.of_reps r,λb hb=>hb.elim,λF' x z y _=>(z.trans y).seq q]|dct _ _ _=>exact(oH e).elim|_=>cases e
 |lst h _ r n q=>injection e with e;subst e;exact#[_,_,_,rfl,jC.of h,r.weak,λb hb=>(q b).mpr (.inr hb),λF' x _ _ k=>jC.of ((k _ ((q _).mpr (.inl rfl))).trans h)]|tup=>cases e|dct=>cases e|lstF h r n=>injection e with e;subst e;exact#[_,_,_,rfl,f.seq h,Trs.of_reps r,λb hb=>hb.elim,λF' x z y _=>(z.trans y).seq h]
theorem Tr.tpS(f:Same F H)(h:Tr K F H st v t Z)(e:t.vw=.tp ts):∃a vs S',v=.ref a/\xD K H a vs/\Trs K F H kb vs ts S'/\(∀b,S' b->Z b)/\∀F' x,Same F F'->Same F' x->(∀b,Z b->x b=H b)->xD K x a vs:=by
 cases h with
 |d r n =>
  cases r with|tup q r=>injection e with e;subst e;exact#[_,_,_,rfl,f.tupl q,Trs.of_reps r,λb hb=>hb.elim,λF' x z y _=>(z.trans y).tupl q]|dct _ _ _=>exact(iL e).elim|_=>cases e
 |tup h _ r n q=>injection e with e;subst e;exact#[_,_,_,rfl,xD.of h,r.weak,λb hb=>(q b).mpr (.inr hb),λF' x _ _ k=>xD.of ((k _ ((q _).mpr (.inl rfl))).trans h)]|lst=>cases e|lstF=>cases e|dct=>cases e
theorem Tr.seqS(f:Same F H)(h:Tr K F H st v t Z)(e:t.vw.seq=kv ts):∃a vs sz,v=.ref (Src.adr sz)/\G0 K H sz vs/\(∃S',Trs K F H kb vs ts S')/\a=Src.adr sz/\∀F' k,Same F F'->Same F' k->(∀b,Z b->k b=H b)->G0 K k sz vs:=by
 generalize ev:t.vw=w at e;cases w with|ls g=>cases e;let#[a,vs,S',rfl,z,x,_,y]:=h.lsS f ev;exact#[a,vs,.l a,rfl,z,#[S',x],rfl,y]|tp g=>cases e;let#[a,vs,S',rfl,z,x,_,y]:=h.tpS f ev;exact#[a,vs,.t a,rfl,z,#[S',x],rfl,y]|_=>cases e
end
mutual
theorem SV{F:Hp}:∀{k:NK}{v:V},Zm K F k v->Rep K F v (tD k)
 | .s x,v,h=>by cases(show v=.str x from h);exact .str x|.t ks,v,#[a,xs,e,q,p]=>by subst e;exact .tup q (ky_reps p)
theorem ky_reps{F:Hp}:∀{ks:List NK}{vs:LV},KyVs K F ks vs->Reps K F vs (tDs ks)
 |[],vs,h=>by cases(show vs=[] from h);exact .nil|k::ks,vs,#[x,r,e,p,q]=>by subst e;exact .cons (SV p) (ky_reps q)
end
theorem TX{Y:fB}:∀{kvs:List KE}{ds:List D},iG K F kvs->Reps K F (kvs.map (·.2.2)) ds->y0 (iY K F H Y) (kvs.map λp=>.tup [.ref p.2.1,p.2.2]) (((kvs.map λp=>tD p.1).zip ds).map λp=>T.d (.tuple [p.1,p.2]))
 |[],_,_,.nil=>.nil|p::r,_,hk,.cons h t=>by simp only[QU,wx];exact .cons #[[_,_],rfl,.cons (SV (hk p QF).1) (.cons h .nil)] (TX (λp x=>hk p (QD _ x)) t)
theorem SX{Y:fB}:∀{kvs:List KE},iG K F kvs->y0 (iY K F H Y) (kvs.map λp=>.one (.ref p.2.1)) ((kvs.map λp=>tD p.1).map T.d)
 |[],_=>.nil|p::r,hk=>.cons #[λ_=>False,.d (SV (hk p QF).1) λ_ z=>z,λ_ z=>z.elim] (SX λp h=>hk p (QD _ h))
theorem IS{Y:fB}:∀{xs:LV}{ds:List D}(_:Reps K F xs ds) (g:Nat->Int) (n:Nat),y0 (iY K F H Y) ((xs.zipIdx n).map λp=>.tup [.int (g p.2),p.1]) ((ds.zipIdx n).map λp=>T.d (.tuple [.int (g p.2),p.1]))
 |_,_,.nil,g,n=>by simp only[List.zipIdx_nil,WR];exact .nil|_,_,.cons h t,g,n=>by simp only[List.zipIdx_cons,QU];exact .cons #[[_,_],rfl,.cons (.int _) (.cons h .nil)] (IS t g (n+1))
theorem MG{J:ItK}{Y:fB}{vs:LV}{ts:LT}{Q:LT->Prop}{RR:List Item->(Hp->Prop)->Hp->Prop}(f:Same F H)(X:Tn K F H Y vs ts)(h:KB J (ts.map T.vw) Q)
  (k:∀xs P st,y0 (iY K F H Y) xs P->(∀F' g,Same F F'->Same F' g->(∀b,Y b->g b=H b)->st g)->Q P->RR xs st H):uC K J vs H RR:=by
 cases J with
 |val =>
  rcases h with⟨E,e,h⟩| ⟨E,e,h⟩| ⟨A,E,e,h⟩
  let#[v,t,Z,rfl,rfl,e,r,z]:=X.one e;let#[p,xs,S',rfl,L,l,G,s]:=r.lsS f e;exact .inl #[xs,L,k _ _ _ (L6 l λb hb=>z b (G b hb)) (λF' g y w q=>s F' g y w λb hb=>q b (z b hb)) h];let#[v,t,Z,rfl,rfl,e,r,z]:=X.one e;let#[p,xs,S',rfl,L,l,G,s]:=r.tpS f e;exact .inr (.inl #[xs,L,k _ _ _ (L6 l λb hb=>z b (G b hb)) (λF' g y w q=>s F' g y w λb hb=>q b (z b hb)) h]);let#[v,t,Z,rfl,rfl,y,W,B]:=X.one e;let#[a,o,xs,_,rfl,M,dk,l,_,s]:=W.dc f y;let#[m,u,rfl,rfl,rfl,N,_]:=dk;exact .inr (.inr #[m,u,M,k _ _ _ (SX N) (λF' g y w q=>s F' g y w λb hb=>q b (B b hb)) h])
 |rng1=>let#[j,e,h]:=h;let#[v,t,Z,rfl,rfl,e,r,_]:=X.one e;obtain rfl:=r.int e;exact#[h.1,k _ _ _ (RX (λ(i:Nat)=>.int (i:Int)) (λ(i:Nat)=>.int (i:Int)) (λc=>.int _) _) (λ_ _ _ _ _=>trivial) h.2]|enum=>let#[x,E,C,e,S,O,q]:=h;let#[v,t,Z,rfl,rfl,y,W,B]:=X.one e;let#[a,xs,sz,rfl,R,#[_,l],_,s]:=W.seqS f (by rw[y];exact S);exact#[sz,xs,rfl,R,k _ _ _ (IS (l.un O).1 (λi=>(i:Int)) 0) (λF' g y w q=>s F' g y w λb hb=>q b (B b hb)) q]|itm =>
  rcases h with⟨A,E,C,e,O,q⟩| ⟨e,q⟩
  rotate_left
  let#[v,t,Z,rfl,rfl,y,W,B]:=X.one e;let#[_,l]:=W.sc y;generalize ed:PyData.dict []=d at l;cases l with
  |@dct b a o A vs C h I r =>
   have ez:A.zip C=[]:=by injection ed with ed;exact ed.symm
   have hl:A.9=C.length:=by rw[I.len,Reps.length r]
   have ek:A=[]:=by
    cases A with
    |nil=>rfl|cons k A =>
     cases C with|nil=>cases hl|cons d C=>cases ez
   subst ek;have eo:∃m,o=.dT m []:=by
    cases b with
    |true =>
     let#[m,u,y,w,_]:=I;cases u with|nil=>exact#[m,y]|cons p r=>cases w
    |false =>
     rcases I with⟨u,n,_,w,_⟩| ⟨m,y,_⟩
     cases u with|nil=>exact Uz rfl n|cons p r=>cases w
     exact#[m,y]
   let#[m,rfl]:=eo;exact#[m,[],f _ _ h,k _ _ _ .nil (λF' g y w _=>w _ _ (y _ _ h)) q]
  |_=>cases ed
  let#[v,t,Z,rfl,rfl,y,W,B]:=X.one e;let#[a,o,xs,_,rfl,M,dk,l,_,s]:=W.dc f y;let#[m,u,rfl,rfl,rfl,N,_]:=dk;exact#[m,u,M,k _ _ _ (TX N (l.un O).1) (λF' g y w q=>s F' g y w λb hb=>q b (B b hb)) q]
end
section
variable{i j:Nat}{Z:fB}
def UF(S:Ft)(i:Nat)(Z:fB):Ft:=λj=>if j=i then Z else S j
theorem iA{S:Ft}:UF S i Z i=Z:=t6 rfl
theorem gA{S:Ft}(h:j≠i):UF S i Z j=S j:=t3 h
theorem uA{α:Type}{l:List α}{x y:α}(h:(l.set i x)[j]?=kv y):(i=j/\y=x/\i<l.9)∨(i≠j/\l[j]?=kv y):=by rw[wH]at h;by_cases e:i=j;subst e;rw[t6 rfl]at h;by_cases hl:i<l.9;rw[t6 hl]at h;cases h;exact .inl #[rfl,rfl,hl];rw[t3 hl]at h;cases h;rw[t3 e]at h;exact .inr #[e,h]
theorem CP{α:Type}{l:List α}{x:α}(h:i<l.9):(l.set i x)[i]?=kv x:=by rw[wH,t6 rfl,t6 h]
theorem nC{α:Type}{l:List α}{x:α}(h:i≠j):(l.set i x)[j]?=l[j]?:=by rw[wH,t3 h]
end
section
variable{K:QA}{Γ:Ev}{Ψ:PEv}{E:XE}{G:XK}{F H C D:Hp}{S S1:Ft}{ρ B:kA}{σ:St}
section
variable{Z Y:fB}{F' X:Hp}{S':Ft}{g:kA}{o:St}{st:Bool}{A:Tg}{k:Nat}{l:List Bool}
theorem Rl.setB(I:Rl K F H S ρ σ)(i:Nat){v:V}{t:T}(r:Tr K F H kb v t Z)(m:∀(j:Nat) u,j≠i->ρ[j]?=kv (kv (.own u))->∀b,Z b->¬ S j b):Rl K F H (UF S i Z) (ρ.set i (kv (.bor t))) (σ.set i (kv v)) where
 fh:=I.fh
 len:=by simpa using I.len
 sl:=λj s h=>by
  rcases uA h with⟨rfl,e,hl⟩| ⟨w,h⟩
  cases e;exact#[v,CP (by rw[<- I.len];exact hl),by rw[iA];exact r];rw[nC w,gA (Qm w)];exact I.sl j s h
 dj:=λj k z s n x y b hb hk=>by
  rcases uA x with⟨_,e,_⟩| ⟨f,x⟩
  cases e;rw[gA (Qm f)]at hb;rcases uA y with⟨e,_,_⟩| ⟨a,y⟩
  subst e;rw[iA]at hk;exact m j z n x b hk hb;rw[gA (Qm a)]at hk;exact I.dj j k z s n x y b hb hk
structure Bd(J:LN)(F H:Hp)(S:Ft)(ρ:kA)(σ:St)(F' X:Hp)(S':Ft)(g:kA)(o:St):Prop where
 ff:Same F F'
 hh:Same H X
 fn:∀b,F b=kf->F' b≠kf->H b=kf
 out:∀j,j∉J->g[j]?=ρ[j]?/\S' j=S j/\o[j]?=σ[j]?
 inn:∀j t,j∈J->g[j]?≠kv (kv (.own t))
theorem Bd.U{J:LN}(h:Bd J F H S ρ σ F' X S' g o){b:k0}(u:U g S' b):L3.U ρ S b:=by let#[i,t,x,z]:=u;by_cases y:i∈J;exact Uz x (h.inn i t y);let#[w,v,_]:=h.out i y;rw[w]at x;rw[v]at z;exact#[i,t,x,z]
theorem Bd.dm{J:LN}(h:Bd J F H S ρ σ F' X S' g o)(b:k0)(e:X b=kf):H b=none:=h.hh.free e
theorem fX{Y:fB}(q:∀b,Y b->¬ U ρ S b):∀(is:LN) {vs:LV}{ts:LT}{S1:Ft}{B g:kA}{x:St}{J:LN},(∀i∈is,i∈J)->Rl K F H S1 B x->(∀b,U B S1 b->U ρ S b)->Tn K F H Y vs ts->dD is ts B=kv g ->
  ∃o S',cB is vs x=kv o/\Rl K F H S' g o/\(∀j,j∉J->g[j]?=B[j]?/\S' j=S1 j/\o[j]?=x[j]?)/\(∀j t,g[j]?=kv (kv (.own t))->j∉is/\B[j]?=kv (kv (.own t)))
 |[],_,_,S1,B,g,x,J,hJ,I,hu,.nil,h=>by simp only[dD,Qq]at h;subst h;exact#[x,S1,rfl,I,λ_ _=>#[rfl,rfl,rfl],λj t h=>#[(by simp),h]]|[],_,_,_,_,_,_,_,_,_,_,.cons _ _ _,h=>by simp[dD]at h|_::_,_,_,_,_,_,_,_,_,_,_,.nil,h=>by simp[dD]at h|i::is,_,_,S1,B,g,x,J,hJ,I,hu,.cons (v:=v) (t:=t) (Z:=Z) r z tl,h=>by
  simp only[dD]at h;have nu:∀b,Z b->¬ U B S1 b:=λb hb u=>q b (z b hb) (hu b u);have Q:=I.setB i r λj u _ y b hb L=>nu b hb #[j,u,y,L];have f:∀b,U (B.set i (kv (.bor t))) (UF S1 i Z) b->U ρ S b:=λb #[j,u,p,s]=>by
   rcases uA p with⟨_,e,_⟩| ⟨n,p⟩
   cases e;rw[gA (Qm n)]at s;exact hu b #[j,u,p,s]
  let#[o,S',P,O,N,M]:=fX q is (λj y=>hJ j (QD _ y)) Q f tl h;refine#[o,S',P,O,λj y=>?_,λj u y=>?_];let#[a,w,W]:=N j y;have n:i≠j:=λe=>y (e▸hJ i QF);rw[nC n]at a W;rw[gA (Qm n)]at w;exact#[a,w,W];let#[a,w]:=M j u y;rcases uA w with⟨_,e,_⟩| ⟨n,w⟩
  cases e;exact#[λm=>(QM.mp m).elim (λe=>n e.symm) a,w]
theorem Tn.of_trs{vs:LV}{ts:LT}(h:Trs K F H st vs ts Z)(z:∀b,Z b->Y b):Tn K F H Y vs ts :=
 Trs.ind (R:=λ_ vs ts Z=>(∀b,Z b->Y b)->Tn K F H Y vs ts) (λ_ _=>.nil) (λh _ _ q x z=>.cons h.weak (λb hb=>z b ((q b).mpr (.inl hb))) (x λb hb=>z b ((q b).mpr (.inr hb)))) h z
theorem zN{it:Item}{t:T}{QP:kA->Prop}{R:St->Hp->Prop}(I:Rl K F H S ρ σ)(hy:∀b,Y b->¬ U ρ S b)(r:iY K F H Y it t)(h:AO A t ρ QP)
  (k:∀m f w x S2,Bd A.ix F H S ρ σ w x S2 m f->Rl K w x S2 m f->QP m->R f x):bindI K A it σ H R:=by
 have nm:∀(i:Nat) {v:V}{t:T}{Z:fB}{w x:Hp}{S2:Ft},Same F w->Same H x->(∀b,F b=kf->w b≠kf->H b=kf)->Rl K w x S2 ρ σ->S2=S->Tr K w x kb v t Z->(∀b,Z b->¬ U ρ S b)->QP (ρ.set i (kv (.bor t)))->A=.nm i->R (σ.set i (kv v)) x:=by
  intro i v t Z w x S2 P Q e3 I2 hS r hz q ht;subst hS ht;refine k _ _ w x (UF S2 i Z) #[P,Q,e3,λj M=>?_,λj u M hu=>?_] (I2.setB i r λj u _ M b hb hs=>hz b hb #[j,u,M,hs]) q;have n:i≠j:=λe=>M (by subst e;exact QI.mpr rfl);exact#[nC n,gA (Qm n),nC n];have e:j=i:=QI.mp M;subst e;rcases uA hu with⟨_,e,_⟩| ⟨n,_⟩
  cases e;exact n rfl
 have tp:∀(y:LN) {W:LV}{N:LT}{x:Hp}{g:kA},Same H x->A=.tp y->Tn K F x Y W N->dD y N ρ=kv g->QP g->∃o,cB y W σ=kv o/\R o x:=by intro y W N x g Q ht r e q;subst ht;let#[o,S',g1,g2,g3,g4]:=fX hy y (J:=y) (λi hi=>hi) (I.same Q) (λb u=>u) r e;exact#[o,g1,k _ _ F x S' #[.refl _,Q,λb h z=>Uz h z,g3,λj u M hu=>(g4 j u hu).1 M] g2 q]
 cases it with
 |one v =>
  let#[Z,r,z]:=r;cases A with|nm i=>exact nm i (.refl _) (.refl _) (λb h z=>Uz h z) I rfl r (λb hb=>hy b (z b hb)) h rfl|tp y=>have O:(match t.vw with | .tp N=>∃g,dD y N ρ=kv g/\QP g|_=>False):=h;split at O;rename_i N e;let#[g,P,q]:=O;let#[a,W,S',rfl,L,rp,z2]:=r.tp I.fh e;let#[o,g1,g2]:=tp y (.refl _) rfl (Tn.of_trs rp λb hb=>z b (z2 b hb)) P q;exact#[W,o,L,g1,g2];exact O.elim
 |tup W =>
  let#[ds,rfl,rd]:=r;cases A with|nm i=>intro p L;refine nm i (EA (I.fh.free L)) (EA L) (λb h1 O=>?_) (I.newT L (.tup W)) rfl (.d (S:=λ_=>False) (.tup (xD.of bA) (rd.mono (EA (I.fh.free L)))) λ_ z=>z) (λb z=>z.elim) h rfl;by_cases hb:b=p;rw[hb];exact L;rw[jA hb]at O;exact Uz h1 O|tp y=>intro X s;let#[g,P,q]:=h;exact tp y s rfl (Tn.of_trs (Trs.of_reps (st:=kb) rd) λb hb=>hb.elim) P q
noncomputable def Oc(k:Nat)(S:Ft):Ft:=λi=>if i<k then λ_=>False else S (i - k)
theorem XO:∀(m:List Bool) (ρ:kA) (i:Nat) s,(aC m ρ)[i]?=kv (kv s)->ρ[i]?=kv (kv s)/\m.getD i kb=kb
 |[],ρ,i,s,h=>by
  have e:aC [] ρ=ρ:=by cases ρ<;>rfl
  rw[e]at h;exact#[h,rfl]
 |b::m,[],i,s,h=>by simp[aC]at h|b::m,v::ρ,0,s,h=>by
  cases b with|true=>simp[aC]at h|false=>simp[aC]at h;simp[h]
 |b::m,v::ρ,i+1,s,h=>by simp only[aC,wg]at h;let#[y,x]:=XO m ρ i s h;exact#[by simpa using y,by simpa using x]
theorem KO:∀(m:List Bool) (σ:St) (i:Nat) v,σ[i]?=kv (kv v)->m.getD i kb=kb->(PC m σ)[i]?=kv (kv v)
 |[],σ,i,v,h,_=>by
  have e:PC [] σ=σ:=by cases σ<;>rfl
  rw[e];exact h
 |b::m,[],i,v,h,_=>by simp at h|b::m,w::σ,0,v,h,hb=>by
  have:b=false:=by simpa using hb
  subst this;simpa[PC]using h
 |b::m,w::σ,i+1,v,h,hb=>by simp only[PC,wg];exact KO m σ i v (by simpa using h) (by simpa using hb)
theorem VO:∀(m:List Bool) (ρ:kA),(aC m ρ).9=ρ.9
 |[],ρ=>by cases ρ<;>rfl|_::_,[]=>rfl|b::m,v::ρ=>by simp[aC,VO m ρ]
theorem dG{ρ:kA}{i:Nat}{s:Sl}(h:(NN k l ρ)[i]?=kv (kv s)):k<=i/\ρ[i - k]?=kv (kv s)/\l.getD (i - k) kb=false:=by unfold NN at h;rcases QAR i k with z|z;rw[qR (by simpa using z),wk]at h;split at h<;>cases h;rw[qH (by simpa using z)]at h;simp only[qr]at h;let#[y,x]:=XO l ρ _ s h;exact#[z,y,x]
theorem Rl.ent(I:Rl K F H S ρ σ)(k:Nat)(l:List Bool):Rl K F H (Oc k S) (NN k l ρ) (NI k l σ) where
 fh:=I.fh
 len:=by simp[NN,NI,VO,CJ,I.len]
 sl:=λi s h=>by let#[u,z,y]:=dG h;let#[v,a,w]:=I.sl _ s z;refine#[v,?_,?_];unfold NI;rw[qH (by simpa using u)];simp only[qr];exact KO l σ _ v a y;unfold Oc;rw[t3 ()];exact w
 dj:=λi j t s n z y b hb x=>by let#[p,f,_]:=dG z;let#[m,e,_]:=dG y;unfold Oc at hb x;rw[t3 ()]at hb x;exact I.dj (i - k) (j - k) t s () f e b hb x
theorem cY(b:k0):¬ U (NN k l (lockA ρ)) S' b:=λ#[i,t,h,_]=>by let#[_,x,_]:=dG h;let#[_,_,e]:=zB x;cases e
theorem Paired.get_of{α v:Type}{R:α->v->Prop}{xs:List α}{u:List v}(h:y0 R xs u):∀{i:Nat}{x:α},xs[i]?=kv x->∃y,u.drop i=y::u.drop (i+1)/\R x y:=by
 induction h with
 |nil=>intro i x e;simp at e|@cons x y xs u h t a =>
  intro i z e;cases i with|zero=>simp at e;subst e;exact#[y,by simp,h]|succ i=>let#[w,f,b]:=a (i:=i) (by simpa using e);exact#[w,by simpa using f,b]
structure Pur(F H F' X:Hp):Prop where
 ff:Same F F'
 hh:Same H X
 fn:∀b,F b=kf->F' b≠kf->H b=kf
theorem Pur.trans{u y:Hp}(a:Pur F H C D)(b:Pur C D u y):Pur F H u y:=#[a.ff.trans b.ff,a.hh.trans b.hh,λx h z=>by by_cases q:C x=kf;exact a.hh.free (b.fn x q z);exact a.fn x h q]
theorem Pur.ste(p:Pur F H C D):Ste F H S ρ C D S ρ:=#[#[p.ff,λb u h _=>p.hh b u h,λb h=>p.hh.free h,λb h z=>.inr (p.fn b h z),λb h=>.inl h,λ_ _ h _=>#[h,rfl]],λ_ t h=>#[t,h]]
theorem Pur.rl(p:Pur F H C D)(f:Same C D)(I:Rl K F H S ρ σ):Rl K C D S ρ σ:=#[f,I.len,λi s e=>by
 let#[v,y,h]:=I.sl i s e;exact#[v,y,h.mono p.ff λb hb=>by
  let#[x,z]:=h.dom b hb;refine#[?_,?_];cases e:H b with|none=>exact Uz e x|some u=>exact p.hh b u e
  by_cases q:C b=kf
  ·exact q
  exact Uz (p.fn b z q) x],I.dj]
theorem Stp.pur(s:Stp F H S ρ C D S' g)(n:∀b,¬ U ρ S b):Pur F H C D:=#[s.ff,λb u h=>s.hh b u h (n b),λb h z=>(s.fn b h z).elim (λq=>Uz q (n b)) id]
theorem Pur.trs(p:Pur F H C D){v:LV}{t:LT}(h:Trs K F H st v t Z):Trs K C D st v t Z:=h.mono p.ff λb hb=>by
  let#[x,y]:=h.dom b hb;refine#[?_,?_];cases e:H b with|none=>exact Uz e x|some u=>exact p.hh b u e
  by_cases q:C b=kf
  ·exact q
  exact Uz (p.fn b y q) x
theorem M7{ws:LN}{M:Nat}{c:kA->(Bool->kA->Prop)->Prop}{e:kA->TK->Prop}{tc:TT}{te:TE}{us:LN}
  (ic:∀{F H:Hp}{S:Ft}{ρ:kA}{σ:St}{Q:Bool->kA->Prop}{R:Bool->Hp->Prop},Rl K F H S ρ σ->c ρ Q->mH K F H S ρ σ Q R->tc σ H R)
  (ie:∀{F H:Hp}{S:Ft}{ρ:kA}{σ:St}{Q:TK}{R:VK},Rl K F H S ρ σ->e ρ Q->bB K us F H S ρ σ Q R->te σ H R)
  {F0 H0:Hp}{S0:Ft}{O:kA}(s:Ste F0 H0 S0 O F H S ρ) (I:Rl K F H S ρ σ) {xs:List Item}{L:LT}{st:Hp->Prop}(pr:y0 (iY K F H Y) xs L) (hyd:∀b,Y b->H b≠kf/\F b=kf) (hst:∀F' X,Same F F'->Same F' X->(∀b,Y b->X b=H b)->st X) {Q:TK}{R:VK}
  (h:GD (fG A (NN M l (lockA ρ)) c e) L [] λL=>Q (.lst L) kd ρ) (k:bB K ws F0 H0 S0 O σ Q R) :
  YY K xs st A tc te (NI M l σ) H R:=by
 refine N7 ?_;have len:=qC pr;have yk:∀{F' X:Hp},Pur F H F' X->∀b,Y b->X b=H b/\F' b=none:=λ{F' X} p b hb=>by
  let#[d1,d2]:=hyd b hb;refine#[?_,?_];cases e:H b with|none=>exact Uz e d1|some u=>exact p.hh b u e
  by_cases q:F' b=kf
  ·exact q
  exact Uz (p.fn b d2 q) d1
 refine#[λi m X=>∃F' w W,Pur F H F' X/\Same F' X/\Trs K F' X kd m w W/\(∀b,W b->H b=kf)/\GD (fG A (NN M l (lockA ρ)) c e) (L.drop i) w λL=>Q (.lst L) kd ρ,
  #[F,[],λ_=>False,#[.refl _,.refl _,λb h z=>Uz h z],I.fh,.nil λ_ z=>z,λ_ z=>z.elim,by simpa using h],?_,?_,?_]
 rintro i m X _ ⟨F',w,W,p,f,_,_,_⟩;exact hst F' X p.ff f λb hb=>(yk p b hb).1;rintro i x m D hx ⟨C,w,W,p1,f1,J,hw,hc⟩;let#[y,hd,ry]:=Paired.get_of pr hx;rw[hd]at hc;unfold GD at hc;unfold fG at hc;have I1:Rl K C D (Oc M S) (NN M l (lockA ρ)) (NI M l σ):=((p1.rl f1 I).lockA).ent M l;refine zN I1 (λb _=>cY b) (ry.mono p1.ff (yk p1)) hc λρ2 σ2 F2 H2 S2 N I2 hc=>?_;have p2:Pur C D F2 H2:=#[N.ff,N.hh,N.fn]
 have nu2:∀b,¬ U ρ2 S2 b:=λb u=>cY b (N.U u);refine ic I2 hc λb F3 H3 S3 ρ3 s3 I3 q=>?_;have p3:Pur F2 H2 F3 H3:=s3.toStp.pur nu2;have P:∀b,¬ U ρ3 S3 b:=λb #[j,t,h1,_]=>by let#[t0,h0]:=s3.ow j t h1;by_cases hj:j∈A.ix;exact N.inn j t0 hj h0;rw[(N.out j hj).1]at h0;let#[_,h1,_]:=dG h0;let#[_,_,e]:=zB h1;cases e
 have a:=p1.trans (p2.trans p3);cases b with
 |false=>exact#[F3,w,W,a,I3.fh,p3.trs (p2.trs J),hw,q]|true =>
  refine ie I3 q λv F4 H4 S4 ρ4 z n Z s4 I4 r4 #[hk,hl,hc]=>?_;have p4:Pur F3 H3 F4 H4:=s4.toStp.pur P;have ra4:=p4.trs (p3.trs (p2.trs J));have rz:∃Z',Tr K F4 H4 kd v z Z'/\∀b,Z' b->H3 b=none:=by
   cases n with
   |true=>exact#[Z,r4.tr,λb hb=>(r4.fr rfl b hb).elim id λu=>Uz u (P b)]|false =>
    cases z with
    |d x =>
     have tr:=r4.tr;cases tr with|d r n=>exact#[λ_=>False,.d r λ_ z=>z,λ_ z=>z.elim]
    |_=>exact Uz hk (by simp[DH,T.isD])
  let#[Z',rz,fz]:=rz;refine#[by rw[J.9];exact hl,F4,_,λb=>W b∨Z' b,a.trans p4,I4.fh,ra4.append (Trs.one rz) λb hb hz=>?_,λb hb=>?_,hc];have q1:=(J.dom b hb).1;exact q1 ((p2.trans p3).hh.free (fz b hz));rcases hb with hb|hb
  ·exact hw b hb
  exact a.hh.free (fz b hb)
 rintro m X ⟨F',w,W,p,f,J,hw,hc⟩;rw[len,List.drop_length]at hc;unfold GD at hc;have I':=p.rl f I;refine#[by rw[J.9];exact hc.1,λq hq=>?_];refine bB.list (k.from s) (p.ste) I' hq J (λb hb=>.inl (hw b hb)) #[J.dom,λi sl hi b hb z=>?_] hc.2;exact(I.dom hi z).1 (hw b hb)
end
end
section
variable{K:QA}{Γ:Ev}{Ψ:PEv}{E:XE}{p:XK}{F H l c:Hp}{S S1:Ft}{ρ y:kA}{σ:St}
theorem Tr.shal{v:V}{u t:T}{Z:fB}(h:Tr K F H kb v u Z)(e:yE u=kv t):Tr K F H kb v t Z:=by
 unfold yE at e;split at e;rename_i ts ev;cases x:VG ts with
 |none=>rw[x]at e;cases e|some f =>
  rw[x]at e;injection e with e;subst e;cases h with
  |d r n =>
   cases r with|lst q r=>injection ev with ev;subst ev;rw[YA]at x;injection x with x;subst x;exact .lstF q r n|dct _ _ _=>exact(oH ev).elim|_=>cases ev
  |lst k w z b a=>injection ev with ev;subst ev;show Tr K F H kb _ (.lst (f.map T.d)) Z;rw[<- UL x];exact .lst k w z b a|tup=>cases ev|dct=>cases ev|lstF k w z=>injection ev with ev;subst ev;rw[YA]at x;injection x with x;subst x;exact .lstF k w z
 split at e
 ·injection e with e;subst e;exact h
 cases e
theorem AV.pass{Y:fB}{md:List Md}{vs:LV}{xs:List (T×Bool)}{W:fB}(h:AV K F H md vs xs W Y)(e:Same F l)(k:∀b,W b->l b=H b)(G:∀b,Y b->F b=kf->l b=kf) :
  ∀{g ts:LT},CA md xs g=kv ts->ArgsR K l H Y md vs ts/\LB md ts=g:=by
 induction h with
 |nil h =>
  intro g ts w;cases g with|nil=>simp only[CA,Qq]at w;subst w;exact#[.nil,rfl]|cons _ _=>simp[CA]at w
 |@chg md v vs x xs W Y h t C =>
  intro g ts w;have f:md.headD .fro=.chg:=by generalize md.headD .fro=m at h;cases m<;>first|rfl|cases h
  unfold CA at w;rw[f]at w;cases g with
  |nil=>cases w|cons o g =>
   cases a:CA md.tail xs g with|none=>simp only[a,we]at w;cases w|some B=>simp only[a,Qx,Qq]at w;subst w;let#[s,j]:=C k G a;refine#[.chg f s,?_];unfold LB;rw[f];simp only[j]
 |@new md v vs x xs Z W J Y h r t n q C =>
  intro g ts w;have X:Tr K l H kb v (.d x.er) (λ_=>False):=.d (r.kept e λb u hb I=>by rw[k b ((q b).mpr (.inl hb))];exact I) λ_ z=>z;have i:=@C (λb hb=>k b ((q b).mpr (.inr hb))) G;unfold CA at w;cases f:md.headD .fro with
  |chg=>rw[f]at h;cases h|fro =>
   simp only[f,lA]at w;cases a:CA md.tail xs g with|none=>simp only[a,we]at w;cases w|some B=>simp only[a,Qx,Qq]at w;subst w;let#[s,j]:=i a;exact#[.rd (by rw[f];simp) X (λ_ z=>z.elim) s,by unfold LB;rw[f];exact j]
  |shal =>
   simp only[f,lA]at w;cases A:yE (.d x.er) with
   |none=>simp only[A]at w;cases w|some u =>
    simp only[A]at w;cases a:CA md.tail xs g with|none=>simp only[a,we]at w;cases w|some B=>simp only[a,Qx,Qq]at w;subst w;let#[s,j]:=i a;exact#[.rd (by rw[f];simp) (X.shal A) (λ_ z=>z.elim) s,by unfold LB;rw[f];exact j]
  |bor =>
   simp only[f,lA]at w;cases a:CA md.tail xs g with|none=>simp only[a,we]at w;cases w|some B=>simp only[a,Qx,Qq]at w;subst w;let#[s,j]:=i a;exact#[.rd (by rw[f];simp) X (λ_ z=>z.elim) s,by unfold LB;rw[f];exact j]
 |@tmp md v vs x xs Z W Y h r z t C =>
  intro g ts w;have X:Tr K l H kb v x Z:=r.mono e λb hb=>#[rfl,G b (z b hb) (r.dom b hb).2]
  have i:=@C k G;unfold CA at w;cases f:md.headD .fro with
  |chg=>rw[f]at h;cases h|fro =>
   simp only[f,lA]at w;cases x with
   |d x =>
    cases a:CA md.tail xs g with|none=>simp only[a,we]at w;cases w|some B=>simp only[a,Qx,Qq]at w;subst w;let#[s,j]:=i a;exact#[.rd (by rw[f];simp) X z s,by unfold LB;rw[f];exact j]
   |_=>cases w
  |shal =>
   simp only[f,lA]at w;cases A:yE x with
   |none=>simp only[A]at w;cases w|some u =>
    simp only[A]at w;cases a:CA md.tail xs g with|none=>simp only[a,we]at w;cases w|some B=>simp only[a,Qx,Qq]at w;subst w;let#[s,j]:=i a;exact#[.rd (by rw[f];simp) (X.shal A) z s,by unfold LB;rw[f];exact j]
  |bor =>
   simp only[f,lA]at w;cases a:CA md.tail xs g with|none=>simp only[a,we]at w;cases w|some B=>simp only[a,Qx,Qq]at w;subst w;let#[s,j]:=i a;exact#[.rd (by rw[f];simp) X z s,by unfold LB;rw[f];exact j]
theorem sD:∀(J:LN) (ρ:kA) (i:Nat) s,(clear J ρ)[i]?=kv (kv s)->i∉J/\ρ[i]?=kv (kv s)
 |[],ρ,i,s,h=>#[(by simp),h]|j::J,ρ,i,s,h=>by
  unfold clear at h;let#[u,z]:=sD J _ i s h;rcases uA z with⟨_,e,_⟩| ⟨n,x⟩
  cases e;exact#[λm=>(QM.mp m).elim (λe=>n e.symm) u,x]
theorem NO:∀(J:LN) (ρ:kA),(clear J ρ).9=ρ.9
 |[],_=>rfl|j::J,ρ=>by unfold clear;rw[NO J];simp
theorem Rl.drop(I:Rl K F H S ρ σ)(hl:y.9=ρ.9)(h:∀(i:Nat) s,y[i]?=kv (kv s)->ρ[i]?=kv (kv s)):Rl K F H S y σ :=
 #[I.fh,hl.trans I.len,λi s e=>I.sl i s (h i s e),λi j t s n z x=>I.dj i j t s n (h i _ z) (h j _ x)]
theorem kE:∀{J:LN}{ρ:kA}{x:LT},LA J ρ=kv x->x.9=J.9/\∀(i:Nat) j,J[i]?=kv j->∃t,x[i]?=kv t/\ρ[j]?=kv (kv (.own t))
 |[],ρ,x,h=>by simp only[LA,Qq]at h;subst h;exact#[rfl,λi j e=>by simp at e]|j::J,ρ,x,h=>by
  unfold LA at h;split at h;rename_i t e;cases z:LA J ρ with
  |none=>rw[z]at h;cases h|some f =>
   rw[z]at h;injection h with h;subst h;let#[w,v]:=kE z;refine#[by simp[w],λi k hk=>?_];cases i with|zero=>simp at hk;subst hk;exact#[t,rfl,e]|succ i=>let#[u,b,a]:=v i k (by simpa using hk);exact#[u,by simpa using b,a]
  cases h
theorem Rl.trs(I:Rl K F H S ρ σ):∀{J:LN}{w:LT}{vs:LV},J.Nodup->LA J ρ=kv w->vs.map (λv=>kv (kv v))=J.map (λj=>σ[j]?)->Trs K F H kd vs w (λb=>∃j∈J,S j b)
 |[],w,vs,_,h,hv=>by
  simp only[LA,Qq]at h;subst h;cases vs with|nil=>exact .nil λb #[j,m,_]=>by simp at m|cons _ _=>simp at hv
 |j::J,w,vs,nd,h,hv=>by
  unfold LA at h;split at h;rename_i t e;cases a:LA J ρ with
  |none=>rw[a]at h;cases h|some r =>
   rw[a]at h;injection h with h;subst h;cases vs with
   |nil=>simp at hv|cons v vs =>
    simp only[QU,QAF]at hv;let#[f,q,o]:=I.sl j _ e;rw[q]at hv;have:v=f:=by simpa using hv.1
    subst this;have x:=Qe.mp nd;refine .cons o (Rl.trs I x.2 a hv.2) (λb hb #[k,hk,z]=>?_) λb=>?_;let#[i,n]:=Ws.mp hk;let#[u,_,g]:=(kE a).2 i k n;exact I.dj j k t _ (λz=>x.1 (z▸hk)) e g b hb z;constructor
    ·rintro⟨k,hk,z⟩
     rcases QM.mp hk with e|e;subst e;exact .inl z;exact .inr #[k,e,z]
    rintro(z|⟨k,hk,z⟩)
    ·exact#[j,QF,z]
    exact#[k,QD _ hk,z]
  cases h
theorem Rl.setO(I:Rl K F H S ρ σ)(i:Nat){v:V}{t:T}{Z:fB}(hv:σ[i]?=kv (kv v))(r:Tr K F H kd v t Z)(w:∀(j:Nat) s,j≠i->ρ[j]?=kv (kv s)->∀b,Z b->¬ S j b):Rl K F H (UF S i Z) (ρ.set i (kv (.own t))) σ where
 fh:=I.fh
 len:=by simpa using I.len
 sl:=λj s h=>by
  rcases uA h with⟨rfl,e,hl⟩| ⟨g,h⟩
  cases e;exact#[v,hv,by rw[iA];exact r];rw[gA (Qm g)];exact I.sl j s h
 dj:=λj k a s n u x b hb hk=>by
  rcases uA u with⟨e,_,_⟩| ⟨f,u⟩
  subst e;rw[iA]at hb;rcases uA x with⟨e,_,_⟩| ⟨z,x⟩
  exact n e;rw[gA (Qm z)]at hk;exact w k s (Qm z) x b hb hk;rw[gA (Qm f)]at hb;rcases uA x with⟨e,_,_⟩| ⟨z,x⟩
  subst e;rw[iA]at hk;exact w j _ n u b hk hb;rw[gA (Qm z)]at hk;exact I.dj j k a s n u x b hb hk
theorem AL:∀{J:LN}{w:LT}{vs:LV}{M:fB}{S1:Ft}{y x:kA},J.Nodup->Rl K F H S1 y σ->Trs K F H kd vs w M->vs.map (λv=>kv (kv v))=J.map (λj=>σ[j]?)->Held F H S1 y M->vC J w y=kv x ->
  ∃S2,Rl K F H S2 x σ/\(∀i,i∉J->x[i]?=y[i]?/\S2 i=S1 i)/\∀i∈J,∀s,x[i]?=kv (kv s)->(∃t,s=.own t)/\∀b,S2 i b->M b
 |[],w,vs,M,S1,y,x,nd,I,r,hv,hm,h=>by
  cases w with|nil=>simp only[vC,Qq]at h;subst h;exact#[S1,I,λ_ _=>#[rfl,rfl],λi u=>by simp at u]|cons _ _=>simp[vC]at h
 |j::J,w,vs,M,S1,y,x,nd,I,r,hv,hm,h=>by
  cases r with
  |nil _=>simp[vC]at h|@cons _ v t vs R _ Z P C B n q =>
   simp only[vC]at h;simp only[QU,QAF]at hv;have a:=Qe.mp nd;have Q:=I.setO j hv.1.symm C λk s _ hk b hb=>hm.nw k s hk b ((q b).mpr (.inl hb));have Y:Held F H (UF S1 j Z) (y.set j (kv (.own t))) P:=#[λb hb=>hm.dom b ((q b).mpr (.inr hb)),λi s u b hb z=>by
    rcases uA u with⟨rfl,_,_⟩| ⟨o,u⟩
    rw[iA]at z;exact n b z hb;rw[gA (Qm o)]at z;exact hm.nw i s u b ((q b).mpr (.inr hb)) z]
   let#[S2,O,A,N]:=AL a.2 Q B hv.2 Y h;refine#[S2,O,λi u=>?_,λi u s X=>?_];have W:j≠i:=λe=>u (e▸QF);let#[g,f]:=A i λm=>u (QD _ m);rw[nC W]at g;rw[gA (Qm W)]at f;exact#[g,f];rcases QM.mp u with e|e
   ·subst e
    let#[g,f]:=A i a.1;rw[g]at X;rcases uA X with⟨_,e,_⟩| ⟨o,_⟩
    injection e with e;refine#[#[t,e],λb hb=>?_];rw[f,iA]at hb;exact(q b).mpr (.inl hb);exact Uz rfl o
   let#[L,G]:=N i e s X;exact#[L,λb hb=>(q b).mpr (.inr (G b hb))]
theorem sd{f:Str}{as:PX}(g:GOk K Γ Ψ)(ia:PSnd K Γ Ψ as)(I:Rl K F H S ρ σ)(X:aE K F H S ρ E p){Q:TK}{R:VK}{ws:LN}(h:(pe Ψ (.call f as) E).e ρ Q)(k:bB K ws F H S ρ σ Q R):(wp K Γ (.call f as) p).e σ H R:=by
 let#[os,ho,nd,h]:=h;generalize hJ:cA (Ψ.sp f).md as=J at ho nd h;have C:∀j∈J,∃t,ρ[j]?=kv (kv (.own t)):=λj A=>by let#[i,hi]:=Ws.mp A;let#[t,_,e]:=(kE ho).2 i j hi;exact#[t,e]
 have I0:Rl K F H S (clear J ρ) σ:=I.drop (NO J ρ) λi s e=>(sD J ρ i s e).2;have P:∀b,U (clear J ρ) S b->U ρ S b:=λb #[i,t,h1,O]=>#[i,t,(sD J ρ i _ h1).2,O]
 have X0:aE K F H S (clear J ρ) E p:=λx dx F2 H2 S2 L m ff r q=>X x dx F2 H2 (λ_ _=>False) [] #[m.ff,λb u e n=>m.hh b u e λz=>n (P b z),m.dm,λb e z=>(m.fn b e z).imp (P b) id,λb #[i,t,e,_]=>by simp at e,λj t e=>by simp at e] ff r q;have hm:∀j∈cA (Ψ.sp f).md as,∃v,σ[j]?=kv (kv v):=λj A=>by let#[t,e]:=C j (hJ▸A);let#[v,h1,_]:=I.sl j _ e;exact#[v,h1]
 show(wp K Γ as p).a σ H λvs c=>Γ.sp f vs c R p;refine ia.a I0 X0 hm h λvs l c S1 y xs W Y s1 I1 r1 mv q1=>?_;rw[hJ]at mv;let#[ts,hp,q1]:=q1;have hw:=r1.held;have m:=s1.frz (λb hb=>(hw.dom b hb).2) r1.fr;have I2:=I1.frz hw;have yk:∀b,Y b->l b=kf->cF l c W b=none:=λb hy hf=>by let#[i,sl,_,O,h3]:=r1.tm b hy;rw[iB λz=>r1.nw i sl O b z h3];exact hf
 let#[ar,mt]:=r1.av.pass (HC λb hb=>(hw.dom b hb).2) (λb hb=>cE hb) yk hp;generalize cF l c W=F2 at m I2 yk ar;have M0:=I.trs nd ho mv;have hM:Held F H S (clear J ρ) (λb=>∃j∈J,S j b):=#[λb #[j,A,hb]=>let#[t,e]:=C j A;I.dom e hb,λi s e b #[j,A,hb] z=>by let#[G,B]:=sD J ρ i s e;let#[t,et]:=C j A;exact I.dj j i t s (λq=>G (q▸A)) et B b hb z]
 have N:=hM.step m.toStp I2;have M2:Trs K F2 c kd (aB (Ψ.sp f).md vs) (LB (Ψ.sp f).md ts) (λb=>∃j∈J,S j b):=by
  rw[mt];refine M0.mono m.ff λb hb=>?_;refine#[?_,(N.dom b hb).2];cases e:H b with|none=>exact Uz e (hM.dom b hb).1|some u=>exact m.hh b u e (hM.nu b hb)
 refine g.sp f vs c R p #[F2,ts,_,Y,I2.fh,ar,M2,λb hy hb=>?_,?_];let#[i,sl,_,O,h3]:=r1.tm b hy;exact N.nw i sl O b hb h3
 ·have up:∀b,(∃j∈J,S j b)->U ρ S b:=λb #[j,A,hb]=>let#[t,e]:=C j A;#[j,t,e,hb]
  have lk:∀b,(∃j∈J,S j b)∨c b=kf->U ρ S b∨H b=none:=λb hb=>hb.imp (up b) (m.dm b);refine(Ψ.sp f).mono ?_ ?_ q1
  rotate_left
  rintro x qx dx F' H' o xr;refine X x dx F' H' (λ_ _=>False) [] #[m.ff.trans o.ff,λb u e n=>o.hh b u (m.hh b u e λz=>n (P b z)) λz=>n (up b z),λb e=>m.dm b (o.dm b e),λb e z=>?_,λb #[i,t,e,_]=>by simp at e,λj t e=>by simp at e] o.fh xr qx;by_cases q:F2 b=kf;exact lk b (o.fn b q z);exact(m.fn b e q).imp (P b) id;rintro r os' ⟨L,hput,q⟩ v F' H' Z M' o tr trs dz hf;have I3:Rl K F' H' S1 y σ:=#[o.fh,I2.len,λi s e=>by
   let#[w,g1,g2]:=I2.sl i s e;refine#[w,g1,g2.mono o.ff λb hb=>?_];let#[d1,d2]:=g2.dom b hb;have nM:¬ ∃j∈J,S j b:=λz=>N.nw i s e b z hb;refine#[?_,?_];cases e:c b with|none=>exact Uz e d1|some u=>exact o.hh b u e nM
   by_cases z:F' b=kf
   ·exact z
   exact((o.fn b d2 z).elim nM d1).elim,I2.dj]
  have nw3:∀b,(∃j∈J,S j b)∨c b=kf->∀(i:Nat) s,y[i]?=kv (kv s)->¬ S1 i b:=λb hb i s e z=>by rcases hb with hb|hb;exact N.nw i s e b hb z;exact(I2.dom e z).1 hb
  have hM':Held F' H' S1 y M':=#[trs.dom,λi s e b hb=>nw3 b (hf b (.inr hb)) i s e]
  let#[S2,I4,g2,g3]:=AL nd I3 trs mv hM' hput;have M:∀i s,L[i]?=kv (kv s)->(i∈J/\(∃t,s=.own t)/\∀b,S2 i b->M' b)∨(i∉J/\y[i]?=kv (kv s)/\S2 i=S1 i):=λi s e=>by by_cases hi:i∈J;exact .inl #[hi,g3 i hi s e];let#[G,B]:=g2 i hi;exact .inr #[hi,G▸e,B]
  have st:Ste F H S ρ F' H' S2 L:=#[#[m.ff.trans o.ff,λb u e n=>o.hh b u (m.hh b u e λz=>n (P b z)) λz=>n (up b z),λb e=>m.dm b (o.dm b e),λb e z=>by
    by_cases q:F2 b=kf;exact lk b (o.fn b q z);exact(m.fn b e q).imp (P b) id,
   λb #[i,t,h1,O]=>by
    rcases M i _ h1 with⟨_,_,e⟩| ⟨_,G,B⟩
    exact lk b (hf b (.inr (e b O)));rw[B]at O;exact(m.uu b #[i,t,G,O]).imp (P b) id,
   λj t e hd=>by
    rcases M j _ e with⟨_,⟨t',z⟩,_⟩| ⟨_,G,B⟩
    cases z;let#[b1,b2]:=m.bo j t G hd;exact#[(sD J ρ j _ b1).2,B.trans b2]],
   λj t e=>by
    rcases M j _ e with⟨A,_,_⟩| ⟨_,G,B⟩
    exact C j A;let#[t0,e0]:=m.ow j t G;exact#[t0,(sD J ρ j _ e0).2]]
  refine k v F' H' S2 L r kd Z st I4 #[tr,λ_ b hb=>?_,λz=>(by cases z),λ_ i s e b hb z=>?_] q;exact(lk b (hf b (.inl hb))).symm;rcases M i s e with⟨_,_,B⟩| ⟨_,G,B⟩
  ·exact dz b hb (B b z)
  rw[B]at z;exact nw3 b (hf b (.inl hb)) i s G z
end
section
variable{K:QA}{Γ:Ev}{Ψ:PEv}{E:XE}{M:XK}{F H F1 Q:Hp}{S S1:Ft}{ρ O:kA}{σ:St}
section
variable{j i:Nat}{t s:T}{b:Bool}{C B:Hp}{S2:Ft}{Y:kA}{W P Z:fB}{vs J:LV}{ts us:LT}{a:k0}{L o:HO}{v A G:V}{x y:D}{ks:List D}{R:Hp->Prop}{N:T->Prop}
theorem dC(z:ρ[j]?=kv (kv (.own t))){s:Sl}(h:(ρ.set j (kv (.bor t)))[i]?=kv (kv s)):(i=j/\s=.bor t)∨(i≠j/\ρ[i]?=kv (kv s)):=by
 rcases uA h with⟨rfl,e,_⟩| ⟨n,h⟩
 injection e with e;exact .inl #[rfl,e];exact .inr #[Qm n,h]
theorem Rl.lock1(I:Rl K F H S ρ σ)(h:ρ[j]?=kv (kv (.own t))):Rl K F H S (ρ.set j (kv (.bor t))) σ where
 fh:=I.fh
 len:=by simpa using I.len
 sl:=λi s e=>by
  rcases dC h e with⟨rfl,rfl⟩| ⟨_,e⟩
  let#[v,g,f]:=I.sl i _ h;exact#[v,g,f.weak];exact I.sl i s e
 dj:=λi k u s n p m=>by
  rcases dC h p with⟨_,z⟩| ⟨r,w⟩
  cases z;rcases dC h m with⟨q,_⟩| ⟨_,l⟩
  ·exact I.dj i k u _ n w (q▸h)
  exact I.dj i k u s n w l
theorem Rl.lock1U(I:Rl K F H S ρ σ)(w:ρ[j]?=kv (kv (.own t)))(b:k0)(hb:S j b):¬ U (ρ.set j (kv (.bor t))) S b:=λ#[i,u,h,k]=>by
 rcases dC w h with⟨_,z⟩| ⟨n,h⟩
 cases z;exact I.dj i j u _ n h w b k hb
theorem lock1U(k:ρ[j]?=kv (kv (.own t))){b:k0}(h:U (ρ.set j (kv (.bor t))) S b):U ρ S b:=by
 let#[i,u,w,e]:=h;rcases dC k w with⟨_,z⟩| ⟨n,w⟩
 cases z;exact#[i,u,w,e]
theorem aE.lock1(X:aE K F H S ρ E M)(w:ρ[j]?=kv (kv (.own t))):aE K F H S (ρ.set j (kv (.bor t))) E M:=λx k C B S2 Y h f r q =>
 X x k C B (λ_ _=>False) [] #[h.ff,λb u e n=>h.hh b u e λz=>n (lock1U w z),h.dm,λb e z=>(h.fn b e z).imp (lock1U w) id,λb #[i,t,e,_]=>by simp at e,λj t e=>by simp at e] f r q
theorem MS(I:Rl K F H S ρ σ)(h:ρ[j]?=kv (kv (.own t)))(s:Ste F H S (ρ.set j (kv (.bor t))) C B S2 Y)(l:Rl K C B S2 Y σ){b:k0}(hb:S j b) :
  ∀(i:Nat) w,i≠j->Y[i]?=kv (kv w)->¬ S2 i b:=λi w n e z=>by
 cases w with
 |own u=>rcases s.uu b ⟨i,u,e,z⟩ with q|q;exact I.lock1U h b hb q;exact(I.dom h hb).1 q
 |bor u =>
  cases f:u.isD with
  |true=>exact l.isD e f z|false =>
   let#[k,g]:=s.bo i u e f;rw[g]at z;rcases dC h k with⟨q,_⟩| ⟨_,k⟩
   exact n q;exact I.dj j i t _ (Qm n) h k b hb z
theorem pI{t':T}{v0:V}{m:Hp}{Z':fB}(I:Rl K F H S ρ σ)(w:ρ[j]?=kv (kv (.own t)))(hv:σ[j]?=kv (kv v0))(s:Ste F H S (ρ.set j (kv (.bor t))) C B S2 Y)(l:Rl K C B S2 Y σ)
  (hH:∀b u,B b=kv u->¬ S j b->m b=kv u) (dm:∀b,m b=kf->B b=kf) (r:Tr K C m kd v0 t' Z') (hz:∀b,Z' b->S j b∨W b∨B b=kf) (hw:Held C B S2 Y W) (frW:∀b,W b->H b=kf∨U (ρ.set j (kv (.bor t))) S b) :
  Ste F H S ρ C m (UF S2 j Z') (Y.set j (kv (.own t')))/\Rl K C m (UF S2 j Z') (Y.set j (kv (.own t'))) σ/\∀b,S j b∨W b∨B b=kf->∀(i:Nat) h,i≠j->Y[i]?=kv (kv h)->¬ S2 i b:=by
 have nw:∀b,S j b∨W b∨B b=kf->∀(i:Nat) h,i≠j->Y[i]?=kv (kv h)->¬ S2 i b:=λb hb i h n e z=>by rcases hb with hb|hb|hb;exact MS I w s l hb i h n e z;exact hw.nw i h e b hb z;exact(l.dom e z).1 hb
 have uj:∀b,S j b->U ρ S b:=λb hb=>#[j,t,w,hb]
 have lk:∀b,S j b∨W b∨B b=kf->U ρ S b∨H b=none:=λb hb=>by rcases hb with hb|hb|hb;exact .inl (uj b hb);exact(frW b hb).symm.imp (lock1U w) id;exact .inr (s.dm b hb)
 have fS:∀b,S j b->C b=none:=λb hb=>by
  by_cases q:C b=kf;exact q;rcases s.fn b (I.dom w hb).2 q with z|z
  ·exact Uz z (I.lock1U w b hb)
  exact Uz z (I.dom w hb).1
 have fh:Same C m:=λb u e=>hH b u (l.fh b u e) λz=>by rw[fS b z]at e;cases e
 have I3:Rl K C m S2 (Y.set j kf) σ:=#[fh,by simpa using l.len,λi h e=>by
   rcases uA e with⟨_,z,_⟩| ⟨n,e⟩
   cases z;let#[v,p,f]:=l.sl i h e;refine#[v,p,f.mono (.refl _) λb hb=>#[?_,(f.dom b hb).2]];cases eb:B b with|none=>exact Uz eb (f.dom b hb).1|some u=>exact hH b u eb λz=>MS I w s l z i h (Qm n) e hb,
  λi k u h n g X=>by
   rcases uA g with⟨_,z,_⟩| ⟨_,g⟩
   cases z;rcases uA X with⟨_,z,_⟩| ⟨_,X⟩
   ·cases z
   exact l.dj i k u h n g X]
 have I4:=I3.setO j hv r λi h n e b hb=>by
  rcases uA e with⟨_,z,_⟩| ⟨_,e⟩
  cases z;exact nw b (hz b hb) i h n e
 have es:(Y.set j kf).set j (kv (.own t'))=Y.set j (kv (.own t')):=by simp
 rw[es]at I4;refine#[#[#[s.ff,λb u e n=>hH b u (s.hh b u e λz=>n (lock1U w z)) λz=>n (uj b z),λb e=>s.dm b (dm b e),λb e z=>(s.fn b e z).imp (lock1U w) id,λb #[i,u,p,f]=>?_,λi u e hd=>?_],λi u e=>?_],I4,nw];rcases uA p with⟨rfl,_,_⟩| ⟨n,p⟩
 ·rw[iA]at f
  exact lk b (hz b f)
 rw[gA (Qm n)]at f;exact(s.uu b #[i,u,p,f]).imp (lock1U w) id;rcases uA e with⟨rfl,z,_⟩| ⟨n,e⟩
 ·cases z
 let#[g,X]:=s.bo i u e hd;rcases dC w g with⟨z,_⟩| ⟨_,g⟩
 exact Uz z.symm n;exact#[g,by rw[gA (Qm n)];exact X];rcases uA e with⟨rfl,_,_⟩| ⟨n,e⟩
 ·exact#[t,w]
 let#[t0,e0]:=s.ow i u e;rcases dC w e0 with⟨_,z⟩| ⟨_,e0⟩
 cases z;exact#[t0,e0]
theorem Trs.erase{st:Bool}{S:fB}{k:Nat}(h:Trs K F H st vs ts S)(e:ts[k]?=kv t):∃v P1 u,vs[k]?=kv v/\Tr K F H st v t P1/\Trs K F H st (vs.eraseIdx k) (ts.eraseIdx k) u/\(∀b,P1 b->¬ u b)/\∀b,P1 b∨u b->S b:=by
 revert k;refine Trs.ind (R:=λst vs ts S=>∀{k:Nat},ts[k]?=kv t->∃v P1 u,vs[k]?=kv v/\Tr K F H st v t P1/\Trs K F H st (vs.eraseIdx k) (ts.eraseIdx k) u/\(∀b,P1 b->¬ u b)/\∀b,P1 b∨u b->S b) (λn k e=>by cases e) (λ{_ _ _ _ _ _ r _} h t n q f k e=>?_) h;cases k with|zero=>cases e;exact#[_,_,_,rfl,h,t,n,λb hb=>(q b).mpr hb]|succ k=>let#[v,P1,u,p,m,l,g,w]:=f (k:=k) e;refine#[v,P1,λb=>r b∨u b,p,m,.cons h l (λb hb z=>n b hb (w b (.inr z))) λb=>wW,λb hb z=>z.elim (λz=>n b z (w b (.inl hb))) (g b hb),λb hb=>(q b).mpr ?_];rcases hb with hb|hb|hb;exact .inr (w b (.inl hb));exact .inl hb;exact .inr (w b (.inr hb))
theorem YI{α:Type}:∀{l:List α}{k:α},l.Nodup->¬ k∈l->(l++[k]).Nodup
 |[],k,_,_=>by simp|a::r,k,h,hk=>by let#[u,z]:=Qe.mp h;show(a::(r++[k])).Nodup;refine Qe.mpr #[λm=>?_,YI z λm=>hk (QM.mpr (Or.inr m))];rcases Qg.mp m with q|q;exact u q;exact hk (QM.mpr (Or.inl (QI.mp q).symm))
theorem dL(h:F a=kf)(r:Trs K F H kd J us P)(n:¬ P a):Tr K F (pA H a (.lst J)) kd (.ref a) (.lst us) λb=>b=a∨P b :=
 .lst (S':=P) bA h (r.mono (.refl _) λb hb=>#[jA λz=>n (z▸hb),(r.dom b hb).2]) n λb=>wW
theorem oD(w:Z a)(b:k0)(u:HO)(e:H b=kv u)(hb:¬ Z b):pA H a L b=kv u:=by have h:b≠a:=λz=>hb (by rw[z];exact w);rw[jA h];exact e
theorem XA(b:k0)(e:pA H a L b=kf):H b=none:=by by_cases hb:b=a;rw[hb,bA]at e;cases e;rw[jA hb]at e;exact e
theorem Pb{m:Mt}{N:T->T->Prop}{R:VK}(f:Same F H)(r:Tr K F H kd v s Z)(rv:Trs K F H kd vs ts W)(dj:∀b,Z b->¬ W b)(h:PK m s ts N)
  (k:∀w r s' H' S1 Zr,(∀b u,H b=kv u->¬ Z b->H' b=kv u)->(∀b,H' b=kf->H b=kf)->Tr K F H' kd v s' S1->Tr K F H' kd w r Zr->(∀b,Zr b->¬ S1 b)->(∀b,S1 b∨Zr b->Z b∨W b∨H b=kf)->N r s'->R w H'):Ab K m v vs H R:=by
 cases m with
 |append =>
  let#[us0,t0,rfl,rfl,h]:=h;cases r with
  |@lst _ a xs _ _ S' h1 h2 l X e =>
   have g:Z a:=(e a).mpr (.inl rfl);cases rv with
   |@cons _ w t ws us _ W1 W2 p r2 n q =>
    cases r2 with
    |nil n2 =>
     have hW:∀b,W b↔W1 b:=λb=>by rw[q b];simp[n2 b]
     refine#[a,xs,w,rfl,rfl,h1,by rw[l.9];exact h.1,k .non (.d .none) _ _ _ (λ_=>False) (oD g) XA (dL h2 (Trs.append l (Trs.one p) λb hb hw=>dj b ((e b).mpr (.inr hb)) ((hW b).mpr hw)) λz=>z.elim X λz=>dj a g ((hW a).mpr z)) (.d .non λ_ z=>z) (λ_ z=>z.elim) (λb hb=>?_) h.2];rcases hb with(hb|hb|hb)|hb;exact .inl (hb▸g);exact .inl ((e b).mpr (.inr hb));exact .inr (.inl ((hW b).mpr hb));exact hb.elim
 |extend =>
  let#[us0,vs0,rfl,rfl,h]:=h;cases r with
  |@lst _ a xs _ _ S' h1 h2 l X e =>
   have g:Z a:=(e a).mpr (.inl rfl);cases rv with
   |@cons _ w t ws us _ W1 W2 p r2 n q =>
    cases r2 with
    |nil n2 =>
     have hW:∀b,W b↔W1 b:=λb=>by rw[q b];simp[n2 b]
     cases p with|@lst _ c zs _ _ S2 g1 g2 g3 g4 I=>have dw:∀b,S2 b->W b:=λb hb=>(hW b).mpr ((I b).mpr (.inr hb));refine#[a,c,xs,zs,rfl,rfl,h1,g1,by rw[l.9,g3.9];exact h.1,k .non (.d .none) _ _ _ (λ_=>False) (oD g) XA (dL h2 (Trs.append l g3 λb hb hw=>dj b ((e b).mpr (.inr hb)) (dw b hw)) λz=>z.elim X λz=>dj a g (dw a z)) (.d .non λ_ z=>z) (λ_ z=>z.elim) (λb hb=>?_) h.2];rcases hb with(hb|hb|hb)|hb;exact .inl (hb▸g);exact .inl ((e b).mpr (.inr hb));exact .inr (.inl (dw b hb));exact hb.elim
 |pop =>
  let#[us0,i,j,t0,rfl,rfl,hi,ht,q]:=h;cases r with
  |@lst _ a xs _ _ S' h1 h2 l X e =>
   have g:Z a:=(e a).mpr (.inl rfl);let#[w,P1,P2,g1,g2,g3,g4,I]:=l.erase ht;have na:¬ P1 a:=λz=>X (I a (.inl z));have nb:¬ P2 a:=λz=>X (I a (.inr z));cases rv with
   |cons p r2 n q2 =>
    cases r2;cases p with
    |d p n1 =>
     cases p;refine#[a,i,xs,j,w,rfl,rfl,h1,by rw[l.9];exact hi,g1,k w t0 _ _ _ P1 (oD g) XA (dL h2 g3 nb) (g2.mono (.refl _) λb hb=>#[jA λz=>na (z▸hb),(g2.dom b hb).2]) (λb hb z=>?_) (λb hb=>?_) q];rcases z with z|z
     ·exact na (z▸hb)
     exact g4 b hb z;rcases hb with(hb|hb)|hb
     ·exact .inl (hb▸g)
     exact .inl ((e b).mpr (.inr (I b (.inr hb))));exact .inl ((e b).mpr (.inr (I b (.inl hb))))
 |_=>exact h.elim
theorem Trs.setD(w:Rep K F A x){S:fB}(n:Nat)(h:Trs K F H kd vs ts S):∃P,Trs K F H kd (vs.set n A) (ts.set n (.d x)) P/\∀b,P b->S b:=by
 revert n;refine Trs.ind (R:=λst vs ts S=>∀n:Nat,∃P,Trs K F H st (vs.set n A) (ts.set n (.d x)) P/\∀b,P b->S b) (λ{_ S} z n=>#[S,.nil z,λ_ h=>h]) (λ{_ _ _ _ _ _ S1 S2} h t m q k n=>?_) h;cases n with|zero=>exact#[S2,.cons (S1:=λ_=>False) (.d w λ_ z=>z) t (λ_ z=>z.elim) λb=>by simp,λb hb=>(q b).mpr (.inr hb)]|succ n=>let#[P,e,u]:=k n;exact#[λb=>S1 b∨P b,.cons h e (λb hb z=>m b hb (u b z)) λb=>wW,λb hb=>(q b).mpr (hb.imp id (u b))]
theorem Trs.part{S:fB}(h:Trs K F H kd vs ts S)(e:ts[i]?=kv t):∃v S1,vs[i]?=kv v/\Tr K F H kd v t S1/\(∀b,S1 b->S b) /\
  ∀(w:Hp) t' u,(∀b,S b->¬ S1 b->w b=H b)->Tr K F w kd v t' u->(∀b,u b->S1 b)->∃P,Trs K F w kd vs (ts.set i t') P/\∀b,P b->S b:=by
 revert i;refine Trs.ind (R:=λst vs ts S=>∀{i:Nat},ts[i]?=kv t->∃v S1,vs[i]?=kv v/\Tr K F H st v t S1/\(∀b,S1 b->S b)/\∀(w:Hp) t' u,(∀b,S b->¬ S1 b->w b=H b)->Tr K F w st v t' u->(∀b,u b->S1 b)->∃P,Trs K F w st vs (ts.set i t') P/\∀b,P b->S b) (λn i e=>by cases e) (λ{_ _ _ _ _ _ m P2} h t n q p i e=>?_) h;cases i with|zero=>cases e;exact#[_,m,rfl,h,λb hb=>(q b).mpr (.inl hb),λw t' u k r f=>#[λb=>u b∨P2 b,.cons r (t.mono (.refl _) λb hb=>#[k b ((q b).mpr (.inr hb)) λz=>n b z hb,(t.dom b hb).2]) (λb hb z=>n b (f b hb) z) λb=>wW,λb hb=>(q b).mpr (hb.imp (f b) id)]]|succ i=>let#[v,S1,h1,h2,g,I]:=p (i:=i) e;refine#[v,S1,h1,h2,λb hb=>(q b).mpr (.inr (g b hb)),λw t' u k r f=>?_];let#[P,g1,l]:=I w t' u (λb hb X=>k b ((q b).mpr (.inr hb)) X) r f;exact#[λb=>m b∨P b,.cons (h.mono (.refl _) λb hb=>#[k b ((q b).mpr (.inl hb)) λz=>n b hb (g b z),(h.dom b hb).2]) g1 (λb hb z=>n b hb (l b z)) λb=>wW,λb hb=>(q b).mpr (hb.imp id (l b))]
def zt(ks:List D)(k:D):List D:=match fA ks k with
 |some _=>ks|none=>ks++[k]
def Ss{α:Type}(ks:List D)(vs:List α)(k:D)(x:α):List α:=match fA ks k with
 |some n=>vs.set n x|none=>vs++[x]
theorem HP{α h:Type}[DecidableEq α](k:α)(key:h->α)(f:h->h)(hf:∀p,key (f p)=key p):∀(l:List h) (n:Nat),(l.map key).Nodup->(l.map key)[n]?=kv k->(∀(g:h->V) (x:V),(∀p,key p=k->g (f p)=x)->(l.map λp=>if key p=k then f p else p).map g=(l.map g).set n x)
 |[],n,_,e=>by simp at e|p::r,0,nd,e=>by
  intro g x w;have e:key p=k:=by simpa using e
  rw[QU]at nd;let#[u,m]:=Qe.mp nd;have e2:(r.map λp=>if key p=k then f p else p)=r:=by rw[show r=r.map id from(QCb r).symm,QX];refine wL λq I=>?_;have:key q≠k:=λz=>u (QY.mpr #[q,by simpa using I,z.trans e.symm]);simp[this]
  rw[QU,e2,QU,QU,t6 e,w p e];rfl
 |p::r,n+1,nd,e=>by
  intro g x w;rw[QU]at nd;let#[u,m]:=Qe.mp nd;have e:(r.map key)[n]?=kv k:=by simpa using e
  have X:¬ key p=k:=λz=>u (by rw[z];exact qQ e);rw[QU,QU,QU,t3 X,HP k key f hf r n m e g x w];rfl
theorem put_keys{α h z:Type}[DecidableEq α](k:α)(key:h->α)(f:h->h)(g:h->z)(u:∀p,g (f p)=g p)(l:List h):(l.map λp=>if key p=k then f p else p).map g=l.map g:=by rw[QX];refine wL λp _=>?_;show g (if key p=k then f p else p)=g p;split;exact u p;rfl
theorem zK.put{k:D}(f:Same F H)(ha:H a=kv o)(dk:zK K F b o ks vs)(ry:Rep K F G k)(hk:ED b k)(hl:ks.9<kt)
  (kk:∀o',zK K F b o' (zt ks k) (Ss ks vs k A)->R (pA H a o')):ER K (.ref a) G A H R:=by
 cases b with
 |true =>
  let#[ep,u,rfl,rfl,rfl,h4,X]:=dk;cases YQ hk ry with
  |intro q h =>
   let#[p,rfl,rfl,hq]:=h;refine#[ep,u,q,ha,λp hp=>f.key (h4 p hp),f.key hq,by simpa using hl,λI=>kk _ ?_];have w:=KG q u;unfold TL zt Ss;cases e:fA (u.map λp=>tD p.1) (tD q) with
   |none =>
    rw[e]at w;have w:AG u q=none:=w;rw[w];refine#[I,u++[(q,p,A)],rfl,by simp,by simp,λx l=>?_,?_];rcases Qg.mp l with l|l
    ·exact h4 x l
    rw[QI.mp l];exact hq;rw[QR];refine YI X λm=>kB.mp e ?_;let#[x,l,ex]:=QY.mp m;exact QY.mpr #[x,l,by rw[ex]]
   |some n =>
    rw[e]at w;have g:=AC e;have r:(u.map (·.1))[n]?=kv q:=by
     rw[Qd]at g ⊢;cases en:u[n]? with|none=>rw[en]at g;cases g|some x=>rw[en]at g;rw[Qx,Qq]at g ⊢;exact MU g
    have hs:(AG u q).isSome=true:=by
     rw[w];have:n<u.length:=by have:=(Qf.mp r).1;simpa using this
     simp[this]
    rw[t6 hs];refine#[I,_,rfl,(put_keys q (·.1) (λp=>(p.1,p.2.1,A)) (λp=>tD p.1) (λ_=>rfl) u).symm,(HP q (·.1) (λp=>(p.1,p.2.1,A)) (λ_=>rfl) u n X r (·.2.2) A λ_ _=>rfl).symm,λx l=>?_,?_];let#[y,hy,ey]:=QY.mp l;have hy:=h4 y hy;by_cases z:y.1=q;rw[t6 z]at ey;subst ey;exact hy;rw[t3 z]at ey;subst ey;exact hy;have:=put_keys q (·.1) (λp:KE=>(p.1,p.2.1,A)) (·.1) (λ_=>rfl) u;rw[this];exact X
 |false =>
  let#[z,rfl]:=hk;cases ry;rcases dk with⟨u,hne,rfl,rfl,rfl,X⟩| ⟨ep,rfl,rfl,rfl⟩
  rotate_left
  exact .inr #[ep,ha,kk _ (.inl #[[(.inr z,A)],by simp,rfl,rfl,rfl,by simp])];refine .inl #[u,ha,by simpa using hl,kk _ (.inl ?_)];have w:=sJ (.inr z) u;have ez:kD (.inr z)=.str z:=rfl;rw[ez]at w;unfold EU zt Ss;rw[XR];cases e:fA (u.map λp=>kD p.1) (.str z) with
  |none=>rw[e]at w;have w:ZL u (.inr z)=none:=w;rw[w];refine#[u++[(.inr z,A)],by simp,rfl,by simp[ez],by simp,?_];rw[QR];refine YI X λm=>kB.mp e ?_;let#[x,l,ex]:=QY.mp m;exact QY.mpr #[x,l,by rw[ex];rfl]|some n =>
   rw[e]at w;have g:=AC e;have r:(u.map (·.1))[n]?=kv (.inr z):=by
    rw[Qd]at g ⊢;cases en:u[n]? with|none=>rw[en]at g;cases g|some x=>rw[en]at g;rw[Qx,Qq]at g ⊢;exact G6 g
   have hs:(ZL u (.inr z)).isSome=true:=by
    rw[w];have:n<u.length:=by have:=(Qf.mp r).1;simpa using this
    simp[this]
   rw[t6 hs];refine#[_,by simpa using hne,rfl,(put_keys (.inr z) (·.1) (λp=>(p.1,A)) (λp=>kD p.1) (λ_=>rfl) u).symm,(HP (.inr z) (·.1) (λp=>(p.1,A)) (λ_=>rfl) u n X r (·.2) A λ_ _=>rfl).symm,?_];have:=put_keys (.inr z) (·.1) (λp:Key×V=>(p.1,A)) (·.1) (λ_=>rfl) u;rw[this];exact X
theorem EQ(h:F a=kf)(dk:zK K F b o ks J)(r:Trs K F H kd J us P)(n:¬ P a):Tr K F (pA H a o) kd (.ref a) (.dct b ks us) λb=>b=a∨P b :=
 .dct (S':=P) bA dk h (r.mono (.refl _) λb hb=>#[jA λz=>n (z▸hb),(r.dom b hb).2]) n λb=>wW
theorem v3(f:Same F H)(r:Tr K F H kd v s Z)(ry:Rep K F G y)(rx:Rep K F A x)(h:stT s y x N)
  (k:∀s' H' S1,(∀b u,H b=kv u->¬ Z b->H' b=kv u)->(∀b,H' b=kf->H b=kf)->Tr K F H' kd v s' S1->(∀b,S1 b->Z b)->N s'->R H'):ER K v G A H R:=by
 cases s with
 |lst ts =>
  cases y with
  |int i =>
   let#[n,hn,q]:=h;cases ry;cases r with|@lst _ a xs _ _ S' h1 h2 m I l=>have g:Z a:=(l a).mpr (.inl rfl);let#[P,X,p]:=m.setD rx n;refine#[xs,n,h1,by rw[m.9];exact hn,k _ _ _ (oD g) XA (dL h2 X λz=>I (p a z)) (λb hb=>?_) q];rcases hb with hb|hb;exact hb▸g;exact(l b).mpr (.inr (p b hb))
  |_=>exact h.elim
 |dct b ks ts =>
  let#[hk,hl,q]:=h;cases r with
  |@dct _ _ a o _ vs _ _ S' h1 dk h2 m I l =>
   have g:Z a:=(l a).mpr (.inl rfl);refine dk.put f h1 ry hk hl λo' w=>?_;unfold zt Ss at w;unfold KJ at q;cases e:fA ks y with
   |some n=>rw[e]at w q;let#[P,X,p]:=m.setD rx n;refine k _ _ _ (oD g) XA (EQ h2 w X λz=>I (p a z)) (λb hb=>?_) q;rcases hb with hb|hb;exact hb▸g;exact(l b).mpr (.inr (p b hb))
   |none=>rw[e]at w q;have X:=Trs.append m (Trs.one (Tr.d (S:=λ_=>False) rx λ_ z=>z)) λ_ _ z=>z;refine k _ _ _ (oD g) XA (EQ h2 w X λz=>z.elim I id) (λb hb=>?_) q;rcases hb with hb|hb|hb;exact hb▸g;exact(l b).mpr (.inr hb);exact hb.elim
 |_=>exact h.elim
theorem zK.vs_inj{F':Hp}{f:List D}{u:LV}(h:zK K F b o ks vs)(h':zK K F' b o f u):vs=u:=by
 cases b with|true=>let#[l,k,e,_,rfl,_]:=h;let#[g,w,z,_,rfl,_]:=h';rw[e]at z;cases z;rfl|false=>rcases h with⟨k,_,e,_,rfl,_⟩| ⟨l,e,_,rfl⟩<;>rcases h' with⟨w,_,z,_,rfl,_⟩| ⟨g,z,_,rfl⟩<;>rw[e]at z<;>cases z<;>rfl
theorem D9{F0:Hp}{n:Nat}{w:V}(f:Same F H)(r:Tr K F H kd (.ref a) (.dct b ks ts) Z)(l:H a=kv o)(q:zK K F0 b o ks vs)(hw:vs[n]?=kv w)(ht:ts[n]?=kv s)
  (ry:Rep K F G y) (rx:Rep K F A x) (h:stT s y x N)
  (k:∀s' g S1,(∀b u,H b=kv u->¬ Z b->g b=kv u)->(∀b,g b=kf->H b=kf)->Tr K F g kd (.ref a) (.dct b ks (ts.set n s')) S1->(∀b,S1 b->Z b)->N s'->R g):ER K w G A H R:=by
 cases r with
 |@dct _ _ a o' _ vs' _ _ S' h1 dk h2 h3 h4 p =>
  rw[l]at h1;cases h1;cases q.vs_inj dk;have ha:Z a:=(p a).mpr (.inl rfl);let#[w',S1,g1,g2,g3,g4]:=h3.part ht;rw[hw]at g1;cases g1;refine v3 f g2 ry rx h λs' g X hh dm rs sub q2=>?_;have keep:∀b,¬ S1 b->H b≠kf->g b=H b:=λb hb m=>by
   cases e:H b with|none=>exact Uz e m|some u=>exact hh b u e hb
  have na:¬ S1 a:=λz=>h4 (g3 a z);let#[P,p1,I]:=g4 g s' X (λb hb m=>keep b m (h3.dom b hb).1) rs sub;refine k _ g (λb=>b=a∨P b) (λb u e hb=>hh b u e λz=>hb ((p b).mpr (.inr (g3 b z)))) dm (.dct (S':=P) ((keep a na (by rw[l];simp)).trans l) dk h2 p1 (λz=>h4 (I a z)) λb=>wW) (λb hb=>?_) q2;rcases hb with hb|hb;exact hb▸ha;exact(p b).mpr (.inr (I b hb))
theorem fi{p:k0}(f:Same F H)(X:H p=kf)(r:Tr K F H kd v t Z)(ry:Rep K F G y)(h:ui y t N)
  (k:∀s' l S1,(∀b u,H b=kv u->¬ Z b->l b=kv u)->(∀b,l b=kf->H b=kf)->Tr K F l kd v s' S1->(∀b,S1 b->Z b∨b=p)->N s'->R l):kL K v [G,.ref p] (pA H p (.dT 0 [])) λ_ l=>R l:=by
 let#[ks,ts,rfl,hk,hl,h]:=h;cases r with
 |@dct _ _ a o _ vs _ _ S' h1 dk h2 h3 h4 h5 =>
  have ha:Z a:=(h5 a).mpr (.inl rfl);let#[ep,w,rfl,rfl,rfl,d4,d5]:=dk;have ap:a≠p:=oA h1 X;have fp:F p=none:=f.free X;have sm:Same H (pA H p (.dT 0 [])):=EA X;cases YQ hk ry with
  |intro q hh =>
   let#[c,rfl,rfl,hq]:=hh;have vf:=KG q w;refine#[a,c,.ref p,ep,w,q,rfl,rfl,(jA ap).trans h1,λx g=>(f.trans sm).key (d4 x g),(f.trans sm).key hq,by simpa using hl,λu eu=>?_,λen I=>?_];rcases h with⟨n,e,q⟩| ⟨e,q⟩
   ·have r0:Tr K F H kd (.ref a) (.dct kd (w.map λp=>tD p.1) ts) Z:=.dct h1 #[ep,w,rfl,rfl,rfl,d4,d5] h2 h3 h4 h5
    refine k _ _ Z (λb u e _=>sm b u e) (λb e=>XA b e) (r0.mono (.refl _) λb hb=>#[jA λz=>(r0.dom b hb).1 (by rw[z];exact X),(r0.dom b hb).2]) (λb hb=>.inl hb) q
   rw[e]at vf;rw[vf]at eu;cases eu;rcases h with⟨n,e,q⟩| ⟨e,q2⟩
   ·have hn:=AC e
    rw[e]at vf;have:n<w.length:=by have:=(Qf.mp hn).1;simpa using this
    rw[vf]at en;have en:(w.map (·.2.2))[n]?=none:=en;rw[List.getElem?_eq_none_iff,QE]at en;omega
   have ep2:TL w q c (.ref p)=w++[(q,c,.ref p)]:=by unfold TL;rw[en];rfl
   rw[ep2];have np:¬ S' p:=λz=>(h3.dom p z).1 X;have g0:Tr K F (pA H p (.dT 0 [])) kd (.ref p) (.dct kd [] []) λb=>b=p :=
    .dct (S':=λ_=>False) (vs:=[]) bA #[0,[],rfl,rfl,rfl,λ_ z=>(nomatch z),Q1] fp (.nil λ_ z=>z) (λz=>z) λb=>by simp
   have g3:Trs K F (pA H p (.dT 0 [])) kd (w.map (·.2.2)) ts S':=h3.mono (.refl _) λb hb=>#[jA λz=>np (z▸hb),(h3.dom b hb).2]
   have g1:=Trs.append g3 (Trs.one g0) λb hb z=>np (z▸hb);have dk':zK K F kd (.dT I (w++[(q,c,.ref p)])) ((w.map λp=>tD p.1)++[tD q]) (w.map (·.2.2)++[.ref p]):=by
    refine#[I,_,rfl,by simp,by simp,λx g=>?_,?_];rcases Qg.mp g with g|g
    ·exact d4 x g
    rw[QI.mp g];exact hq;rw[QR];refine YI d5 λm=>kB.mp e ?_;let#[x,g,ex]:=QY.mp m;exact QY.mpr #[x,g,by rw[ex]]
   refine k _ _ _ (λb u e hb=>?_) (λb e=>XA b (XA b e)) (EQ h2 dk' g1 λz=>z.elim h4 ap) (λb hb=>?_) q2;rw[jA λz=>hb (by rw[z];exact ha)];exact sm b u e;rcases hb with hb|hb|hb
   ·exact .inl (hb▸ha)
   exact .inl ((h5 b).mpr (.inr hb));exact .inr hb
end
end
section
variable{K:QA}{Γ:Ev}{Ψ:PEv}
section
variable{p:PX}{F H:Hp}{S:Ft}{ρ:kA}{Z:fB}
noncomputable abbrev RW(K:QA)(Γ:Ev)(Ψ:PEv)(p:PX):Prop:=∀{E:XE}{x:XK}{F H:Hp}{S:Ft}{ρ:kA}{h:St}{Q:TK}{R:VK},Rl K F H S ρ h->aE K F H S ρ E x->(pe Ψ p E).e ρ Q->bB K (SG p) F H S ρ h Q R->(wp K Γ p x).e h H R
theorem GU(f:RW K Γ Ψ p){E:XE}{w:XK}{σ:St}{Q:Bool->kA->Prop}{R:Bool->Hp->Prop}(I:Rl K F H S ρ σ)(X:aE K F H S ρ E w)(h:(pe Ψ p E).e ρ λt _ y=>zI t.er λb=>Q b y)(k:mH K F H S ρ σ Q R) :
  (wp K Γ p w).e σ H λx i=>DF K x i R :=
 f I X h λv l j g z t n Z s u r q=>vX (r.tr.rep u.fh) q λc a=>k c l j g z s u a
theorem PSnd.of_e(w:∀E ρ Q,(pe Ψ p E).t ρ Q=(pe Ψ p E).e ρ λt _ y=>zI t.er λb=>Q b y)(z:∀v σ H R,(wp K Γ p v).t σ H R=(wp K Γ p v).e σ H λx g=>DF K x g R)(f:∀E,(pe Ψ p E).a=AD.a)(u:RW K Γ Ψ p):PSnd K Γ Ψ p where
 e:=u
 t:=λI X h k=>by rw[w]at h;rw[z];exact GU u I X h k
 a:=λI X _ h k=>by rw[f]at h;exact h.elim
theorem PSnd.of_0(x:∀E,(pe Ψ p E).t=AD.t)(z:∀E,(pe Ψ p E).a=AD.a)(y:RW K Γ Ψ p):PSnd K Γ Ψ p where
 e:=y
 t:=λI X h k=>by rw[x]at h;exact h.elim
 a:=λI X _ h k=>by rw[z]at h;exact h.elim
theorem PSnd.of_t(l:∀E ρ Q,(pe Ψ p E).e ρ Q=(pe Ψ p E).t ρ λb u=>Q (.d (.bool b)) kb u)(v:∀z σ H R,(wp K Γ p z).t σ H R=(wp K Γ p z).e σ H λx n=>J8 x n R)(m:∀E,(pe Ψ p E).a=AD.a)
  (f:∀{E:XE}{z:XK}{F H:Hp}{S:Ft}{ρ:kA}{σ:St}{Q:Bool->kA->Prop}{R:VK},Rl K F H S ρ σ->aE K F H S ρ E z->(pe Ψ p E).t ρ Q->mH K F H S ρ σ Q (λb=>R (.bl b))->(wp K Γ p z).e σ H R):PSnd K Γ Ψ p where
 e:=λI X h k=>by rw[l]at h;exact f I X h λb j i g y s w q=>bB.d k s w (.bl b) q
 t:=λI X h k=>by rw[v];exact f I X h λb j i g y s w q=>k b j i g y s w q
 a:=λI X _ h k=>by rw[m]at h;exact h.elim
theorem je(i:Nat):RW K Γ Ψ (.var i):=by
 intro E a F H S ρ y Q R I X h k;have x:Es ρ[i]? λt=>Q t kb ρ:=h;show(match y[i]? with|some (kv v)=>R v H|_=>False);have key:∀s,ρ[i]?=kv (kv s)->Q s.t kb ρ->(match y[i]? with|some (kv v)=>R v H|_=>False):=λs e q=>by let#[v,w,u]:=I.sl i _ e;rw[w];exact k v F H S ρ s.t kb (S i) .refl I #[u.weak,λz=>(by cases z),λ_ b hb=>#[i,s,QI.mpr rfl,e,hb],λz=>(by cases z)] q
 unfold Es at x;split at x;rename_i e;exact key _ e x;rename_i e;exact key _ e x;exact x.elim;exact x.elim
theorem RA{i j:Nat}{s:Sl}(h:(ρ.set i kf)[j]?=kv (kv s)):j≠i/\ρ[j]?=kv (kv s):=by
 rcases uA h with⟨_,z,_⟩| ⟨n,e⟩
 cases z;exact#[Qm n,e]
theorem gv(i:Nat):RW K Γ Ψ (.mv i):=by
 intro E w F H S ρ y Q R I X h k;have x:JC ρ[i]? λt=>Q t kd (ρ.set i kf):=h;show(match y[i]? with|some (kv v)=>R v H|_=>False);unfold JC at x;split at x;rename_i t hd;let#[v,u,r]:=I.sl i _ hd;rw[u];exact k v F H S (ρ.set i kf) t kd (S i) #[#[.refl _,λ_ _ h _=>h,λ_ h=>h,λb h z=>Uz h z,λb #[j,t,e,hb]=>.inl #[j,t,(RA e).2,hb],λj t e _=>#[(RA e).2,rfl]],λj t e=>#[t,(RA e).2]]
  (I.drop (by simp) λj s e=>(RA e).2) #[r,λ_ b hb=>.inr #[i,t,hd,hb],λz=>(by cases z),λ_ j s e b hb z=>I.dj i j t s (Qm (RA e).1) hd (RA e).2 b hb z] x
 exact x.elim;exact x.elim;exact x.elim
theorem Mj{m:Mt}{v:V}{s:T}(h:isMut m=kd)(x:ZI m s=kd)(r:Tr K F H kd v s Z):BU K m.ty v H:=by
 unfold ZI at x;split at x;cases r with
 |lst y _ _ _ _ =>
  refine .inl #[?_,_,jC.of y];cases m with|append=>rfl|pop=>rfl|extend=>rfl|_=>cases x
 cases x
theorem nv{m:Mt}{o g:PX}(io:PSnd K Γ Ψ o)(ia:PSnd K Γ Ψ g):RW K Γ Ψ (.mt m o g):=by
 intro E EK F H S ρ L Q R I X h k;show(wp K Γ o EK).e L H λx J=>BU K m.ty x J/\(wp K Γ g EK).a L J λA l=>Ab K m x A l R;cases hm:isMut m with
 |false =>
  have h:(pe Ψ o E).e ρ λx n M=>Tb m (lA x n).vw=kd/\sq (lA x n) M ((pe Ψ g E).a []) λf y=>pv m (lA x n).vw (CB f) λz k=>Q z k y:=by have C:(if isMut m=kd then _ else _):=h;rw[hm,t3 (by simp)]at C;exact C
  refine xo (P1:=λx n=>Tb m (lA x n).vw=kd) (R1:=λv J=>BU K m.ty v J) (RR:=λv A l=>Ab K m v A l R) io ia I X h (λv F' H' x n Za r p=>vq r p) λv A F' H' S' ρ' x n f Za Y s I' X' r _ tn q=>?_;rw[rJ _ rfl]at q;exact Nj s I' r tn q k
 |true =>
  have h:se (O3 o) λj=>JC ρ[j]? λt=>ZI m t=kd/\(pe Ψ g E).a [] (ρ.set j (kv (.bor t))) λf y=>HE f=kd/\y[j]?=kv (kv (.bor t))/\PK m t (BF f) λr s'=>Q r kd (y.set j (kv (.own s'))):=by have C:(if isMut m=kd then _ else _):=h;rw[hm,t6 rfl]at C;exact C
  cases o with
  |var j =>
   have h:JC ρ[j]? _:=h;unfold JC at h;split at h;rename_i t u;let#[ht,q1]:=h;let#[v0,hv,B]:=I.sl j _ u;have IL:=I.lock1 u;have n0:=I.lock1U u;have B:Tr K F H kd v0 t (S j):=B;have XL:=X.lock1 u;show(match L[j]? with|some (kv v)=>_|_=>False);rw[hv];refine#[Mj hm ht B,?_];refine ia.a (md:=[]) IL XL (λj u=>by cases g<;>cases u) q1 λA F2 l S2 y f W Y N I2 G _ P=>?_;let#[he,hj2,P]:=P;have r2:Tr K F2 l kd v0 t (S j):=N.toStp.keep B n0;have hw:=G.held;have trs:=G.av.trs Fj he;have wS:∀b,S j b->¬ W b:=λb hb hb2=>by rcases G.fr b hb2 with q|q;exact(B.dom b hb).1 q;exact n0 b hb q
   refine Pb I2.fh r2 trs wS P λw r s' H3 S3 Zr hh dm O rr dz hf q=>?_;let#[st,I3,nw]:=pI I u hv N I2 hh dm O (λb hb=>hf b (.inl hb)) hw G.fr;have zr:∀b,Zr b->S j b∨W b∨l b=none:=λb hb=>hf b (.inr hb);refine k w F2 H3 _ _ r kd Zr st I3 #[rr,λ_ b hb=>?_,λz=>(by cases z),λ_ i sl e b hb z=>?_] q;rcases zr b hb with q|q|q
   ·exact .inr #[j,t,u,q]
   exact(G.fr b q).imp id (lock1U u);exact .inl (N.dm b q);rcases uA e with⟨rfl,_,_⟩| ⟨n,e⟩
   ·rw[iA]at z
    exact dz b hb z
   rw[gA (Qm n)]at z;exact nw b (zr b hb) i sl (Qm n) e z
   all_goals exact h.elim
  |_=>exact h.elim
theorem bB.dct{ws:LN}{F H x y:Hp}{S S1:Ft}{ρ h:kA}{σ:St}{Q:TK}{R:VK}(k:bB K ws F H S ρ σ Q R)(s:Ste F H S ρ x y S1 h)(I:Rl K x y S1 h σ){p:k0}(g:H p=kf)(m:x p=kf)(j:Held x y S1 h λb=>b=p){o:HO}{b:Bool}{ks:List D}{vs:LV}{ts:LT}{W:fB}(dk:zK K x b o ks vs)(r:Trs K x y kd vs ts W)
  (fr:∀b,W b->H b=kf∨U ρ S b) (f:Held x y S1 h W) (a:¬ W p) (q:Q (.dct b ks ts) kd h):R (.ref p) (pA y p o):=by
 have Y:∀b u,H b=kv u->b≠p:=λb u e=>oA e g;have X:Ste F H S ρ x (pA y p o) S1 h:=#[#[s.ff,λb u e n=>by rw[jA (Y b u e)];exact s.hh b u e n,λb e=>s.dm b (XA b e),s.fn,s.uu,s.bo],s.ow]
 have B:Rl K x (pA y p o) S1 h σ:=#[λb u e=>by rw[jA λz=>by rw[z,m]at e;cases e];exact I.fh b u e,I.len,λi w e=>by let#[v,A,l]:=I.sl i w e;exact#[v,A,l.mono (.refl _) λb hb=>#[jA λz=>j.nw i w e b z hb,(l.dom b hb).2]],I.dj]
 refine k _ x _ S1 h _ kd (λb=>b=p∨W b) X B #[.dct bA dk m (r.mono (.refl _) λb hb=>#[jA λz=>a (z▸hb),(f.dom b hb).2]) a (λb=>wW),λ_ b hb=>?_,λz=>(by cases z),λ_ i w e b hb z=>?_] q;rcases hb with hb|hb
 ·exact .inl (hb▸g)
 exact fr b hb;rcases hb with hb|hb
 ·exact j.nw i w e b hb z
 exact f.nw i w e b hb z
theorem VR.strict{u y:Hp}{S1:Ft}{h:kA}{ws:LN}{v:V}{t:T}{n:Bool}(r:VR K ws H S ρ u y S1 h v t n Z)(e:DH t n=kd):∃W,Tr K u y kd v t W/\Held u y S1 h W/\∀b,W b->H b=kf∨U ρ S b:=by
 cases n with
 |true=>exact#[Z,r.tr,r.held,r.fr rfl]|false =>
  have w:=r.tr;cases t with
  |d x=>cases w with|d q _=>exact#[λ_=>False,.d q λ_ z=>z,.none,λ_ z=>z.elim]
  |_=>cases e
theorem uT{σ:St}(I:Rl K F H S ρ σ){p:k0}(h:H p=kf)(o:HO):Held F (pA H p o) S ρ λb=>b=p :=
 #[λb hb=>#[by rw[hb,bA];simp,by rw[hb];exact I.fh.free h],λi x e b hb z=>(I.dom e z).1 (by rw[hb];exact h)]
theorem oO{F:Hp}:∀(ns:LN),Reps K F (ns.map λ(i:Nat)=>V.int (i:Int)) (ns.map λ(i:Nat)=>j5 (i:Int))
 |[]=>.nil|n::r=>.cons (.int _) (oO r)
theorem MA(g:GOk K Γ Ψ):∀(p:PX),PSnd K Γ Ψ p
 | .var i=>#[je i,λI X h k=>GU (Γ:=Γ) (Ψ:=Ψ) (je i) I X h k,λI X _ h k=>h.elim]|.int i=>#[λI X h k=>bB.d k .refl I (.int i) h,λI X h k=>k _ _ _ _ _ .refl I h,λI X _ h k=>h.elim]|.str x=>#[λI X h k=>bB.d k .refl I (.str x) h,λI X h k=>h.elim,λI X _ h k=>h.elim]|.bl b=>#[λI X h k=>bB.d k .refl I (.bl b) h,λI X h k=>k _ _ _ _ _ .refl I h,λI X _ h k=>h.elim]|.non=>#[λI X h k=>bB.d k .refl I .non h,λI X h k=>k _ _ _ _ _ .refl I h,λI X _ h k=>h.elim]|.glo x=>.of_e (λ_ _ _=>rfl) (λ_ _ _ _=>rfl) (λ_=>rfl) λ{E M F H S ρ G Q R} I X h k=>by have h:(match Ψ.va x with|some d=>Q (.d d) kb ρ|none=>False):=h;split at h;rename_i d e;exact bB.d k .refl I (g.va x d e F) h;exact h.elim
 | .mv i=>.of_0 (λ_=>rfl) (λ_=>rfl) (gv i)|.bty _ _=>#[λI X h k=>h.elim,λI X h k=>h.elim,λI X _ h k=>h.elim]|.bin op a b=>.of_e (λ_ _ _=>rfl) (λ_ _ _ _=>rfl) (λ_=>rfl) λ{E M F H S ρ G Q R} I X h k =>
  U2 (P:=λx n y m J=>binT op (lA x n).vw (lA y m).vw λz k=>Q z k J) (RR:=λx y H2=>Kd K op x y H2 R) (MA g a) (MA g b) I X h λv w F' N S' A x n y m Za Zb s C X' ra _ rb q=>Ll s C ra rb q k
 | .cmp op a b=>.of_t (λ_ _ _=>rfl) (λ_ _ _ _=>rfl) (λ_=>rfl) λ{E M F H S ρ G Q R} I X h k =>
  U2 (P:=λx n y m J=>Ac op x.er (lA y m) λk=>Q k J) (RR:=λx y H2=>R7 K op x y H2 R) (MA g a) (MA g b) I X h λv w F' N S' A x n y m Za Zb s C X' ra _ rb q =>
   Tc C.fh (by have:=ra.rep C.fh;rwa [kY]at this) rb q λc qc=>k c F' N S' A s C qc
 | .and a b=>#[λ{E M F H S ρ G Q R} I X h k=>by
   refine(MA g a).e (Q:=λx _ B=>ym x.er λc=>if c=kd then(pe Ψ b E).e B Q else Q (.d (.bool kb)) kb B) (R:=λx L=>J8 x L λc H2=>if c=kd then(wp K Γ b M).e G H2 R else R (.bl kb) H2) I X h λv F' N S' A x n Z s C r q=>?_;refine i8 (r.tr.rep C.fh) q λc qc=>?_;cases c with|false=>exact bB.d k s C (.bl kb) qc|true=>exact(MA g b).e C (X.from s.toStp) qc ((k.from s).vars λi hi=>Qa _ hi),
  λ{E M F H S ρ G Q R} I X h k=>by
   refine(MA g a).t (Q:=λc B=>if c=kd then(pe Ψ b E).t B Q else Q kb B) (R:=λc L=>if c=kd then(wp K Γ b M).t G L R else R kb L) I X h λc F' N S' A s C qc=>?_;cases c with|false=>exact k _ F' N S' A s C qc|true=>exact(MA g b).t C (X.from s.toStp) qc (mH.from k s),λI X _ h k=>h.elim]
 | .or a b=>#[λ{E M F H S ρ G Q R} I X h k=>by
   refine(MA g a).e (Q:=λx _ B=>ym x.er λc=>if c=kd then Q (.d (.bool kd)) kb B else(pe Ψ b E).e B Q) (R:=λx L=>J8 x L λc H2=>if c=kd then R (.bl kd) H2 else(wp K Γ b M).e G H2 R) I X h λv F' N S' A x n Z s C r q=>?_;refine i8 (r.tr.rep C.fh) q λc qc=>?_;cases c with|true=>exact bB.d k s C (.bl kd) qc|false=>exact(MA g b).e C (X.from s.toStp) qc ((k.from s).vars λi hi=>Qa _ hi),
  λ{E M F H S ρ G Q R} I X h k=>by
   refine(MA g a).t (Q:=λc B=>if c=kd then Q kd B else(pe Ψ b E).t B Q) (R:=λc L=>if c=kd then R kd L else(wp K Γ b M).t G L R) I X h λc F' N S' A s C qc=>?_;cases c with|true=>exact k _ F' N S' A s C qc|false=>exact(MA g b).t C (X.from s.toStp) qc (mH.from k s),λI X _ h k=>h.elim]
 | .not a=>#[λ{E M F H S ρ G Q R} I X h k=>by
   refine(MA g a).e (Q:=λx _ B=>zI x.er λc=>Q (.d (.bool (!c))) kb B) (R:=λx L=>DF K x L λc H2=>R (.bl (!c)) H2) I X h λv F' N S' A x n Z s C r q=>?_;exact vX (r.tr.rep C.fh) q λc qc=>bB.d k s C (.bl _) qc,
  λ{E M F H S ρ G Q R} I X h k=>(MA g a).t (Q:=λc B=>Q (!c) B) (R:=λc L=>R (!c) L) I X h λc F' N S' A s C qc=>k _ F' N S' A s C qc,λI X _ h k=>h.elim]
 | .call f as=>.of_e (λ_ _ _=>rfl) (λ_ _ _ _=>rfl) (λ_=>rfl) λ{E M F H S ρ G Q R} I X h k=>sd g (MA g as) I X h k|.isi a c=>by
  have key:∀{E:XE}{M:XK}{F H:Hp}{S:Ft}{ρ:kA}{G:St}{Q:Bool->kA->Prop}{R:VK},Rl K F H S ρ G->aE K F H S ρ E M->(pe Ψ (.isi a c) E).t ρ Q->mH K F H S ρ G Q (λb=>R (.bl b))->(wp K Γ (.isi a c) M).e G H R:=by
   intro E M F H S ρ G Q R I X h k;refine(MA g a).e (Q:=λx _ B=>Ck c x.er λb=>Q b B) I X h λv F' N S' A x n Z s C r q=>?_;cases c with|bty z n=>let#[b,h1,h2,q]:=q;exact Bk (r.tr.rep C.fh) h1 h2 (k b F' N S' A s C q)|_=>exact q.elim
  refine#[λI X h k=>key I X h λb F' N S' A s C q=>bB.d k s C (.bl b) q,λ{E M F H S ρ G Q R} I X h k=>?_,λI X _ h k=>h.elim];exact key (R:=λv L=>DF K v L R) I X h λb F' N S' A s C q=>k b F' N S' A s C q
 | .bi f as=>.of_e (λ_ _ _=>rfl) (λ_ _ _ _=>rfl) (λ_=>rfl) λ{E M F H S ρ G Q R} I X h k =>
  uR (P:=λxs B=>GW f (CB xs) λz k=>Q z k B) (RR:=λvs L=>Gr K f vs L R) (MA g as) I X h λvs F' N S' A xs Y s C X' tn _ q=>by rw[rJ _ rfl]at q;exact Il s C tn q k
 | .mt m o as=>.of_e (λ_ _ _=>rfl) (λ_ _ _ _=>rfl) (λ_=>rfl) (nv (MA g o) (MA g as))|.idx a b=>by
  have he:RW K Γ Ψ (.idx a b):=λ{E M F H S ρ G Q R} I X h k =>
   U2 (P:=λx n y m J=>(HN (lA x n).vw (lA y m).vw λz=>Q z kb J)∨(YT (lA x n).vw y.er λz=>Q z kb J)) (RR:=λx y H2=>uS K x y H2 R) (MA g a) (MA g b) I X h λv w F' N S' A x n y m Za Zb s C X' ra za rb q=>by rcases q with q|q;exact Dk s C ra za rb q k;exact xl s C ra za (by have:=rb.rep C.fh;rwa [kY]at this) q k
  exact#[he,λI X h k=>GU he I X h k,λI X _ h k=>h.elim]
 | .slc a lo hi=>.of_0 (λ_=>rfl) (λ_=>rfl) λ{E M F H S ρ G Q R} I X h k=>by
  have part:∀(p:PX),PSnd K Γ Ψ p->∀{F H:Hp}{S:Ft}{ρ:kA}{x:T}{P:Option Int->kA->Prop}{RP:Option Int->Hp->Prop},Rl K F H S ρ G->aE K F H S ρ E M ->
    sq (α:=Option Int) x ρ (if isNop p=kd then λρ (R:Option Int->kA->Prop)=>R kf ρ else λρ R=>(pe Ψ p E).e ρ λl _ J=>RF l.er λo=>R o J) P ->
    (∀o F' N S' A,Ste F H S ρ F' N S' A->Rl K F' N S' A G->(∀st v Zx,Tr K F H st v x Zx->Tr K F' N st v x Zx)->P o A->RP o N) ->
    (if isNop p=kd then λ(R:Option Int->Hp->Prop)=>R kf H else λR=>(wp K Γ p M).e G H λl H2=>dM l H2 R) RP:=by
   intro p ip F H S ρ x P RP I X h k;cases hn:isNop p with
   |true=>simp only[hn,if_true]at h ⊢;refine k kf F H S ρ .refl I (λ_ _ _ r=>r) ?_;unfold sq at h;split at h<;>exact h|false =>
    simp only[hn,Qu,if_false]at h ⊢;have h2:sq x ρ (cu (pe Ψ p E).e) λy A=>RF y.1.er λo=>P o A:=by unfold sq at h ⊢;exact h
    refine Fo ip I X h2 λw F' N S' A y m Z s C kp _ r q=>Na (r.tr.rep C.fh) q λo qo=>k o F' N S' A s C kp qo
  refine KF (MA g a) I X h λv F1 L S1 B x n Za s1 I1 X1 r1 _ z1 h1=>?_;refine part lo (MA g lo) I1 X1 h1 λl F2 H2 S2 J s2 I2 k2 h2=>?_;refine part hi (MA g hi) I2 (X1.from s2.toStp) h2 λu F3 H3 S3 ρ3 s3 I3 k3 h3=>?_;exact zi (s1.trans (s2.trans s3)) I3 (k3 _ _ _ (k2 _ _ _ r1)) h3 k
 | .nop=>#[λI X h k=>h.elim,λI X h k=>h.elim,λI X _ h k=>h.elim]|.lst as=>.of_0 (λ_=>rfl) (λ_=>rfl) λ{E M F H S ρ G Q R} I X h k=>by refine(MA g as).a (md:=[]) (R:=λxs L=>xs.9<=kt/\∀p,L p=kf->R (.ref p) (pA L p (.lst xs))) I X (λj hj=>by cases as<;>cases hj) h λvs F' N S' A xs W Y s C r _ q=>?_;exact#[by rw[r.av.9];exact q.2.1,λp hp=>bB.list k s C hp (r.av.trs Fj q.1) r.fr r.held q.2.2]|.tup as=>.of_0 (λ_=>rfl) (λ_=>rfl) λ{E M F H S ρ G Q R} I X h k=>by refine(MA g as).a (md:=[]) (R:=λxs L=>xs.9<=kt/\∀p,L p=kf->R (.ref p) (pA L p (.tup xs))) I X (λj hj=>by cases as<;>cases hj) h λvs F' N S' A xs W Y s C r _ q=>?_;exact#[by rw[r.av.9];exact q.2.1,λp hp=>bB.tup k s C hp (r.av.trs Fj q.1) r.fr r.held q.2.2]|.comp mask tgs tg ik its cond elt=>.of_0 (λ_=>rfl) (λ_=>rfl) λ{E M F H S ρ G Q R} I X h k=>by
  refine uR (RR:=λvs L=>uC K ik vs L λxs st H2=>YY K xs st tg (if isNop cond=kd then λ_ H Q=>Q kd H else(wp K Γ cond (λ_ _ _=>False)).t) (wp K Γ elt (λ_ _ _=>False)).e (NI tgs.9 mask G) H2 R) (MA g its) I X h λvs F1 L S1 B xs Y s1 I1 X1 tn tm q1=>?_;rw[rJ _ rfl]at q1;refine MG I1.fh tn q1 λxs ys st pr hst hc=>?_;refine M7 (us:=SG elt) ?_ ?_ s1 I1 pr (λb hb=>?_) hst hc k;intro F H S ρ G Q R I h k;cases hn:isNop cond with|true=>simp only[hn,if_true]at h ⊢;exact k kd F H S ρ .refl I h|false=>simp only[hn,Qu,if_false]at h ⊢;exact(MA g cond).t I aE.never h k
  intro F H S ρ G Q R I h k;exact(MA g elt).e I aE.never h k;let#[i,sl,_,h2,h3]:=tm b hb;exact I1.dom h2 h3
 | .ng i=>.of_0 (λ_=>rfl) (λ_=>rfl) λI X h k=>bB.d k .refl I (.int _) h|.lrg a=>.of_0 (λ_=>rfl) (λ_=>rfl) λ{E M F H S ρ G Q R} I X h k =>
  KF (P:=λx n B=>Tj (lA x n).vw λz k=>Q z k B) (RR:=λx L=>Zi x L R) (MA g a) I X h λv F' N S' A x n Z s C _ r _ _ #[j,e,hj,q] =>
   #[j,r.int e,hj,λl hl=>k.listD s C hl (oO (WQ 0 j)) q]
 | .dnew b=>.of_0 (λ_=>rfl) (λ_=>rfl) λ{E M F H S ρ G Q R} I X h k=>by
  intro p hp;have hh:=uT I hp (.dT 0 []);have e:=bB.dct (o:=.dT 0 []) (b:=b) (ks:=[]) (vs:=[]) (ts:=[]) (W:=λ_=>False) k (Ste.refl.new hp (.dT 0 [])) (I.new hp _) hp (I.fh.free hp) hh ?_ (.nil λ_ z=>z) (λ_ z=>z.elim) .none (λz=>z) h;rw[K9]at e;exact e;cases b with
  |true=>exact#[0,[],rfl,rfl,rfl,λ_ z=>(nomatch z),Q1]
  |false=>exact .inr #[0,rfl,rfl,rfl]
 | .dsp a b=>.of_0 (λ_=>rfl) (λ_=>rfl) λ{E M F H S ρ G Q R} I X h k=>by
  intro p hp;have hh:=uT I hp (.dT 0 []);have s0:Ste F H S ρ F (pA H p (.dT 0 [])) S ρ:=Ste.refl.new hp _;refine KF (MA g a) (I.new hp _) (X.from s0.toStp) h λy F1 L S1 B x n Z s1 I1 X1 _ er _ #[he,q1]=>?_;have hh1:=hh.step s1.toStp I1;have ry:=er he;refine(MA g b).e I1 X1 q1 λv F2 H2 S2 J t m Zb s2 I2 r2 q2=>?_;have hh2:=hh1.step s2.toStp I2;let#[he2,hk,q2]:=q2;let#[W,rw,hw,frw]:=(r2.from s1.toStp).strict he2;have hp2:H2 p=kv (.dT 0 []):=s2.hh p _ (s1.hh p _ bA (hh.nu p rfl)) (hh1.nu p rfl);have np:¬ W p:=λz=>by rcases frw p z with q|q;rw[bA]at q;cases q;exact hh.nu p rfl q
  have ry2:=ry.mono s2.ff;refine#[hp2,?_];generalize x.er=d at hk ry2 q2;cases YQ hk ry2 with|intro ks hh=>let#[c,rfl,rfl,hq]:=hh;refine#[c,ks,rfl,I2.fh.key hq,λep=>?_];exact bB.dct (o:=.dT ep [(ks,c,v)]) (b:=kd) (vs:=[v]) (ts:=[t]) k (s0.trans (s1.trans s2)) I2 hp (hh2.dom p rfl).2 hh2 #[ep,_,rfl,rfl,rfl,λz hz=>by rw[QI.mp hz];exact hq,by simp] (Trs.one rw) (λb hb=>by rcases frw b hb with q|q;exact .inl (XA b q);exact .inr q) hw np q2
 | .anil=>#[λI X h k=>h.elim,λI X h k=>h.elim,λ{E M F H S ρ G md Q R} I X _ h k=>k [] F H S ρ [] (λ_=>False) (λ_=>False) .refl I #[.nil λ_ z=>z,λ_ z=>z.elim,λ_ z=>z.elim,λ_ _ _ _ z=>z.elim] (by cases md with|nil=>rfl|cons m r=>cases m<;>rfl) h]
 | .acons a as=>#[λI X h k=>h.elim,λI X h k=>h.elim,λ{E M F H S ρ G md Q R} I X hm h k=>by
  show(wp K Γ a M).e G H λx L=>(wp K Γ as M).a G L λxs H2=>R (x::xs) H2;have vr2:∀i∈SG as,i∈SG (.acons a as):=λi hi=>Qa _ hi;cases O:(md.headD .fro).isMut with
  |true =>
   have h2:R6 a=kd/\(pe Ψ as E).a md.tail ρ λxs B=>Q ((.d .none,kd)::xs) B:=by have h3:(if(md.headD .fro).isMut=kd then _ else _):=h;rw[O,t6 rfl]at h3;exact h3
   obtain⟨m,md',rfl⟩:∃m md',md=m::md':=by
    cases md with|nil=>cases O|cons m md'=>exact#[m,md',rfl]
   have em:m=.chg:=by have O:m.isMut=true:=O;cases m<;>first|rfl|cases O
   subst em;cases a with
   |var j=>let#[v,hv]:=hm j (show j∈j::cA md' as from QF);show(match G[j]? with|some (kv v)=>_|_=>False);rw[hv];refine(MA g as).a I X (λi hi=>hm i (QD _ hi)) h2.2 λvs F' N S' A xs W Y s C r mv q=>?_;refine k (v::vs) F' N S' A _ W Y s C #[.chg O r.av,r.fr,(r.vars vr2).tm,r.nw] ?_ q;show(kv (kv v))::(aB md' vs).map _=G[j]?::(cA md' as).map _;have mv:(aB md' vs).map (λv=>kv (kv v))=(cA md' as).map (λj=>G[j]?):=mv;rw[hv,mv]
   |_=>exact Uz h2.1 (by simp[R6])
  |false =>
   have h2:(pe Ψ a E).e ρ λx n B=>sq (α:=List (T×Bool)) (if n=kd then .d .none else x) B ((pe Ψ as E).a md.tail) λxs J=>Q ((x,n)::xs) J:=by have h3:(if(md.headD .fro).isMut=kd then _ else _):=h;rw[O,t3 (by simp)]at h3;exact h3
   have hroots:cA md (.acons a as)=cA md.tail as:=by
    cases md with|nil=>cases as<;>rfl|cons m md'=>have O:m.isMut=false:=O;cases m<;>first|rfl|cases O
   have hmv:∀v vs,aB md (v::vs)=aB md.tail vs:=λv vs=>by unfold aB;generalize md.headD .fro=m at O;cases m<;>first | (cases vs<;>rfl)|cases O
   refine(MA g a).e I X h2 λv F1 L S1 B x n Z s1 I1 r1 q1=>?_;refine Go (MA g as) I1 (X.from s1.toStp) (λi hi=>hm i (by rw[hroots];exact hi)) q1 λvs F2 H2 S2 J xs W Y s2 I2 kp hs r2 mv q2=>?_;have s12:=s1.trans s2;have r2':=(r2.from s1.toStp).vars vr2;have mv':(aB md (v::vs)).map (λv=>kv (kv v))=(cA md (.acons a as)).map (λj=>G[j]?):=by rw[hroots,hmv];exact mv
   cases n with
   |true =>
    have hd:=r1.held;have hd2:=hd.step s2.toStp I2;refine k (v::vs) F2 H2 S2 J _ (λb=>Z b∨W b) Y s12 I2 #[.new O (s2.toStp.keep r1.tr hd.nu) r2.av (λb hb hw=>?_) λb=>wW,λb hb=>?_,r2'.tm,λi sl e b hb=>?_] mv' q2;rcases r2.fr b hw with q|q
    ·exact(hd.dom b hb).1 q
    exact hd.nu b hb q;rcases hb with hb|hb
    ·exact r1.fr rfl b hb
    exact r2'.fr b hb;rcases hb with hb|hb
    ·exact hd2.nw i sl e b hb
    exact r2.nw i sl e b hb
   |false =>
    have za:∀b,Z b->∃(i:Nat) (s:Sl),i∈SG a/\J[i]?=kv (kv s)/\S2 i b:=by
     cases hd:x.isD with
     |true =>
      intro b hb;exfalso;have tr:=r1.tr;cases x with
      |d x=>cases tr with|d r n=>exact n b hb
      |_=>cases hd
     |false=>let#[e1,e2]:=hs hd;rw[e1,e2];exact r1.tm rfl
    refine k (v::vs) F2 H2 S2 J _ W (λb=>Z b∨Y b) s12 I2 #[.tmp O (kp _ _ _ r1.tr) (λb hb=>.inl hb) (r2.av.sub λb hb=>.inr hb),r2'.fr,λb hb=>?_,r2.nw] mv' q2;rcases hb with hb|hb;let#[i,sl,h1,h2]:=za b hb;exact#[i,sl,Qp _ h1,h2];exact r2'.tm b hb]
end
end
structure Sts(C J:LN)(F H:Hp)(S:Ft)(ρ:kA)(σ:St)(F' H':Hp)(S':Ft)(ρ':kA)(σ':St):Prop where
 ff:Same F F'
 hh:∀b u,H b=kv u->¬ U ρ S b->H' b=kv u
 dm:∀b,H' b=kf->H b=kf
 fn:∀b,F b=kf->F' b≠kf->U ρ S b∨H b=kf
 uu:∀b,U ρ' S' b->U ρ S b∨H b=kf
 bo:∀(j:Nat) t,j∉J->ρ'[j]?=kv (kv (.bor t))->t.isD=kb->ρ[j]?=kv (kv (.bor t))/\S' j=S j/\σ'[j]?=σ[j]?
 sg:∀j∈C,σ'[j]?=σ[j]?
structure Stc(C:LN)(F H:Hp)(S:Ft)(ρ:kA)(σ:St)(F' H':Hp)(S':Ft)(ρ':kA)(σ':St):Prop where
 ff:Same F F'
 hh:∀b u,H b=kv u->¬ U ρ S b->H' b=kv u
 dm:∀b,H' b=kf->H b=kf
 fn:∀b,F b=kf->F' b≠kf->U ρ S b∨H b=kf
 uu:∀b,U ρ' S' b->U ρ S b∨H b=kf
 sg:∀j∈C,σ'[j]?=σ[j]?
section
variable{K:QA}{Γ:Ev}{Ψ:PEv}{E:XE}{G:XK}{F H m p A B:Hp}{S S1 S2:Ft}{ρ y X:kA}{σ g Y:St}{C J:LN}
section
variable{t:T}{Z:fB}{i:Nat}
theorem Stp.sts(s:Stp F H S ρ m p S1 y):Sts C J F H S ρ σ m p S1 y σ:=#[s.ff,s.hh,s.dm,s.fn,s.uu,λj t _ e h=>let#[z,x]:=s.bo j t e h;#[z,x,rfl],λ_ _=>rfl]
theorem Sts.refl:Sts C J F H S ρ σ F H S ρ σ:=Stp.refl.sts
theorem Sts.trans(a:Sts C J F H S ρ σ m p S1 y g)(b:Sts C [] m p S1 y g A B S2 X Y):Sts C J F H S ρ σ A B S2 X Y where
 ff:=a.ff.trans b.ff
 hh:=λx u h n=>b.hh x u (a.hh x u h n) λz=>by rcases a.uu x z with q|q;exact n q;rw[q]at h;cases h
 dm:=λx h=>a.dm x (b.dm x h)
 fn:=λx h z=>by
  by_cases q:m x=kf;rcases b.fn x q z with w|w
  ·exact a.uu x w
  exact .inr (a.dm x w);exact a.fn x h q
 uu:=λx h=>by rcases b.uu x h with w|w;exact a.uu x w;exact .inr (a.dm x w)
 bo:=λj t v h n=>by let#[r,o,l]:=b.bo j t (by simp) h n;let#[f,e,k]:=a.bo j t v r n;exact#[f,o.trans e,l.trans k]
 sg:=λj v=>(b.sg j v).trans (a.sg j v)
theorem Sts.c(s:Sts C J F H S ρ σ m p S1 y g):Stc C F H S ρ σ m p S1 y g:=#[s.ff,s.hh,s.dm,s.fn,s.uu,s.sg]
theorem Stc.trans(a:Stc C F H S ρ σ m p S1 y g)(b:Stc C m p S1 y g A B S2 X Y):Stc C F H S ρ σ A B S2 X Y where
 ff:=a.ff.trans b.ff
 hh:=λx u h n=>b.hh x u (a.hh x u h n) λz=>by rcases a.uu x z with q|q;exact n q;rw[q]at h;cases h
 dm:=λx h=>a.dm x (b.dm x h)
 fn:=λx h z=>by
  by_cases q:m x=kf;rcases b.fn x q z with w|w
  ·exact a.uu x w
  exact .inr (a.dm x w);exact a.fn x h q
 uu:=λx h=>by rcases b.uu x h with w|w;exact a.uu x w;exact .inr (a.dm x w)
 sg:=λj v=>(b.sg j v).trans (a.sg j v)
theorem aE.fromS(h:aE K F H S ρ E G)(s:Sts C J F H S ρ σ m p S1 y g):aE K m p S1 y E G:=λx k A B S2 X v f r q =>
 h x k A B (λ_ _=>False) [] #[s.ff.trans v.ff,λb u e n=>v.hh b u (s.hh b u e n) (λz=>(s.uu b z).elim n λw=>(by rw[w]at e;cases e)),λb e=>s.dm b (v.dm b e),λb e z=>by
  by_cases q:m b=kf;rcases v.fn b q z with w|w
  ·exact s.uu b w
  exact .inr (s.dm b w);exact s.fn b e q,λb #[i,t,e,_]=>by simp at e,λj t e=>by simp at e] f r q
structure EndsOk(K:QA)(C:LN)(F H:Hp)(S:Ft)(ρ:kA)(σ:St)(Z:PEnds)(Dn:Ends):Prop where
 nx:∀F' H' S' ρ' σ',Sts C [] F H S ρ σ F' H' S' ρ' σ'->Rl K F' H' S' ρ' σ'->Z.nx ρ'->Dn.nx σ' H'
 rt:∀v t W F' H' S' ρ' σ',Stc C F H S ρ σ F' H' S' ρ' σ'->Rl K F' H' S' ρ' σ'->Tr K F' H' kd v t W->Held F' H' S' ρ' W->(∀b,W b->H b=kf∨U ρ S b)->Z.rt t ρ'->Dn.rt v H'
 bk:∀F' H' S' ρ' σ',Sts C [] F H S ρ σ F' H' S' ρ' σ'->Rl K F' H' S' ρ' σ'->Z.bk ρ'->Dn.bk σ' H'
 ct:∀F' H' S' ρ' σ',Sts C [] F H S ρ σ F' H' S' ρ' σ'->Rl K F' H' S' ρ' σ'->Z.ct ρ'->Dn.ct σ' H'
theorem mw(s:Sts C J F H S ρ σ m p S1 y g){W:fB}(fr:∀b,W b->p b=kf∨U y S1 b):∀b,W b->H b=kf∨U ρ S b:=λb hb=>by rcases fr b hb with q|q;exact .inl (s.dm b q);exact(s.uu b q).symm
theorem EndsOk.from{Z:PEnds}{Dn:Ends}(ok:EndsOk K C F H S ρ σ Z Dn)(s:Sts C [] F H S ρ σ m p S1 y g):EndsOk K C m p S1 y g Z Dn :=
 #[λa k w z x u I q=>ok.nx a k w z x (s.trans u) I q,λv t W a k w z x u I r h fr q=>ok.rt v t W a k w z x (s.c.trans u) I r h (mw s fr) q,
  λa k w z x u I q=>ok.bk a k w z x (s.trans u) I q,λa k w z x u I q=>ok.ct a k w z x (s.trans u) I q]
theorem Sts.setD(s:Sts C J F H S ρ σ m p S1 y g)(i:Nat)(a:i∉C)(v:V)(k:t.isD=kd)(Z:fB):Sts C J F H S ρ σ m p (UF S1 i Z) (y.set i (kv (.bor t))) (g.set i (kv v)) :=
 #[s.ff,s.hh,s.dm,s.fn,λb #[j,u,z,w]=>by
  rcases uA z with⟨_,e,_⟩| ⟨n,z⟩
  cases e;rw[gA (Qm n)]at w;exact s.uu b #[j,u,z,w],
 λj u h e x=>by
  rcases uA e with⟨_,e,_⟩| ⟨n,e⟩
  injection e with e;injection e with e;subst e;rw[k]at x;cases x;rw[gA (Qm n),nC n];exact s.bo j u h e x,
 λj h=>by have n:i≠j:=λe=>a (e▸h);rw[nC n];exact s.sg j h]
theorem Rl.setD(I:Rl K F H S ρ σ)(i:Nat){v:V}{x:D}(r:Rep K F v x):Rl K F H (UF S i λ_=>False) (ρ.set i (bD x)) (σ.set i (kv v)) :=
 I.setB i (.d r λ_ z=>z) λ_ _ _ _ _ z=>z.elim
theorem Rl.setN(I:Rl K F H S ρ σ)(i:Nat){v:V}(r:Tr K F H kd v t Z)(w:∀(j:Nat) s,j≠i->ρ[j]?=kv (kv s)->∀b,Z b->¬ S j b):Rl K F H (UF S i Z) (ρ.set i (kv (.own t))) (σ.set i (kv v)) where
 fh:=I.fh
 len:=by simpa using I.len
 sl:=λj s h=>by
  rcases uA h with⟨rfl,e,hl⟩| ⟨a,h⟩
  cases e;exact#[v,CP (by rw[<- I.len];exact hl),by rw[iA];exact r];rw[nC a,gA (Qm a)];exact I.sl j s h
 dj:=λj k f s n u x b hb hk=>by
  rcases uA u with⟨e,_,_⟩| ⟨l,u⟩
  subst e;rw[iA]at hb;rcases uA x with⟨e,_,_⟩| ⟨z,x⟩
  exact n e;rw[gA (Qm z)]at hk;exact w k s (Qm z) x b hb hk;rw[gA (Qm l)]at hb;rcases uA x with⟨e,_,_⟩| ⟨z,x⟩
  subst e;rw[iA]at hk;exact w j _ n u b hk hb;rw[gA (Qm z)]at hk;exact I.dj j k f s n u x b hb hk
theorem Sts.setN(s:Sts C J F H S ρ σ m p S1 y g)(i:Nat)(w:i∉C)(v:V)(t:T)(fr:∀b,Z b->H b=kf∨U ρ S b):Sts C J F H S ρ σ m p (UF S1 i Z) (y.set i (kv (.own t))) (g.set i (kv v)) :=
 #[s.ff,s.hh,s.dm,s.fn,λb #[j,u,z,x]=>by
  rcases uA z with⟨rfl,_,_⟩| ⟨n,z⟩
  rw[iA]at x;exact(fr b x).symm;rw[gA (Qm n)]at x;exact s.uu b #[j,u,z,x],
 λj u h e k=>by
  rcases uA e with⟨_,e,_⟩| ⟨n,e⟩
  cases e;rw[gA (Qm n),nC n];exact s.bo j u h e k,
 λj h=>by have n:i≠j:=λe=>w (e▸h);rw[nC n];exact s.sg j h]
theorem Rl.frz1(I:Rl K F H S ρ σ)(h:ρ[i]?=kv (kv (.own t))):Rl K (cF F H (S i)) H (UF S i λ_=>False) (ρ.set i (bD t.er)) σ/\Sts C [] F H S ρ σ (cF F H (S i)) H (UF S i λ_=>False) (ρ.set i (bD t.er)) σ:=by
 let#[v,hv,r]:=I.sl i _ h;have k:=HC (H:=H) λb (hb:S i b)=>(r.dom b hb).2;have N:Rl K F H S (ρ.set i kf) σ:=I.drop (by simp) λj s e=>by
  rcases uA e with⟨_,z,_⟩| ⟨_,e⟩
  cases z;exact e
 have l:Held F H S (ρ.set i kf) (S i):=#[r.dom,λj s e b hb z=>by
  rcases uA e with⟨_,q,_⟩| ⟨n,e⟩
  cases q;exact I.dj i j t s n h e b hb z]
 have M:=N.frz l;have f:Rep K (cF F H (S i)) v t.er:=Tr.kept k r λb u hb e=>by rw[cE hb];exact e
 have a:=M.setD i f;have L:(ρ.set i kf).set i (bD t.er)=ρ.set i (bD t.er):=by simp
 have W:σ.set i (kv v)=σ:=by apply wE;intro j;rw[wH];split;rename_i e;subst e;split;exact hv.symm;rename_i n;rw[Q7 ()];rfl
 rw[L,W]at a;refine#[a,#[k,λb u e _=>e,λb e=>e,λb e z=>.inl ?_,λb #[j,u,x,w]=>.inl ?_,λj u _ e o=>?_,λ_ _=>rfl]];by_cases hb:S i b
 ·exact#[i,t,h,hb]
 rw[iB hb]at z;exact Uz e z;rcases uA x with⟨_,q,_⟩| ⟨n,x⟩
 ·cases q
 rw[gA (Qm n)]at w;exact#[j,u,x,w];rcases uA e with⟨_,q,_⟩| ⟨n,e⟩
 ·injection q with q;injection q with q;subst q;cases o
 exact#[e,gA (Qm n),rfl]
theorem oZ{f:Option Sl->Option Sl}:ρ.modify i f=match ρ[i]? with|some o=>ρ.set i (f o)|none=>ρ:=by
 apply wE;intro j;rw[W0];cases h:ρ[i]? with|none=>simp only;by_cases e:i=j;subst e;simp[h];simp[e]|some o=>simp only;rw[wH];by_cases e:i=j;subst e;let#[hl,rfl]:=Qf.mp h;simp[hl];simp[e]
theorem LL{α:Type}{l:List α}{o:α}(h:l[i]?=kv o):l.set i o=l:=by apply wE;intro j;rw[wH];split;rename_i e;subst e;rw[t6 (Qf.mp h).1,h];rfl
theorem Rl.frzAt:∀(is:LN) {F:Hp}{S:Ft}{ρ:kA},Rl K F H S ρ σ->∃F' S',Rl K F' H S' (frzAt is ρ) σ/\Sts C [] F H S ρ σ F' H S' (frzAt is ρ) σ
 |[],F,S,ρ,I=>#[F,S,I,.refl]|i::is,F,S,ρ,I=>by
  have one:∃m S1,Rl K m H S1 (ρ.modify i bW) σ/\Sts C [] F H S ρ σ m H S1 (ρ.modify i bW) σ:=by
   rw[oZ];cases h:ρ[i]? with
   |none=>exact#[F,S,I,.refl]|some o =>
    cases o with
    |none=>have e:ρ.set i (bW kf)=ρ:=LL h;simp only[e];exact#[F,S,I,.refl]|some x =>
     cases x with|bor t=>have e:ρ.set i (bW (kv (.bor t)))=ρ:=LL h;simp only[e];exact#[F,S,I,.refl]|own t=>exact#[_,_,I.frz1 h]
  let#[m,S1,w,u]:=one;let#[A,S2,v,z]:=Rl.frzAt is w;exact#[A,S2,v,u.trans z]
end
end
noncomputable def AF(C:LN):PT->Bool
 | .seq s r=>AF C s&&AF C r|.set i _=>!C.contains i|.own i _=>!C.contains i|.ife _ a b=>AF C a&&AF C b|.for_ x _ _ h=>x.ix.all (λi=>!C.contains i)&&AF C h|.nil=>kd|.expr _=>kd|.ret _=>kd|.six _ _ _=>kd|.sdf _ _=>kd|.whl _ h=>AF C h|.frz _ s=>AF C s|.hs s=>AF C s|.gol s m=>AF C s&&AF C m
section
variable{K:QA}{Γ:Ev}{Ψ:PEv}{F H:Hp}{S:Ft}{ρ:kA}{σ:St}{C:LN}
section
variable{f:XK}{X:Ends}
theorem G1:∀(m:PT) (D:Ends) (σ:St) (H:Hp),ZG K Γ f (zO m) D σ H=ZG K Γ f m { D with nx:=λσ H=>ZG K Γ f %[f7|2] D σ H } σ H:=by
 intro m;induction m with
 |seq s r _ h=>intro D σ H;show ZG K Γ f s { D with nx:=λσ H=>ZG K Γ f (zO r) D σ H } σ H=_;rw[show(λσ H=>ZG K Γ f (zO r) D σ H)=λσ H=>ZG K Γ f r { D with nx:=λσ H=>ZG K Γ f %[f7|2] D σ H } σ H from funext λσ=>funext λH=>h D σ H];rfl
 |_=>exact λ_ _ _=>rfl
theorem km(I:Rl K F H S ρ σ){n b:D}{Z h:T}{ts:LT}(e8:ρ[8]?=kv (bD n))(e9:ρ[9]?=kv (bD b))(g:ρ[10]?=kv (kv (.own Z)))(B:ρ[5]?=kv (kv (.own h)))(e7:ρ[7]?=kv (kv (.own (.lst ts))))(tl:ts.9<=1000)
  (k:∀H' S7 v,σ[5]?=kv (kv v)->Tr K F H' kb v h (S 5)->Rl K F H' (UF S 7 S7) (((ρ.set 10 kf).set 5 kf).set 7 (kv (.own (.lst (ts++[.tup [.d n,.d b,Z,h]]))))) σ->Sts C [] F H S ρ σ F H' (UF S 7 S7) (((ρ.set 10 kf).set 5 kf).set 7 (kv (.own (.lst (ts++[.tup [.d n,.d b,Z,h]]))))) σ->X.nx σ H'):ZG K Γ f %[f7|2] X σ H:=by
 let#[m,s8,r8]:=I.sl 8 _ e8;let#[l,s9,r9]:=I.sl 9 _ e9;let#[x,s10,W]:=I.sl 10 _ g;let#[o,s5,r5]:=I.sl 5 _ B;let#[v7,s7,r7]:=I.sl 7 _ e7;have r8:Tr K F H kb m (.d n) (S 8):=r8;have r9:Tr K F H kb l (.d b) (S 9):=r9;have W:Tr K F H kd x Z (S 10):=W;have r5:Tr K F H kd o h (S 5):=r5;have r7:Tr K F H kd v7 (.lst ts) (S 7):=r7;have p8:Tr K F H kd m (.d n) λ_=>False:=by cases r8 with|d q _=>exact .d q λ_ z=>z
 have p9:Tr K F H kd l (.d b) λ_=>False:=by cases r9 with|d q _=>exact .d q λ_ z=>z
 cases r7 with
 |@lst _ a Y _ _ G f1 f2 f3 f4 f5 =>
  show(match σ[7]? with|some (kv v)=>BU K "list" v H/\(match σ[8]? with|some (kv w8)=>(match σ[9]? with|some (kv w9)=>(match σ[10]? with|some (kv w10)=>(match σ[5]? with|some (kv w5)=>[w8,w9,w10,w5].9<=kt/\∀p,H p=kf->oI v [.ref p] (pA H p (.tup [w8,w9,w10,w5])) λ_ H4=>X.nx σ H4|_=>False)|_=>False)|_=>False)|_=>False)|_=>False);rw[s7,s8,s9,s10,s5];refine#[.inl #[rfl,_,jC.of f1],by show 4<=_;omega,λp E=>?_];have na:a≠p:=oA f1 E;have np:∀{i:Nat}{s:Sl},ρ[i]?=kv (kv s)->¬ S i p:=λe z=>(I.dom e z).1 E;have g1:pA H p (.tup [m,l,x,o]) a=kv (.lst Y):=(jA na).trans f1;refine#[a,Y,.ref p,rfl,rfl,g1,by rw[f3.9];omega,?_];have dj:∀(i:Nat) s,i≠7->ρ[i]?=kv (kv s)->∀c,S 7 c->¬ S i c:=λi s n e c=>I.dj 7 i _ s (Qm n) e7 e c;have M:S 7 a:=(f5 a).mpr (.inl rfl);have keep:∀(i:Nat) s,i≠7->ρ[i]?=kv (kv s)->∀c,S i c->pA (pA H p (.tup [m,l,x,o])) a (.lst (Y++[.ref p])) c=H c:=λi s n e c hc=>by rw[jA λz=>dj i s n e a M (by rw[<- z];exact hc),jA λz=>np e (by rw[<- z];exact hc)]
  have q10:Tr K F (pA (pA H p (.tup [m,l,x,o])) a (.lst (Y++[.ref p]))) kd x Z (S 10):=W.mono (.refl _) λc hc=>#[keep 10 _ (by decide) g c hc,(W.dom c hc).2]
  have q5:Tr K F (pA (pA H p (.tup [m,l,x,o])) a (.lst (Y++[.ref p]))) kd o h (S 5):=r5.mono (.refl _) λc hc=>#[keep 5 _ (by decide) B c hc,(r5.dom c hc).2]
  have m8:Tr K F (pA (pA H p (.tup [m,l,x,o])) a (.lst (Y++[.ref p]))) kd m (.d n) λ_=>False:=p8.mono (.refl _) λ_ z=>z.elim;have m9:Tr K F (pA (pA H p (.tup [m,l,x,o])) a (.lst (Y++[.ref p]))) kd l (.d b) λ_=>False:=p9.mono (.refl _) λ_ z=>z.elim;have d510:∀c,S 10 c->¬ S 5 c:=I.dj 10 5 _ _ (by decide) g B;have t4:Trs K F (pA (pA H p (.tup [m,l,x,o])) a (.lst (Y++[.ref p]))) kd [m,l,x,o] [.d n,.d b,Z,h] λc=>S 10 c∨S 5 c :=
   .cons (S2:=λc=>S 10 c∨S 5 c) m8 (.cons (S2:=λc=>S 10 c∨S 5 c) m9 (.cons q10 (Trs.one q5) d510 λc=>wW) (λ_ z=>z.elim) λc=>#[.inr,λz=>z.elim (λz=>z.elim) id]) (λ_ z=>z.elim) λc=>#[.inr,λz=>z.elim (λz=>z.elim) id]
  have fp:F p=none:=I.fh.free E;have tp:Tr K F (pA (pA H p (.tup [m,l,x,o])) a (.lst (Y++[.ref p]))) kd (.ref p) (.tup [.d n,.d b,Z,h]) λc=>c=p∨(S 10 c∨S 5 c) :=
   .tup ((jA (Qm na)).trans bA) fp t4 (λz=>z.elim (np g) (np B)) λc=>wW
  have f3':Trs K F (pA (pA H p (.tup [m,l,x,o])) a (.lst (Y++[.ref p]))) kd Y ts G:=f3.mono (.refl _) λc hc=>#[by rw[jA λz=>f4 (by rw[<- z];exact hc),jA λz=>(f3.dom c hc).1 (by rw[z];exact E)],(f3.dom c hc).2]
  have dS:∀c,G c->¬ (c=p∨(S 10 c∨S 5 c)):=λc hc z=>by rcases z with z|z|z;exact(f3.dom c hc).1 (by rw[z];exact E);exact dj 10 _ (by decide) g c ((f5 c).mpr (.inr hc)) z;exact dj 5 _ (by decide) B c ((f5 c).mpr (.inr hc)) z
  have ap:=Trs.append f3' (Trs.one tp) dS;have na':¬ (G a∨(a=p∨(S 10 a∨S 5 a))):=λz=>by rcases z with z|z|z|z;exact f4 z;exact na z;exact dj 10 _ (by decide) g a M z;exact dj 5 _ (by decide) B a M z
  have r7':Tr K F (pA (pA H p (.tup [m,l,x,o])) a (.lst (Y++[.ref p]))) kd (.ref a) (.lst (ts++[.tup [.d n,.d b,Z,h]])) λc=>c=a∨(G c∨(c=p∨(S 10 c∨S 5 c))):=.lst bA f2 ap na' λc=>wW;have get:∀(j:Nat) s,(((ρ.set 10 kf).set 5 kf).set 7 (kv (.own (.lst (ts++[.tup [.d n,.d b,Z,h]])))))[j]?=kv (kv s)->(j=7/\s=.own (.lst (ts++[.tup [.d n,.d b,Z,h]])))∨(j≠7/\j≠5/\j≠10/\ρ[j]?=kv (kv s)):=λj s e=>by
   rcases uA e with⟨rfl,e,_⟩| ⟨r,e⟩
   exact .inl #[rfl,Qi e];let#[A,e]:=RA e;let#[w,e]:=RA e;exact .inr #[Qm r,A,w,e]
  have N:∀c,(c=a∨(G c∨(c=p∨(S 10 c∨S 5 c))))->U ρ S c∨H c=none:=λc hc=>by rcases hc with z|z|z|z|z;exact .inl #[7,_,e7,by rw[z];exact M];exact .inl #[7,_,e7,(f5 c).mpr (.inr z)];exact .inr (by rw[z];exact E);exact .inl #[10,_,g,z];exact .inl #[5,_,B,z]
  have R:∀(j:Nat) s,j≠7->j≠5->j≠10->ρ[j]?=kv (kv s)->∀c,(c=a∨(G c∨(c=p∨(S 10 c∨S 5 c))))->¬ S j c:=λj s r A w e c hc z=>by rcases hc with y|y|y|y|y;exact dj j s r e c (by rw[y];exact M) z;exact dj j s r e c ((f5 c).mpr (.inr y)) z;exact np e (by rw[<- y];exact z);exact I.dj 10 j _ s (Qm w) g e c y z;exact I.dj 5 j _ s (Qm A) B e c y z
  refine k _ (λc=>c=a∨(G c∨(c=p∨(S 10 c∨S 5 c)))) o s5 q5.weak #[λc u e=>?_,by simpa using I.len,λj s e=>?_,λi j u s O e1 L c Q J=>?_] #[.refl _,λc u e nu=>?_,λc e=>?_,λc e z=>Uz e z,λc #[j,u,e,hc]=>?_,λj u _ e hd=>?_,λ_ _=>rfl];have n1:c≠a:=λz=>by rw[z,f2]at e;cases e
  have n2:c≠p:=λz=>by rw[z,fp]at e;cases e
  rw[jA n1,jA n2];exact I.fh c u e;rcases get j s e with⟨rfl,rfl⟩| ⟨r,A,w,e⟩
  ·exact#[_,s7,by rw[iA];exact r7']
  let#[v,g2,g3]:=I.sl j s e;exact#[v,g2,by rw[gA r];exact g3.mono (.refl _) λc hc=>#[keep j s r e c hc,(g3.dom c hc).2]];rcases get i _ e1 with⟨rfl,_⟩| ⟨r,A,w,e1⟩
  ·rw[iA]at Q
   rcases get j _ L with⟨z,_⟩| ⟨m7,m5,P,L⟩
   exact O z.symm;rw[gA m7]at J;exact R j s m7 m5 P L c Q J
  rw[gA r]at Q;rcases get j _ L with⟨rfl,_⟩| ⟨m7,m5,P,L⟩
  rw[iA]at J;exact R i _ r A w e1 c J Q;rw[gA m7]at J;exact I.dj i j u s O e1 L c Q J;rw[jA λz=>nu #[7,_,e7,by rw[z];exact M],jA (oA e E)];exact e;exact XA c (XA c e);rcases get j _ e with⟨rfl,_⟩| ⟨r,A,w,e⟩
  ·rw[iA]at hc
   exact N c hc
  rw[gA r]at hc;exact .inl #[j,u,e,hc];rcases get j _ e with⟨_,z⟩| ⟨r,A,w,e⟩
  ·cases z
  exact#[e,gA r,rfl]
theorem kq(t0:k0){xs:LV}{x y:D}{l m:List D}{r:LT}{S':fB}(f3:Trs K F H kd xs (.tup [.d x,.d y,.lst (l.map T.d),.lst (m.map T.d)]::r) S') :
  ∃p vs u v o n,xs[0]?=kv (.ref p)/\H p=kv (.tup vs)/\vs[2]?=kv (.ref u)/\vs[3]?=kv (.ref v)/\H u=kv (.lst o)/\H v=kv (.lst n)/\o.9=l.9/\n.9=m.9/\u≠v/\S' u/\S' v/\∀w:Hp,F t0=kv (.tup [.str "x",.str "y"])->(∀c,c≠u->c≠v->S' c->w c=H c)->w u=kv (.lst (o++[.int 99]))->w v=kv (.lst (n++[.ref t0]))->∃t' P1,Trs K F w kd xs (t'::r) P1/\∀c,P1 c->S' c:=by
 let#[w0,S1,g1,r0,s1,M]:=f3.part (i:=0) rfl;cases r0 with
 |@tup _ p vs _ _ k h1 h2 g h4 Z =>
  cases g with
  |@cons _ u0 _ _ _ _ A0 B0 a0 g n0 q0 =>
   cases g with
   |@cons _ u1 _ _ _ _ A1 B1 a1 g n1 q1 =>
    cases g with
    |@cons _ u2 _ _ _ _ A2 B2 a2 g A q2 =>
     cases g with
     |@cons _ u3 _ _ _ _ A3 B3 a3 g n3 q =>
      cases g with
      |nil nb =>
       cases a2 with
       |@lst _ u o _ _ j k1 k2 Q k4 s =>
        cases a3 with
        |@lst _ v n _ _ Sz j1 j2 R j4 Y =>
         have J:A2 u:=(s u).mpr (.inl rfl);have I:A3 v:=(Y v).mpr (.inl rfl);have O:∀c,A2 c->k c:=λc h=>(q0 c).mpr (.inr ((q1 c).mpr (.inr ((q2 c).mpr (.inl h)))));have N:∀c,A3 c->k c:=λc h=>(q0 c).mpr (.inr ((q1 c).mpr (.inr ((q2 c).mpr (.inr ((q c).mpr (.inl h)))))));have G:=O u J;have E:=N v I;have W:∀c,k c->S' c:=λc hc=>s1 c ((Z c).mpr (.inr hc));have P:u≠v:=λe=>A u J ((q u).mpr (.inl (by rw[e];exact I)));refine#[p,_,u,v,o,n,g1,h1,rfl,rfl,k1,j1,by rw[Q.9,QE],by rw[R.9,QE],P,W u G,W v E,λw ft B e2 e3=>?_];have d0:Tr K F w kd u0 (.d x) λ_=>False:=by cases a0 with|d r _=>exact .d r λ_ z=>z
         have d1:Tr K F w kd u1 (.d y) λ_=>False:=by cases a1 with|d r _=>exact .d r λ_ z=>z
         have l2:Tr K F w kd (.ref u) (.lst (l.map T.d++[.d (.int 99)])) λc=>c=u∨(j c∨False):=.lst e2 k2 (Trs.append (Q.mono (.refl _) λc hc=>#[B c (λz=>k4 (by rw[<- z];exact hc)) (λz=>A c ((s c).mpr (.inr hc)) ((q c).mpr (.inl (by rw[z];exact I)))) (W c (O c ((s c).mpr (.inr hc)))),(Q.dom c hc).2]) (Trs.one (.d (.int 99) λ_ z=>z)) λ_ _ z=>z) (λz=>z.elim k4 id) λc=>wW;have l3:Tr K F w kd (.ref v) (.lst (m.map T.d++[.d (.tuple [.str "x",.str "y"])])) λc=>c=v∨(Sz c∨False):=.lst e3 j2 (Trs.append (R.mono (.refl _) λc hc=>#[B c (λz=>A c (by rw[z];exact J) ((q c).mpr (.inl ((Y c).mpr (.inr hc))))) (λz=>j4 (by rw[<- z];exact hc)) (W c (N c ((Y c).mpr (.inr hc)))),(R.dom c hc).2]) (Trs.one (.d (.tup (xD.of ft) (.cons (.str _) (.cons (.str _) .nil))) λ_ z=>z)) λ_ _ z=>z) (λz=>z.elim j4 id) λc=>wW;have dl:∀c,(c=u∨(j c∨False))->¬ (c=v∨(Sz c∨False)):=λc a b=>A c ((s c).mpr (a.imp id λz=>z.elim id λz=>z.elim)) ((q c).mpr (.inl ((Y c).mpr (b.imp id λz=>z.elim id λz=>z.elim))));have t4:Trs K F w kd [u0,u1,.ref u,.ref v] [.d x,.d y,.lst (l.map T.d++[.d (.int 99)]),.lst (m.map T.d++[.d (.tuple [.str "x",.str "y"])])] λc=>(c=u∨(j c∨False))∨(c=v∨(Sz c∨False)) :=
          .cons (S2:=λc=>(c=u∨(j c∨False))∨(c=v∨(Sz c∨False))) d0 (.cons (S2:=λc=>(c=u∨(j c∨False))∨(c=v∨(Sz c∨False))) d1 (.cons l2 (Trs.one l3) dl λc=>wW) (λ_ z=>z.elim) λc=>#[.inr,λz=>z.elim (λz=>z.elim) id]) (λ_ z=>z.elim) λc=>#[.inr,λz=>z.elim (λz=>z.elim) id]
         have sub:∀c,((c=u∨(j c∨False))∨(c=v∨(Sz c∨False)))->k c:=λc hc=>by rcases hc with hc|hc;exact O c ((s c).mpr (hc.imp id λz=>z.elim id λz=>z.elim));exact N c ((Y c).mpr (hc.imp id λz=>z.elim id λz=>z.elim))
         have pn:∀{c},k c->c≠p:=λhc z=>h4 (by rw[<- z];exact hc);have L:Tr K F w kd (.ref p) (.tup [.d x,.d y,.lst (l.map T.d++[.d (.int 99)]),.lst (m.map T.d++[.d (.tuple [.str "x",.str "y"])])]) λc=>c=p∨((c=u∨(j c∨False))∨(c=v∨(Sz c∨False))):=.tup ((B p (Qm (pn G)) (Qm (pn E)) (s1 p ((Z p).mpr (.inl rfl)))).trans h1) h2 t4 (λz=>h4 (sub p z)) λc=>wW;let#[P1,w1,w2]:=M w _ _ (λc hc nc=>B c (λz=>nc ((Z c).mpr (.inr (by rw[z];exact G)))) (λz=>nc ((Z c).mpr (.inr (by rw[z];exact E)))) hc) L λc hc=>(Z c).mpr (hc.imp id (sub c));exact#[_,P1,w1,w2]
theorem Cq(g:GOk K Γ Ψ)(s:PT){N:kA->Prop}(cn:AF C s=kd)(I:Rl K F H S ρ σ)(h:Lx Ψ s N ρ)(k:∀F' A S' M Z,Sts C [] F H S ρ σ F' A S' M Z->Rl K F' A S' M Z->N M->X.nx Z A):ZG K Γ f s X σ H:=by
 rcases h with⟨i,t,c,a,rfl,hi,h⟩| ⟨ts,rfl,e6,l8,tl,h⟩
 refine(MA g c).t (R:=λb H1=>if b=kd then ZG K Γ f a X σ H1 else X.nx σ H1) (I.frz1 (C:=[]) hi).1.lockA (λ_ _ _ _ _ _ _ _ _ z=>z.elim) h λb F' A S' M s I' q=>?_;let#[rfl,q]:=q;have e:Same H A:=λb u e=>s.hh b u e (FC b);exact k F A S ρ σ #[.refl _,λb u h _=>e b u h,s.dm,λb h z=>Uz h z,λb h=>.inl h,λk u _ h _=>#[h,rfl,rfl],λ_ _=>rfl] (I.same e) q;have hC:8∉C:=λz=>by
  have c1:=(zA cn).1;have:(!C.contains 8)=true:=by simpa[Tg.ix]using c1
  rw[Qk.mpr z]at this;cases this
 let#[v6,s6,r6]:=I.sl 6 _ e6;have r6:Tr K F H kd v6 (.lst ts) (S 6):=r6;cases r6 with
 |@lst _ a xs _ _ S' f1 f2 f3 f4 f5 =>
  show(match σ[6]? with|some (kv v)=>jt K v kf (kv 1) H λx H1=>uC K .val [x] H1 λxs st H2=>V0 K xs st (.nm 8) _ X σ H2|_=>False);rw[s6];refine .inl #[a,xs,rfl,jC.of f1,λq hq=>.inl #[_,jC.of bA,?_]];have len8:8<σ.length:=by rw[<- I.len];exact l8
  rcases h with⟨rfl,qn⟩| ⟨x,y,l,m,r,rfl,ll,lm,qn⟩
  have x0:xs=[]:=QAp.mp f3.9;subst x0;intro J Y;refine#[λi m Z A=>i=0/\Z=σ/\A=pA H q (.lst []),#[0,rfl,rfl,rfl],?_];rintro i m Z A ⟨rfl,rfl,rfl⟩;have e0:Same H (pA H q (.lst [])):=EA hq;exact .inl #[Y.stop 0 _ (jC.of bA) (Qs _),k F _ S (ρ.set 8 kf) Z #[.refl _,λb u h _=>e0 b u h,λb e=>XA b e,λb h z=>Uz h z,λb #[j,t,e,hb]=>.inl #[j,t,(RA e).2,hb],λj u _ e _=>#[(RA e).2,rfl,rfl],λ_ _=>rfl] ((I.same e0).drop (by simp) λi s e=>(RA e).2) qn];have ff:∀{c},S' c->S 6 c:=λhc=>(f5 _).mpr (.inr hc);let#[p,vs,B,L,E,O,m1,m2,m3,m4,m5,Q,m7,m8,m9,m10,m11,_]:=kq a f3;obtain⟨w0,ws,rfl⟩:∃w0 ws,xs=w0::ws:=by
   cases xs with|nil=>cases m1|cons w0 ws=>exact#[w0,ws,rfl]
  have m1:w0=.ref p:=Qi m1;subst m1;have hcut:ON (.ref p::ws) kf (kv 1)=[.ref p]:=by unfold ON;rw[HT.sIx_none,show(kv 1:Option Int)=kv ((1:Nat):Int) from rfl,HT.sIx_nat];simp
  rw[hcut];have P:∀{c u},H c=kv u->c≠q:=λh=>oA h hq;intro J Y;refine#[λi m Z A=>(i=0/\m=1/\Z=σ/\A=pA H q (.lst [.ref p]))∨(i=1/\m=0/\jC K A q [.ref p]/\X.nx Z A),#[1,.inl #[rfl,rfl,rfl,rfl]],?_];rintro i mm Z A (⟨rfl,rfl,rfl,rfl⟩| ⟨rfl,rfl,g1,g2⟩);refine .inr #[Y.go 0 _ (jC.of bA) (QBB),λZ A=>jC K A q [.ref p]/\X.nx Z A,λZ A z=>#[0,QBB,.inr #[rfl,rfl,z]],λx' H2 hyl=>?_];let#[it,e1,e2]:=Y.yld 0 _ x' H2 (jC.of bA) QBB hyl;cases e1;let#[rfl,rfl]:=e2;have at2:∀{i:Nat}{v:V},vs[i]?=kv v->fE vs (i:Int)=kv v:=λh=>MC h;have s8:(Z.set 8 (kv (.ref p)))[8]?=kv (kv (.ref p)):=CP len8;show(match (Z.set 8 (kv (.ref p)))[8]? with|some (kv v)=>uS K v (.int 2) (pA H q (.lst [.ref p])) λw H3=>BU K "list" w H3/\oI w [.int 99] H3 λ_ H4=>(match (Z.set 8 (kv (.ref p)))[8]? with|some (kv v)=>uS K v (.int 3) H4 λw H5=>BU K "list" w H5/\[V.str "x",V.str "y"].9<=kt/\∀t,H5 t=kf->oI w [.ref t] (pA H5 t (.tup [V.str "x",V.str "y"])) λ_ H6=>jC K H6 q [.ref p]/\X.nx (Z.set 8 (kv (.ref p))) H6|_=>False)|_=>False);rw[s8];have n2q:=P m5;have n3q:=P Q;have npq:=P m2;have np2:p≠B:=λz=>by rw[z,m5]at m2;cases m2
  have h2:pA H q (.lst [.ref p]) B=kv (.lst E):=(jA n2q).trans m5;refine#[vs,.ref B,.inr (xD.of ((jA npq).trans m2)),at2 m3,.inl #[rfl,_,jC.of h2],B,E,.int 99,rfl,rfl,h2,(),?_];have h3:pA (pA H q (.lst [.ref p])) B (.lst (E++[.int 99])) L=kv (.lst O):=(jA (Qm m9)).trans ((jA n3q).trans Q);refine#[vs,.ref L,.inr (xD.of ((jA np2).trans ((jA npq).trans m2))),at2 m4,.inl #[rfl,_,jC.of h3],by show 2<=_;omega,λt ht=>?_];have ht0:H t=none:=XA t (XA t ht);have nt:∀{c u},H c=kv u->c≠t:=λh=>oA h ht0;have n3t:=nt Q;have nqt:q≠t:=oA (o:=.lst [.ref p]) (H:=pA (pA H q (.lst [.ref p])) B (.lst (E++[.int 99]))) ((jA (Qm n2q)).trans bA) ht;refine#[L,O,.ref t,rfl,rfl,(jA n3t).trans h3,(),jC.of ((jA (Qm n3q)).trans ((jA nqt).trans ((jA (Qm n2q)).trans bA))),?_];have ft:F t=none:=I.fh.free ht0;have H6:∀c,c≠q->c≠B->c≠L->c≠t->pA (pA (pA (pA H q (.lst [.ref p])) B (.lst (E++[.int 99]))) t (.tup [.str "x",.str "y"])) L (.lst (O++[.ref t])) c=H c:=λc a1 a2 a3 a4=>(jA a3).trans ((jA a4).trans ((jA a2).trans (jA a1)));have H62:pA (pA (pA (pA H q (.lst [.ref p])) B (.lst (E++[.int 99]))) t (.tup [.str "x",.str "y"])) L (.lst (O++[.ref t])) B=kv (.lst (E++[.int 99])):=(jA m9).trans ((jA (nt m5)).trans bA);have H63:pA (pA (pA (pA H q (.lst [.ref p])) B (.lst (E++[.int 99]))) t (.tup [.str "x",.str "y"])) L (.lst (O++[.ref t])) L=kv (.lst (O++[.ref t])):=bA;have H6t:pA (pA (pA (pA H q (.lst [.ref p])) B (.lst (E++[.int 99]))) t (.tup [.str "x",.str "y"])) L (.lst (O++[.ref t])) t=kv (.tup [.str "x",.str "y"]):=(jA (Qm n3t)).trans bA;have H6n:∀c,pA (pA (pA (pA H q (.lst [.ref p])) B (.lst (E++[.int 99]))) t (.tup [.str "x",.str "y"])) L (.lst (O++[.ref t])) c=kf->H c=none:=λc e=>XA c (XA c (XA c (XA c e)));generalize pA (pA (pA (pA H q (.lst [.ref p])) B (.lst (E++[.int 99]))) t (.tup [.str "x",.str "y"])) L (.lst (O++[.ref t]))=G at H6 H62 H63 H6t H6n;have sS:∀{c},S' c->H c≠none:=λhc=>(f3.dom _ hc).1;have ex:∀{c},H c≠kf->c≠q/\c≠t:=λh=>#[λz=>h (by rw[z];exact hq),λz=>h (by rw[z];exact ht0)]
  have f3':Trs K (pA F t (.tup [.str "x",.str "y"])) H kd (.ref p::ws) (.tup [.d x,.d y,.lst (l.map T.d),.lst (m.map T.d)]::r) S':=f3.mono (EA ft) λc hc=>#[rfl,(jA (ex (sS hc)).2).trans (f3.dom c hc).2]
  let#[p',vs',c2,c3,z2,z3,o1,o2,o3,o4,o5,o6,_,_,_,_,_,put]:=kq t f3';cases o1;rw[m2]at o2;cases o2;rw[m3]at o3;cases o3;rw[m4]at o4;cases o4;rw[m5]at o5;cases o5;rw[Q]at o6;cases o6;let#[t',P1,w1,w2]:=put G bA (λc a2 a3 hc=>H6 c (ex (sS hc)).1 a2 a3 (ex (sS hc)).2) H62 H63;have rp:=Trs.kept (HC λb hb=>(w1.dom b hb).2) w1 (F':=cF (pA F t (.tup [.str "x",.str "y"])) G P1) λb u hb e=>by rw[cE hb];exact e
  have dj:∀(j:Nat) s,j≠6->ρ[j]?=kv (kv s)->∀c,S j c->¬ S 6 c:=λj s n e c hc z=>I.dj 6 j _ s (Qm n) e6 e c z hc;have Gj:∀(j:Nat) s,j≠6->ρ[j]?=kv (kv s)->∀c,S j c->G c=H c/\cF (pA F t (.tup [.str "x",.str "y"])) G P1 c=none:=λj s n e c hc=>by let#[d1,d2]:=I.dom e hc;let#[x1,x2]:=ex d1;have W:=dj j s n e c hc;refine#[H6 c x1 (λz=>W (ff (by rw[z];exact m10))) (λz=>W (ff (by rw[z];exact m11))) x2,?_];rw[iB λz=>W (ff (w2 c z)),jA x2];exact d2
  have Sa:S 6 a:=(f5 a).mpr (.inl rfl);have na:∀{c},S' c->a≠c:=λhc z=>f4 (by rw[z];exact hc);have Ga:G a=kv (.lst (.ref p::ws)):=(H6 a (P f1) (na m10) (na m11) (nt f1)).trans f1;have r7:Tr K (cF (pA F t (.tup [.str "x",.str "y"])) G P1) G kd (.ref a) (.lst ((t'.er::ersT r).map T.d)) λb=>b=a:=.lst Ga (by rw[iB λz=>f4 (w2 a z),jA (nt f1)];exact f2) (Trs.of_reps rp) (λz=>z) λb=>#[.inl,λz=>z.elim id λz=>z.elim]
  have get:∀(j:Nat) s,((ρ.set 6 (kv (.own (.lst ((t'.er::ersT r).map T.d))))).set 8 kf)[j]?=kv (kv s)->(j=6/\s=.own (.lst ((t'.er::ersT r).map T.d)))∨(j≠6/\j≠8/\ρ[j]?=kv (kv s)):=λj s e=>by
   let#[n8,e]:=RA e;rcases uA e with⟨rfl,e,_⟩| ⟨W,e⟩
   exact .inl #[rfl,Qi e];exact .inr #[Qm W,n8,e]
  refine k (cF (pA F t (.tup [.str "x",.str "y"])) G P1) G (UF S 6 λb=>b=a) _ _ #[(EA ft).trans (HC λb hb=>(w1.dom b hb).2),λb u e nu=>?_,H6n,λb e z=>?_,λb hU=>?_,λj u _ e hd=>?_,λj hj=>nC λz=>hC (z▸hj)] #[λb u e=>?_,by simpa using I.len,λj s e=>?_,λi j u s nij e1 e2 b hi hj=>?_] (qn t'.er);let#[x1,x2]:=ex (c:=b) (by rw[e];simp);exact(H6 b x1 (λz=>nu #[6,_,e6,by rw[z];exact ff m10]) (λz=>nu #[6,_,e6,by rw[z];exact ff m11]) x2).trans e;by_cases hb:P1 b
  ·exact .inl #[6,_,e6,ff (w2 b hb)]
  rw[iB hb]at z;by_cases q:b=t;exact .inr (by rw[q];exact ht0);rw[jA q]at z;exact Uz e z;let#[j,u,e,hb]:=hU;rcases get j _ e with⟨rfl,_⟩| ⟨W,_,e⟩
  rw[iA]at hb;exact .inl #[6,_,e6,by rw[hb];exact Sa];rw[gA W]at hb;exact .inl #[j,u,e,hb];rcases get j _ e with⟨_,z⟩| ⟨W,n8,e⟩
  ·cases z
  exact#[e,gA W,nC (Qm n8)];by_cases hb:P1 b
  ·rw[cE hb]at e
   exact e
  rw[iB hb]at e;by_cases q:b=t;rw[q,bA]at e;rw[q,H6t];exact e;rw[jA q]at e;have eh:=I.fh b u e;let#[x1,x2]:=ex (c:=b) (by rw[eh];simp);have W:∀{c},S' c->b≠c:=λhc z=>by rw[z,(f3.dom _ hc).2]at e;cases e
  exact(H6 b x1 (W m10) (W m11) x2).trans eh;rcases get j s e with⟨rfl,rfl⟩| ⟨W,n8,e⟩
  ·exact#[_,(nC (by decide)).trans s6,by rw[iA];exact r7]
  let#[v,g2,g3]:=I.sl j s e;exact#[v,(nC (Qm n8)).trans g2,by rw[gA W];exact g3.mono ((EA ft).trans (HC λb hb=>(w1.dom b hb).2)) (Gj j s W e)];rcases get i _ e1 with⟨rfl,_⟩| ⟨W,_,e1⟩
  ·rw[iA]at hi
   rcases get j _ e2 with⟨z,_⟩| ⟨Q,_,e2⟩
   exact nij z.symm;rw[gA Q]at hj;exact dj j s Q e2 b hj (by rw[hi];exact Sa)
  rw[gA W]at hi;rcases get j _ e2 with⟨rfl,_⟩| ⟨Q,_,e2⟩
  rw[iA]at hj;exact dj i _ W e1 b hi (by rw[hj];exact Sa);rw[gA Q]at hj;exact I.dj i j u s nij e1 e2 b hi hj;exact .inl #[Y.stop 1 _ g1 (QT _),g2]
end
end
section
variable{K:QA}{Γ:Ev}{Ψ:PEv}{E:XE}{O:XK}{F H D B F2 N:Hp}{S S1 S2:Ft}{ρ A M:kA}{σ G P:St}{C J:LN}
theorem Sts.bind{L:LN}(s:Sts C J F H S ρ σ D B S1 A G)(b:Bd L D B S1 A G F2 N S2 M P)(v:∀j∈L,j∈J)(w:∀j∈L,j∉C):Sts C J F H S ρ σ F2 N S2 M P :=
 #[s.ff.trans b.ff,λx u e n=>b.hh x u (s.hh x u e n),λx e=>s.dm x (b.dm x e),λx e z=>by
  by_cases q:D x=kf;exact .inr (s.dm x (b.fn x q z));exact s.fn x e q,λx u=>s.uu x (b.U u),λj t h e y=>by
  let#[l,i,g]:=b.out j λz=>h (v j z);rw[l]at e;let#[f,a,k]:=s.bo j t h e y;exact#[f,i.trans a,g.trans k],λj h=>(b.out j λz=>w j z h).2.2.trans (s.sg j h)]
theorem xY{f:Tg}{body:PEnds->kA->Prop}{tb:TS}{Z:PEnds}{Dn:Ends}{xs:List Item}{l:LT}{st:Hp->Prop}{Y:fB}
  (ib:∀{F H:Hp}{S:Ft}{ρ:kA}{σ:St}{Z:PEnds}{Dn:Ends},Rl K F H S ρ σ->aE K F H S ρ E O->body Z ρ->EndsOk K C F H S ρ σ Z Dn->tb Dn σ H)
  (I:Rl K F H S ρ σ) (X:aE K F H S ρ E O) (hC:∀j∈f.ix,j∉C) (pr:y0 (iY K F H Y) xs l) (hy:∀b,Y b->¬ U ρ S b/\H b≠kf/\F b=kf) (hst:∀F' k,Same F F'->Same F' k->(∀b,Y b->k b=H b)->st k) (h:BH body f Z l ρ)
  (R:∀F' k S' z w,Sts C f.ix F H S ρ σ F' k S' z w->Rl K F' k S' z w->Z.nx z->Dn.nx w k)
  (ort:∀v t W F' k S' z w,Stc C F H S ρ σ F' k S' z w->Rl K F' k S' z w->Tr K F' k kd v t W->Held F' k S' z W->(∀b,W b->H b=kf∨U ρ S b)->Z.rt t z->Dn.rt v k):V0 K xs st f tb Dn σ H:=by
 intro J hJ;have len:=qC pr;have yk:∀{D B:Hp}{S1:Ft}{A:kA}{G:St},Sts C f.ix F H S ρ σ D B S1 A G->∀b,Y b->B b=H b/\D b=none:=λ{D B S1 A G} s b hb=>by
  let#[n,d1,d2]:=hy b hb;refine#[?_,?_];cases e:H b with|none=>exact Uz e d1|some u=>exact s.hh b u e n
  by_cases q:D b=kf
  ·exact q
  exact((s.fn b d2 q).elim n d1).elim
 refine#[λi m w k=>i<=xs.9/\m=xs.9 - i/\∃z F' S',Sts C f.ix F H S ρ σ F' k S' z w/\Rl K F' k S' z w/\BH body f Z (l.drop i) z,#[_,Qs _,rfl,ρ,F,S,.refl,I,by simpa using h],?_];rintro i m G B ⟨hi,rfl,A,D,S1,o,I1,h1⟩;have hs:=hst D B o.ff I1.fh λb hb=>(yk o b hb).1;rcases QAR i xs.9 with g|hge;refine .inr #[hJ.go i B hs g,λw k=>i+1<=xs.9/\∃z F' S',Sts C f.ix F H S ρ σ F' k S' z w/\Rl K F' k S' z w/\BH body f Z (l.drop (i+1)) z,λw k #[a,b]=>#[_,(),a,rfl,b],λx N hyl=>?_];let#[it,hx,hm]:=hJ.yld i B x N hs g hyl;let#[y,hd,ry]:=Paired.get_of pr hx;rw[hd]at h1;unfold BH at h1;have key:L3.bindI K f it G B λP N=>tb { Dn with nx:=λw k=>i+1<=xs.9/\∃z F' S',Sts C f.ix F H S ρ σ F' k S' z w/\Rl K F' k S' z w/\BH body f Z (l.drop (i+1)) z,ct:=λw k=>i+1<=xs.9/\∃z F' S',Sts C f.ix F H S ρ σ F' k S' z w/\Rl K F' k S' z w/\BH body f Z (l.drop (i+1)) z,bk:=Dn.nx } P N:=by
  refine zN I1 (λb hb u=>?_) (ry.mono o.ff (yk o)) h1 λM P F2 H3 S2 bd I2 h2=>?_;rcases o.uu b u with q|q
  ·exact(hy b hb).1 q
  exact(hy b hb).2.1 q;have Q:=o.bind bd (λj hj=>hj) hC;exact ib I2 (X.fromS Q) h2 #[λF' k S' z w p L q=>#[g,z,F',S',Q.trans p,L,q],λv t W F' k S' z w p L r hw fr q=>ort v t W F' k S' z w (Q.c.trans p) L r hw (mw Q fr) q,
   λF' k S' z w p L q=>R F' k S' z w (Q.trans p) L q,λF' k S' z w p L q=>#[g,z,F',S',Q.trans p,L,q]]
 exact GH hm key;have e:l.drop i=[]:=ww ();rw[e]at h1;exact .inl #[hJ.stop i B hs hge,R D B S1 A G o I1 h1]
theorem BE:∀(J:LN) (ρ:kA) (i:Nat) s,(kill J ρ)[i]?=kv (kv s)->ρ[i]?=kv (kv s)/\(i∈J->∀t,s=.bor t->t.isD=kd)
 |[],ρ,i,s,h=>#[h,λz=>by simp at z]|j::J,ρ,i,s,h=>by
  unfold kill at h;let#[x,w]:=BE J _ i s h;rw[W0]at x;by_cases e:j=i;subst e;simp only[reduceIte]at x;cases q:ρ[j]? with
  |none=>rw[q]at x;cases x|some o =>
   rw[q]at x;have x:iK o=kv s:=by simpa using x
   cases o with
   |none=>cases x|some v =>
    cases v with
    |own t=>cases x;exact#[rfl,λ_ u z=>by cases z]|bor t =>
     have x:(if t.isD=kd then kv (Sl.bor t) else kf)=kv s:=x;cases y:t.isD with|true=>rw[y,t6 rfl]at x;cases x;exact#[rfl,λ_ u z=>by cases z;exact y]|false=>rw[y]at x;simp at x
  simp only[e,if_false]at x;refine#[by simpa using x,λm=>w ((QM.mp m).elim (λz=>Uz z.symm e) id)]
theorem CI:∀(J:LN) (ρ:kA),(kill J ρ).9=ρ.9
 |[],_=>rfl|j::J,ρ=>by unfold kill;rw[CI J];simp
theorem Sts.kill(s:Sts C J F H S ρ σ D B S1 A G):Sts C [] F H S ρ σ D B S1 (L3.kill J A) G :=
 #[s.ff,s.hh,s.dm,s.fn,λb #[i,t,y,x]=>s.uu b #[i,t,(BE J A i _ y).1,x],λj t _ e h=>by let#[y,x]:=BE J A j _ e;by_cases z:j∈J;rw[x z t rfl]at h;cases h;exact s.bo j t z y h,s.sg]
theorem HS:∀(L:LN) (ρ:kA) (j:Nat),(lock L ρ)[j]?=if j∈L then ρ[j]?.map eB else ρ[j]?
 |[],ρ,j=>by simp[lock]|i::L,ρ,j=>by
  have x:∀o,eB (eB o)=eB o:=λo=>by
   match o with
   |none=>rfl|some (.own _)=>rfl|some (.bor _)=>rfl
  unfold lock;rw[HS L,W0];by_cases e:i=j;subst e;cases h:ρ[i]? with|none=>simp|some o=>simp[x]
  have y:¬ j=i:=λz=>e z.symm;simp[e,y]
theorem GS:∀(L:LN) (ρ:kA),(lock L ρ).9=ρ.9
 |[],_=>rfl|i::L,ρ=>by unfold lock;rw[GS L];simp
theorem VL:∀(L:LN) (x ρ:kA) (j:Nat),(∀i∈L,i<ρ.9)->(XC L x ρ)[j]?=if j∈L then kv (x[j]?.getD kf) else ρ[j]?
 |[],x,ρ,j,_=>by simp[XC]|i::L,x,ρ,j,h=>by unfold XC;rw[VL L x _ j (λk hk=>by simpa using h k (QD _ hk)),wH];by_cases e:i=j;subst e;simp[h i QF];have y:¬ j=i:=λz=>e z.symm;simp[e,y]
theorem KL:∀(L:LN) (h ρ:kA),(XC L h ρ).9=ρ.9
 |[],_,_=>rfl|i::L,h,ρ=>by unfold XC;rw[KL L];simp
theorem JH{ρ:kA}:∀(is:LN),∀i∈oC ρ is,∃t,ρ[i]?=kv (kv (.own t))
 |[],i,h=>by simp[oC]at h|j::is,i,h=>by
  unfold oC at h;split at h
  ·rename_i ho
   rcases QM.mp h with e|e
   ·subst e
    unfold lM at ho;split at ho;rename_i t e;exact#[t,e]
    all_goals cases ho
   exact JH is i e
  exact JH is i h
theorem gM{ρ:kA}{i:Nat}{t:T}(h:ρ[i]?=kv (kv (.own t))):∀(is:LN),i∈is->i∈oC ρ is
 |[],hi=>by simp at hi|j::is,hi=>by
  unfold oC;rcases QM.mp hi with e|e;subst e;have:lM ρ[i]?=true:=by rw[h];rfl
  rw[t6 this];exact QF;have:=gM h is e;split;exact QD _ this;exact this
section
variable{L:LN}(y:∀i∈L,∃t,ρ[i]?=kv (kv (.own t)))
include y
theorem eK{i:Nat}{s:Sl}(h:(lock L ρ)[i]?=kv (kv s)):(i∈L/\∃t,ρ[i]?=kv (kv (.own t))/\s=.bor t)∨(i∉L/\ρ[i]?=kv (kv s)):=by rw[HS]at h;by_cases x:i∈L;rw[t6 x]at h;let#[t,e]:=y i x;rw[e]at h;injection h with h;injection h with h;exact .inl #[x,t,e,h.symm];rw[t3 x]at h;exact .inr #[x,h]
theorem vF{b:k0}(h:U (lock L ρ) S b):U ρ S b:=by
 let#[i,t,x,z]:=h;rcases eK y x with⟨_,u,_,e⟩| ⟨_,x⟩
 cases e;exact#[i,t,x,z]
theorem Rl.lock(I:Rl K F H S ρ σ):Rl K F H S (L3.lock L ρ) σ where
 fh:=I.fh
 len:=by rw[GS];exact I.len
 sl:=λi s e=>by
  rcases eK y e with⟨_,t,h,rfl⟩| ⟨_,h⟩
  let#[v,u,x]:=I.sl i _ h;exact#[v,u,x.weak];exact I.sl i s h
 dj:=λi j t s n k w=>by
  rcases eK y k with⟨_,_,_,z⟩| ⟨_,u⟩
  cases z;rcases eK y w with⟨_,a,x,_⟩| ⟨_,x⟩
  ·exact I.dj i j t _ n u x
  exact I.dj i j t s n u x
theorem Rl.lockU(I:Rl K F H S ρ σ){i:Nat}(x:i∈L){b:k0}(hb:S i b):¬ U (L3.lock L ρ) S b:=λ#[j,t,h,v]=>by
 let#[w,e]:=y i x;rcases eK y h with⟨_,_,_,z⟩| ⟨u,h⟩
 cases z;exact I.dj j i t _ (λz=>u (z▸x)) h e b v hb
theorem VY(I:Rl K F H S ρ σ)(s:Sts C [] F H S (lock L ρ) σ D B S1 A G)(W:Rl K D B S1 A G)(hl:∀i∈L,A[i]?=ρ[i]?.map eB) :
  ∃S2,Rl K D B S2 (XC L ρ A) G/\Sts C [] F H S ρ σ D B S2 (XC L ρ A) G:=by
 classical
 have l1:∀i∈L,∃t,ρ[i]?=kv (kv (.own t))/\A[i]?=kv (kv (.bor t)):=λi h=>by let#[t,e]:=y i h;have:=hl i h;rw[e]at this;exact#[t,e,this]
 have hlt:∀i∈L,i<A.length:=λi h=>by let#[t,_,e]:=l1 i h;exact(Qf.mp e).1
 let S2:Ft:=λi=>if i∈L then S i else S1 i
 have l:∀i∈L,S2 i=S i:=λi h=>t6 h;have g:∀i,i∉L->S2 i=S1 i:=λi h=>t3 h;have get:∀i a,(XC L ρ A)[i]?=kv (kv a)->(i∈L/\∃t,ρ[i]?=kv (kv (.own t))/\A[i]?=kv (kv (.bor t))/\a=.own t)∨(i∉L/\A[i]?=kv (kv a)):=λi a e=>by rw[VL L ρ A i hlt]at e;by_cases h:i∈L;rw[t6 h]at e;let#[t,f,Y]:=l1 i h;rw[f]at e;injection e with e;have e:kv (Sl.own t)=kv a:=e;injection e with e;exact .inl #[h,t,f,Y,e.symm];rw[t3 h]at e;exact .inr #[h,e]
 have Q:∀i∈L,∀k a,k∉L->A[k]?=kv (kv a)->∀b,S i b->¬ S1 k b:=λi h k a hk e b hb z=>by
  let#[t,f,_]:=l1 i h;cases a with
  |own u=>rcases s.uu b ⟨k,u,e,z⟩ with q|q;exact I.lockU y h hb q;exact(I.dom f hb).1 q
  |bor u =>
   cases o:u.isD with
   |true=>exact W.isD e o z|false =>
    let#[m,p,_]:=s.bo k u (by simp) e o;rw[p]at z;rcases eK y m with⟨q,_⟩| ⟨_,m⟩
    exact hk q;exact I.dj i k t _ (λq=>hk (q▸h)) f m b hb z
 refine#[S2,#[W.fh,by rw[KL];exact W.len,λi a e=>?_,λi k t a n f Y b hb hk=>?_],#[s.ff,λb u e n=>s.hh b u e λz=>n (vF y z),s.dm,λb e z=>(s.fn b e z).imp (vF y) id,λb #[i,t,h1,R]=>?_,λj t _ e o=>?_,s.sg]];rcases get i a e with⟨h,t,f,Y,rfl⟩| ⟨h,f⟩
 ·rw[l i h]
  let#[v,m,p]:=I.sl i _ f;cases o:t.isD with
  |true =>
   let#[v',g3,g4]:=W.sl i _ Y;refine#[v',g3,?_];have nb:∀b,¬ S i b:=λb=>I.isD f o;cases t with
   |d x =>
    have g4:Tr K D B kb v' (.d x) (S1 i):=g4;cases g4 with|d r _=>exact .d r nb
   |_=>cases o
  |false =>
   let#[_,_,g5]:=s.bo i t (by simp) Y o;refine#[v,g5.trans m,?_];have p:Tr K F H kd v t (S i):=p;refine p.mono s.ff λb hb=>?_;let#[d1,d2]:=p.dom b hb;have nu:=I.lockU y h hb;refine#[?_,?_];cases eb:H b with|none=>exact Uz eb d1|some u=>exact s.hh b u eb nu
   by_cases q:D b=kf
   ·exact q
   exact((s.fn b d2 q).elim nu d1).elim
 rw[g i h];exact W.sl i a f;rcases get i _ f with⟨h,t',X,a2,_⟩| ⟨h,X⟩
 ·rw[l i h]at hb
  rcases get k a Y with⟨w,t2,Z,b2,_⟩| ⟨w,Z⟩
  rw[l k w]at hk;exact I.dj i k t' _ n X Z b hb hk;rw[g k w]at hk;exact Q i h k a w Z b hb hk
 rw[g i h]at hb;rcases get k a Y with⟨w,t2,Z,b2,_⟩| ⟨w,Z⟩
 rw[l k w]at hk;exact Q k w i _ h X b hk hb;rw[g k w]at hk;exact W.dj i k t a n X Z b hb hk;rcases get i _ h1 with⟨h,t',X,a2,_⟩| ⟨h,X⟩
 ·rw[l i h]at R
  exact .inl #[i,t',X,R]
 rw[g i h]at R;exact(s.uu b #[i,t,X,R]).imp (vF y) id;rcases get j _ e with⟨_,_,_,_,z⟩| ⟨hj,f⟩
 ·cases z
 let#[m,p,g3]:=s.bo j t (by simp) f o;rcases eK y m with⟨q,_⟩| ⟨_,m⟩
 exact Uz q hj;exact#[m,(g j hj).trans p,g3]
end
theorem uL{i:Nat}(h:(!C.contains i)=kd):i∉C:=λz=>by have:C.contains i=true:=Qk.mpr z;rw[this]at h;cases h
theorem aS{is:LN}(h:(is.all λi=>!C.contains i)=kd):∀i∈is,i∉C:=λi x=>uL (Ql.mp h i x)
theorem dR:∀{xs:List (T×Bool)},bN xs=kd->∀t∈MN xs,t.isD=kd
 |[],_,t,h=>by simp[MN]at h|p::r,h,t,y=>by
  simp only[bN,Qb]at h;simp only[MN,QM]at y;rcases y with rfl|y;let#[x,n]:=p;cases n with
  |true=>rfl|false =>
   have z:=h.1;cases x with|d x=>rfl|_=>cases z
  exact dR h.2 t y
theorem Tn.bare{Y:fB}{vs:LV}{ts:LT}(h:Tn K F H Y vs ts):(∀t∈ts,t.isD=kd)->Tn K F H (λ_=>False) vs ts:=by
 induction h with
 |nil=>exact λ_=>.nil|@cons v t vs ts Z r z a w =>
  intro y;refine .cons (Z:=λ_=>False) ?_ (λ_ z=>z) (w λu k=>y u (QD _ k));have y:=y t QF;cases t with
  |d x=>cases r with|d q _=>exact .d q λ_ z=>z
  |_=>cases y
theorem R3{v:V}{t:T}{W:fB}{Z:PEnds}{Dn:Ends}(ok:EndsOk K C F H S ρ σ Z Dn)(s:Ste F H S ρ D B S1 A)(I:Rl K D B S1 A σ)(r:Tr K D B kd v t W)(h:Held D B S1 A W)(fr:∀b,W b->H b=kf∨U ρ S b)(q:Z.rt t A):Dn.rt v B :=
 ok.rt v t W D B S1 A σ (s.toStp.sts (J:=[])).c I r h fr q
theorem S9(g:GOk K Γ Ψ):∀(e:PX) {F H:Hp}{S:Ft}{ρ:kA}{σ:St}{Z:PEnds}{Dn:Ends},Rl K F H S ρ σ->aE K F H S ρ E O->LK Ψ E Z.rt e ρ->EndsOk K C F H S ρ σ Z Dn->(wp K Γ e O).e σ H Dn.rt:=by
  intro e F H S ρ σ Z Dn I X h ok;have a:∀e,(pe Ψ e E).e ρ (λx n A=>DH x n=kd/\Z.rt x A)->(wp K Γ e O).e σ H Dn.rt:=λe h=>by refine(MA g e).e (Q:=λx n A=>DH x n=kd/\Z.rt x A) I X h λv F' H' S' f x n R s J r #[p,q]=>?_;let#[W,l,m,fr]:=r.strict p;exact R3 ok s J l m fr q
  cases e with
  |var i =>
   have y:Ru ρ i Z.rt ρ[i]?:=h;show(match σ[i]? with|some (kv v)=>Dn.rt v _|_=>False)
   match k:ρ[i]?,y with
   |some (kv (.own t)),y =>
    let#[v,w,r]:=I.sl i _ k;rw[w];have L:Rl K F H S (ρ.set i kf) σ:=I.drop (by simp) λj s e=>by
     rcases uA e with⟨_,z,_⟩| ⟨_,e⟩
     cases z;exact e
    refine ok.rt v t (S i) F H S (ρ.set i kf) σ #[.refl _,λb u e _=>e,λb e=>e,λb e z=>Uz e z,λb #[j,u,w,Y]=>.inl ?_,λ_ _=>rfl] L r #[r.dom,λj s e b hb z=>?_] (λb hb=>.inr #[i,t,k,hb]) y;rcases uA w with⟨_,z,_⟩| ⟨_,w⟩
    ·cases z
    exact#[j,u,w,Y];rcases uA e with⟨_,q,_⟩| ⟨n,e⟩
    ·cases q
    exact I.dj i j t s n k e b hb z
   |some (kv (.bor t)),y =>
    let#[v,w,r]:=I.sl i _ k;rw[w];let#[o,y]:=y;cases t with
    |d x =>
     have r:Tr K F H kb v (.d x) (S i):=r;cases r with|d q n=>exact R3 (W:=λ_=>False) ok .refl I (.d q λ_ z=>z) .none (λ_ z=>z.elim) y
    |_=>cases o
   |some kf,y=>exact y.elim|none,y=>exact y.elim
  |_=>exact a _ h
theorem Bc(g:GOk K Γ Ψ){e:PX}{Y:PEnds->kA->Prop}{p:PT}{Nx:kA->Prop}{Dn:Ends}{xs:List Item}{ys:LT}{st:Hp->Prop}{hd0:T}{v0:V}{Sh0:fB}
  (im:∀{F H:Hp}{S:Ft}{ρ:kA}{σ:St}{Z:PEnds}{Dn:Ends},Rl K F H S ρ σ->aE K F H S ρ E O->Y Z ρ->EndsOk K C F H S ρ σ Z Dn->ZG K Γ O p Dn σ H)
  (I:Rl K F H S ρ σ) (X:aE K F H S ρ E O) (h8:8∉C) (h9:9∉C) (pr:y0 (iY K F H λ_=>False) xs ys) (hst:∀F' l,Same F F'->Same F' l->(∀b,False->l b=H b)->st l) (s0:σ[5]?=kv (kv v0)) (r0:Tr K F H kb v0 hd0 Sh0) (d0:∀(j:Nat) s,j≠5->j≠7->ρ[j]?=kv (kv s)->∀b,Sh0 b->¬ S j b) (h:z9 Ψ e Y Nx ys ρ hd0)
  (onx:∀F' l S' w f,Sts C [8] F H S ρ σ F' l S' w f->Rl K F' l S' w f->Nx w->Dn.nx f l):V0 K xs st (.nm 8) (ZG K Γ O (.seq (.set 9 e) (zO p))) Dn σ H:=by
 intro J hJ;have len:=qC pr;refine#[λi m f l=>i<=xs.9/\m=xs.9 - i/\∃w F' S' L v W,Sts C [8] F H S ρ σ F' l S' w f/\Rl K F' l S' w f/\f[5]?=kv (kv v)/\Tr K F' l kb v L W/\(∀(j:Nat) s,j≠5->j≠7->w[j]?=kv (kv s)->∀b,W b->¬ S' j b)/\z9 Ψ e Y Nx (ys.drop i) w L,#[_,Qs _,rfl,ρ,F,S,hd0,v0,Sh0,.refl,I,s0,r0,d0,by simpa using h],?_];rintro i m G B ⟨hi,rfl,A,D,S1,L,v,W,s1,I1,sv,rv,dv,h1⟩;have hs:=hst D B s1.ff I1.fh λb hb=>hb.elim;rcases QAR i xs.9 with hlt|hge;refine .inr #[hJ.go i B hs hlt,λf l=>i+1<=xs.9/\∃w F' S' L v W,Sts C [8] F H S ρ σ F' l S' w f/\Rl K F' l S' w f/\f[5]?=kv (kv v)/\Tr K F' l kb v L W/\(∀(j:Nat) s,j≠5->j≠7->w[j]?=kv (kv s)->∀b,W b->¬ S' j b)/\z9 Ψ e Y Nx (ys.drop (i+1)) w L,λf l #[a,b]=>#[_,(),a,rfl,b],λx N hyl=>?_];let#[it,hx,hm]:=hJ.yld i B x N hs hlt hyl;let#[y,hdr,ry]:=Paired.get_of pr hx;rw[hdr]at h1;let#[yd,h1]:=h1;refine GH hm (zN (QP:=λM=>(∀s,M[8]?=kv (kv s)->s=.bor y)/\(pe Ψ e λ_=>False).e (((lockA M).set 7 kf).set 5 (bD L.er)) λt _ _=>∃c,t=.d (.bool c)/\Y { nx:=λo=>∃n b lv h ts,o[8]?=kv (bD n)/\o[9]?=kv (bD b)/\o[10]?=kv (kv (.own lv))/\o[5]?=kv (kv (.own h))/\o[7]?=kv (kv (.own (.lst ts)))/\ts.9<=1000/\z9 Ψ e Y Nx (ys.drop (i+1)) (((o.set 10 kf).set 5 kf).set 7 (kv (.own (.lst (ts++[.tup [.d n,.d b,lv,h]]))))) h,rt:=λ_ _=>False } (M.set 9 (bD (.bool c)))) I1 (λb hb=>hb.elim) (ry.mono s1.ff λb hb=>hb.elim) #[λs hs=>by rcases uA hs with⟨_,z,_⟩| ⟨z,_⟩;exact Qi z;exact Uz rfl z,h1] λM P F2 H3 S2 bd I2 h2=>?_);let#[b8,h2]:=h2;have s2:=s1.bind bd (λj hj=>hj) λj hj=>by rw[QI.mp hj];exact h8
 have sv2:P[5]?=kv (kv v):=(bd.out 5 (by decide)).2.2.trans sv;have Q:Tr K F2 H3 kb v L W:=rv.mono bd.ff λb hb=>#[by
  let#[d1,_]:=rv.dom b hb;cases e:B b with
  |none=>exact Uz e d1|some u=>exact bd.hh b u e,by
  by_cases q:F2 b=kf;exact q;exact Uz (bd.fn b (rv.dom b hb).2 q) (rv.dom b hb).1]
 have dv2:∀(j:Nat) s,j≠5->j≠7->M[j]?=kv (kv s)->∀b,W b->¬ S2 j b:=λj s n5 n7 e b hb z=>by by_cases e8:j=8;subst e8;have:=b8 s e;subst this;exact I2.isD e yd z;let#[o1,o2,_]:=bd.out j λz=>e8 (QI.mp z);rw[o2]at z;exact dv j s n5 n7 (o1.symm.trans e) b hb z
 have I0:Rl K F2 H3 S2 (((lockA M).set 7 kf).set 5 kf) P:=I2.lockA.drop (by simp) λi s e=>(RA (RA e).2).2;have hw:Held F2 H3 S2 (((lockA M).set 7 kf).set 5 kf) W:=#[Q.dom,λj s e b hb z=>by let#[n5,e]:=RA e;let#[n7,e]:=RA e;let#[s0,e,_]:=zB e;exact dv2 j s0 n5 n7 e b hb z]
 have kp:Rep K (cF F2 H3 W) v L.er:=Tr.kept (HC λb hb=>(Q.dom b hb).2) Q λb u hb e=>by rw[cE hb];exact e
 have I3:=(I0.frz hw).setD 5 kp;rw[LL sv2,List.set_set]at I3;refine(MA g e).e (R:=λx H4=>ZG K Γ O (zO p) { Dn with nx:=_,ct:=_,bk:=Dn.nx } (P.set 9 (kv x)) H4) I3 (λ_ _ _ _ _ _ _ _ _ z=>z.elim) h2 λx F' H4 S' w t n Z s' I' r #[c,ec,qm]=>?_;subst ec;have xb:x=.bl c:=by
  have:=r.tr;cases this with|d q _=>cases q;rfl
 subst xb;have e0:Same H3 H4:=λb u e=>s'.hh b u e λ#[i,t,e1,_]=>by
  rcases uA e1 with⟨_,z,_⟩| ⟨_,e1⟩
  cases z;let#[_,e1]:=RA e1;let#[s0,_,z]:=zB e1;cases z
 have I4:=(I2.same e0).setD 9 (.bl c);have s4:=(s2.trans (show Sts C [] F2 H3 S2 M P F2 H4 S2 M P from#[.refl _,λb u h _=>e0 b u h,s'.dm,λb h z=>Uz h z,λb h=>.inl h,λk u _ h _=>#[h,rfl,rfl],λ_ _=>rfl])).setD 9 h9 (.bl c) (t:=.d (.bool c)) rfl λ_=>False;rw[G1];refine im I4 (X.fromS s4) qm #[λF5 H5 S5 ρ5 σ5 s5 I5 #[n,b,lv,h,ts,e8,e9,e10,e5,e7,tl,go]=>?_,λ_ _ _ _ _ _ _ _ _ _ _ _ _ z=>z.elim,λ_ _ _ _ _ _ _ z=>z.elim,λ_ _ _ _ _ _ _ z=>z.elim];refine km I5 e8 e9 e10 e5 e7 tl λH6 S7 v6 g1 g2 g3 g4=>#[hlt,_,F5,_,h,v6,S5 5,s4.trans (s5.trans g4),g3,g1,g2,λj s n5 n7 e b hb z=>?_,go]
 rw[gA n7]at z;rcases uA e with⟨e,_,_⟩| ⟨_,e⟩
 exact n7 e.symm;exact I5.dj 5 j _ s (Qm n5) e5 (RA (RA e).2).2 b hb z;have e:ys.drop i=[]:=ww ();rw[e]at h1;exact .inl #[hJ.stop i B hs hge,onx D B S1 A G s1 I1 h1]
theorem zH(g:GOk K Γ Ψ):∀(p:PT) {F H:Hp}{S:Ft}{ρ:kA}{σ:St}{Z:PEnds}{Dn:Ends},AF C p=kd->Rl K F H S ρ σ->aE K F H S ρ E O->xB Ψ E p Z ρ->EndsOk K C F H S ρ σ Z Dn->ZG K Γ O p Dn σ H
 | .nil,_,_,_,_,_,_,_,c,I,X,h,ok=>ok.nx _ _ _ _ _ .refl I h|.seq s r,_,_,_,_,_,_,_,c,I,X,h,ok=>by let#[c1,c2]:=zA c;exact zH g s c1 I X h #[λF' H' S' L R s' J q=>zH g r c2 J (X.fromS s') q (ok.from s'),ok.rt,ok.bk,ok.ct]|.set i e,F,H,S,ρ,σ,Z,Dn,c,I,X,h,ok=>by have hi:=uL c;refine KF (RR:=λx B=>Dn.nx (σ.set i (kv x)) B) (MA g e) I X h λv F' H' S' L x n Za s J X' r er _ #[he,q]=>?_;exact ok.nx _ _ _ _ _ (s.toStp.sts.setD i hi v rfl _) (J.setD i (er he)) q|.expr e,F,H,S,ρ,σ,Z,Dn,c,I,X,h,ok=>(MA g e).e I X h λv F' H' S' L x n Za s J r q=>ok.nx _ _ _ _ _ s.toStp.sts J q|.ret e,F,H,S,ρ,σ,Z,Dn,c,I,X,h,ok=>S9 g e I X h ok|.ife t a b,F,H,S,ρ,σ,Z,Dn,c,I,X,h,ok=>by
  let#[c1,c2]:=zA c;refine(MA g t).t I X h λk F' H' S' L s J q=>?_;cases k with|true=>exact zH g a c1 J (X.from s.toStp) q (ok.from s.toStp.sts)|false=>exact zH g b c2 J (X.from s.toStp) q (ok.from s.toStp.sts)
 | .for_ tg ik its body,F,H,S,ρ,σ,Z,Dn,c,I,X,h,ok=>by
  let#[c1,c2]:=zA c;have hC:=aS c1;refine uR (RR:=λvs B=>uC K ik vs B λxs st N=>V0 K xs st tg (ZG K Γ O body) Dn σ N) (MA g its) I X h λvs D B S1 A xs Y s1 I1 X1 tn tm q=>?_;rw[rJ _ rfl]at q;have ok1:=ok.from s1.toStp.sts;cases ha:bN xs with
  |true=>have tn':=tn.bare (dR ha);refine MG I1.fh tn' q λits ys st pr hst hc=>?_;rw[ha,t6 rfl]at hc;refine xY (λI X h ok=>zH g body c2 I X h ok) I1 X1 hC pr (λb z=>z.elim) hst hc ?_ ?_;exact λF' H' S' L R s' I' q=>ok1.nx _ _ _ _ _ s'.kill (I'.drop (CI _ _) λi sl e=>(BE _ _ i sl e).1) q;exact λv t W F' H' S' L R s' I' r hw fr q=>ok1.rt v t W F' H' S' L R s' I' r hw fr q|false =>
   refine MG I1.fh tn q λits' ys st pr hst hc=>?_;rw[ha,t3 (by simp)]at hc;have hL:=JH (ρ:=A) (SG its);have IL:=I1.lock hL;have sL:Sts C [] D B S1 A σ D B (λ_ _=>False) [] σ:=#[.refl _,λb u e _=>e,λb e=>e,λb e z=>Uz e z,λb #[i,t,e,_]=>by simp at e,λj t _ e=>by simp at e,λ_ _=>rfl]
   have XL:aE K D B S1 (lock (oC A (SG its)) A) E O:=λx dx F2 N S2 M s2 f r q =>
    X1 x dx F2 N (λ_ _=>False) [] #[s2.ff,λb u e n=>s2.hh b u e λz=>n (vF hL z),s2.dm,λb e z=>(s2.fn b e z).imp (vF hL) id,λb #[i,t,e,_]=>by simp at e,λj t e=>by simp at e] f r q
   refine xY (λI X h ok=>zH g body c2 I X h ok) IL XL hC pr (λb hb=>?_) hst hc ?_ ?_;let#[i,sl,h1,h2,h3]:=tm b hb;refine#[λu=>?_,I1.dom h2 h3];cases sl with
   |own t=>exact I1.lockU hL (gM h2 _ h1) h3 u|bor t =>
    let#[j,t',e1,e2]:=u;rcases eK hL e1 with⟨_,_,_,z⟩| ⟨_,e1⟩
    cases z;exact I1.dj j i t' _ (λz=>by subst z;rw[h2]at e1;cases e1) e1 h2 b e2 h3
   intro F' H' S' L R s' I' #[q1,q2];have sk:=s'.kill;have Ik:=I'.drop (CI tg.ix L) λi sl e=>(BE _ _ i sl e).1;let#[S2,I2,s2]:=VY hL I1 sk Ik λi hi=>(q1 i hi).2;exact ok1.nx _ _ _ _ _ s2 I2 q2;intro v t W F' H' S' L R s' I' r hw fr q;exact ok1.rt v t W F' H' S' L R #[s'.ff,λb u e n=>s'.hh b u e λz=>n (vF hL z),s'.dm,λb e z=>(s'.fn b e z).imp (vF hL) id,λb u=>(s'.uu b u).imp (vF hL) id,s'.sg] I' r hw (λb hb=>(fr b hb).imp id (vF hL)) q
 | .own i e,F,H,S,ρ,σ,Z,Dn,c,I,X,h,ok=>by refine(MA g e).e (Q:=λx n A=>DH x n=kd/\Z.nx (A.set i (kv (.own x)))) I X h λv F' H' S' L x n Za s J r #[he,q]=>?_;let#[W,r2,hw,fr]:=r.strict he;exact ok.nx _ _ _ _ _ (s.toStp.sts.setN i (uL c) v x fr) (J.setN i r2 λj sl _ e b hb=>hw.nw j sl e b hb) q|.six o i e,F,H,S,ρ,σ,Z,Dn,c,I,X,h,ok=>by
  have later:∀{j:Nat}{t:T}{v0:V},ρ[j]?=kv (kv (.own t))->Tr K F H kd v0 t (S j)->∀{F' H':Hp}{S':Ft}{L:kA},Ste F H S (ρ.set j (kv (.bor t))) F' H' S' L->Tr K F' H' kd v0 t (S j)/\∀b,S j b->H' b=H b:=λ{j t v0} hj r0 {F' H' S' L} s=>#[s.toStp.keep r0 (I.lock1U hj),λb hb=>by
   cases e:H b with|none=>exact Uz e (r0.dom b hb).1|some u=>exact s.hh b u e (I.lock1U hj b hb)]
  cases o with
  |var j =>
   have h:JC ρ[j]? _:=h;unfold JC at h;split at h;rename_i t hj;let#[v0,hv,r0]:=I.sl j _ hj;have r0:Tr K F H kd v0 t (S j):=r0;show(wp K Γ e O).e σ H λv B=>(wp K Γ (.var j) O).e σ B λov N=>(wp K Γ i O).e σ N λiv H3=>ER K ov iv v H3 λH4=>Dn.nx σ H4;refine KF (MA g e) (I.lock1 hj) (X.lock1 hj) h λxv D B S1 A x n Zx s1 I1 X1 _ er1 _ #[he,q1]=>?_;have rx:=er1 he;show(match σ[j]? with|some (kv v)=>_|_=>False);rw[hv];refine KF (MA g i) I1 X1 q1 λiv F2 N S2 M y m Zy s2 I2 X2 _ er2 _ #[he2,hj2,q2]=>?_;have s12:=s1.trans s2;refine v3 I2.fh (later hj r0 s12).1 (er2 he2) (rx.mono s2.ff) q2 λt' H3 S3 hh dm rt sub q=>?_;let#[st,I3,_]:=pI (W:=λ_=>False) I hj hv s12 I2 hh dm rt (λb hb=>.inl (sub b hb)) .none (λ_ z=>z.elim);exact ok.nx _ _ _ _ _ st.toStp.sts I3 q
   all_goals exact h.elim
  |idx a k =>
   cases a with
   |var j =>
    have h:JC ρ[j]? _:=h;unfold JC at h;split at h;rename_i t hj;let#[v0,hv,r0]:=I.sl j _ hj;have r0:Tr K F H kd v0 t (S j):=r0;show(wp K Γ e O).e σ H λv B=>(wp K Γ (.var j) O).e σ B λov N=>(wp K Γ k O).e σ N λzv H3=>uS K ov zv H3 λow H4=>(wp K Γ i O).e σ H4 λiv H5=>ER K ow iv v H5 λH6=>Dn.nx σ H6;refine KF (MA g e) (I.lock1 hj) (X.lock1 hj) h λxv D B S1 A x n Zx s1 I1 X1 _ er1 _ #[he,q1]=>?_;have rx:=er1 he;show(match σ[j]? with|some (kv v)=>_|_=>False);rw[hv];refine KF (MA g k) I1 X1 q1 λzv F2 N S2 M z l Zz s2 I2 X2 _ er2 _ #[hez,b,ks,ts,n,s,et,hk,hf,ht,q2]=>?_;have s12:=s1.trans s2;have rz:=er2 hez;subst et;let#[r2,k2]:=later hj r0 s12;obtain⟨a,o,vs,ea,ho,dk,hw⟩:∃a o vs,v0=.ref a/\N a=kv o/\zK K F2 b o ks vs/\∃w,vs[n]?=kv w/\S j a:=by
     cases r2 with|dct h1 dk h2 h3 h4 h5=>let#[w,_,g1,_]:=h3.get ht;exact#[_,_,_,rfl,h1,dk,w,g1,(h5 _).mpr (.inl rfl)]
    let#[w,hw,sa]:=hw;subst ea;have gd:=(dk.mono I2.fh).get ho (rz.mono I2.fh) hk;rw[hf]at gd;have gd:nR K N a zv (vs[n]?):=gd;rw[hw]at gd;have fin:(wp K Γ i O).e σ N λiv H5=>ER K w iv xv H5 λH6=>Dn.nx σ H6:=by
     refine KF (MA g i) I2 X2 q2 λiv F3 H3 S3 ρ3 y m Zy s3 I3 X3 _ er3 _ #[he3,hj3,q3]=>?_;have s13:=s12.trans s3;let#[r3,k3]:=later hj r0 s13;have ho3:H3 a=kv o:=by rw[k3 a sa,<- k2 a sa];exact ho
     refine D9 I3.fh r3 ho3 dk hw ht (er3 he3) ((rx.mono s2.ff).mono s3.ff) q3 λt' H4 S4 hh dm rt sub q=>?_;let#[st,I4,_]:=pI (W:=λ_=>False) I hj hv s13 I3 hh dm rt (λb hb=>.inl (sub b hb)) .none (λ_ z=>z.elim);exact ok.nx _ _ _ _ _ st.toStp.sts I4 q
    cases zv with|str z=>exact#[w,gd,fin]|ref c=>exact#[w,gd,fin]|_=>exact gd.elim
    all_goals exact h.elim
   |_=>exact h.elim
  |_=>exact h.elim
 | .sdf j k,F,H,S,ρ,σ,Z,Dn,c,I,X,h,ok=>by
  have h:JC ρ[j]? _:=h;unfold JC at h;split at h;rename_i t hj;let#[v0,hv,r0]:=I.sl j _ hj;have r0:Tr K F H kd v0 t (S j):=r0;let#[hd,h]:=h;show(match σ[j]? with|some (kv v)=>BU K "dict" v H/\(wp K Γ k O).e σ H λx B=>∀p,B p=kf->kL K v [x,.ref p] (pA B p (.dT 0 [])) λ_ N=>Dn.nx σ N|_=>False);rw[hv];constructor;cases r0 with
  |@dct _ b _ _ _ _ _ _ _ h1 dk _ _ _ _ =>
   cases b with|true=>let#[ep,kvs,rfl,_]:=dk;exact .inr (.inr (.inl #[rfl,.inr #[ep,kvs,h1]]))|false=>cases hd
  |_=>cases hd
  refine KF (MA g k) (I.lock1 hj) (X.lock1 hj) h λiv D B S1 A y m Zy s1 I1 X1 _ er _ #[he,hj1,q1]=>?_;intro p hp;have r1:=s1.toStp.keep r0 (I.lock1U hj);refine fi I1.fh hp r1 (er he) q1 λt' H3 S3 hh dm rt sub q=>?_;let#[st,I3,_]:=pI (W:=λ_=>False) I hj hv s1 I1 hh dm rt (λb hb=>(sub b hb).imp id λ(z:b=p)=>.inr (by rw[z];exact hp)) .none (λ_ z=>z.elim);exact ok.nx _ _ _ _ _ st.toStp.sts I3 q
  all_goals exact h.elim
 | .whl t body,F,H,S,ρ,σ,Z,Dn,c,I,X,h,ok=>by
  let#[W,#[m0,w0],turn]:=h;refine#[λm R H'=>∃L F' S',Sts C [] F H S ρ σ F' H' S' L R/\Rl K F' H' S' L R/\W m L,#[m0,ρ,F,S,.refl,I,w0],?_];rintro m G B ⟨A,D,S1,s1,I1,w1⟩;refine(MA g t).t I1 (X.fromS s1) (turn m A w1) λk F' H' S' L s' J q=>?_;have s2:=s1.trans s'.toStp.sts;cases k with
  |false=>exact ok.nx _ _ _ _ _ s2 J q|true =>
   refine#[λR H'=>∃m',m' < m/\∃L F' S',Sts C [] F H S ρ σ F' H' S' L R/\Rl K F' H' S' L R/\W m' L,λ_ _ z=>z,?_];refine zH g body c J (X.fromS s2) q #[?_,?_,?_,?_];exact λF' H' S' L R s' I' #[m',hm,w]=>#[m',hm,L,F',S',s2.trans s',I',w]
   exact λv t W F' H' S' L R s' I' r hw fr q=>ok.rt v t W F' H' S' L R (s2.c.trans s') I' r hw (mw s2 fr) q;exact λF' H' S' L R s' I' q=>ok.nx _ _ _ _ _ (s2.trans s') I' q;exact λF' H' S' L R s' I' #[m',hm,w]=>#[m',hm,L,F',S',s2.trans s',I',w]
 | .frz is s,F,H,S,ρ,σ,Z,Dn,c,I,X,h,ok=>by let#[F',S',I',s']:=I.frzAt (C:=C) is;exact zH g s c I' (X.fromS s') h (ok.from s')|.hs s,F,H,S,ρ,σ,Z,Dn,c,I,X,h,ok=>Cq g s c I h λF' H' S' L R a b q=>ok.nx F' H' S' L R a b q|.gol s m,F,H,S,ρ,σ,Z,Dn,c,I,X,h,ok=>by let#[c1,c2]:=zA c;let#[it,e,rfl,h]:=h;let#[n8,c3]:=zA c1;have h8:=aS n8 8 QF;have h9:=uL (zA c3).1;refine uR (RR:=λvs B=>uC K .val vs B λxs st N=>V0 K xs st (.nm 8) (ZG K Γ O (.seq (.set 9 e) (zO m))) Dn σ N) (MA g it) I X h λvs D B S1 A xs Y s1 I1 X1 tn tm #[ha,q]=>?_;rw[rJ _ rfl]at q;have ok1:=ok.from s1.toStp.sts;refine MG I1.fh (tn.bare (dR ha)) q λits ys st pr hst #[hd,e5,hc]=>?_;let#[v,s5,r5]:=I1.sl 5 _ e5;exact Bc g (λI X h ok=>zH g m c2 I X h ok) I1 X1 h8 h9 pr hst s5 r5.weak (λj s n5 _ e=>I1.dj 5 j _ s (Qm n5) e5 e) hc λF' H' S' L R s' I' q=>ok1.nx _ _ _ _ _ s'.kill (I'.drop (CI _ _) λi sl e=>(BE _ _ i sl e).1) q
end
section
variable{z:Ev}{n:Need}
noncomputable def ou(x:Str)(n:String):Bool:=(x==("bool":Str)&&n == "bool")||(x==("int":Str)&&n == "int")||(x==("str":Str)&&n == "str")||(x==("list":Str)&&n == "list")||(x==("tuple":Str)&&n == "tuple")||(x==("ValueError":Str)&&n == "ValueError")
theorem Oh{x:Str}{n:String}(h:ou x n=kd):y2 x=kv (.type n):=by simp only[ou,wc,Qb,beq_iff_eq]at h;rcases h with((((⟨rfl,rfl⟩| ⟨rfl,rfl⟩)|⟨rfl,rfl⟩)|⟨rfl,rfl⟩)|⟨rfl,rfl⟩)|⟨rfl,rfl⟩<;>kernel_rfl
structure Need where
 fn:LS
 va:LS
 no:LS
noncomputable def Bv(n:Need):ItK->Bool
 | .val=>kd|.rng1=>n.no.contains ("range":Str)|.enum=>n.no.contains ("enumerate":Str)|.itm=>kd
def pB(n:Need):PX->Bool
 | .glo x=>n.va.contains x|.bty x t=>n.no.contains x&&ou x t|.bin _ a b | .cmp _ a b | .and a b | .or a b | .idx a b | .acons a b | .dsp a b=>pB n a&&pB n b
 | .not a | .lst a | .tup a=>pB n a
 | .lrg a=>n.no.contains "list" && (n.no.contains "range" && pB n a)|.slc a b c=>pB n a&&(pB n b&&pB n c)|.call f y=>n.fn.contains f&&pB n y|.bi f y=>n.no.contains f.nm&&pB n y|.isi a c=>n.no.contains ("isinstance":Str)&&(pB n a&&pB n c)|.mt _ o y=>pB n o&&pB n y|.comp _ _ _ w u h v=>Bv n w&&(pB n u&&(pB n h&&pB n v))|_=>kd
def UD(n:Need):PT->Bool
 | .seq s r=>UD n s&&UD n r|.set _ e=>pB n e|.own _ e=>pB n e|.expr e=>pB n e|.ret e=>pB n e|.ife c a b=>pB n c&&(UD n a&&UD n b)|.for_ _ y x h=>Bv n y&&(pB n x&&UD n h)|.six o i e=>pB n o&&(pB n i&&pB n e)|.sdf i k=>pB n (No i k)|.whl c b=>pB n c&&UD n b|.frz _ s=>UD n s|.hs s=>UD n s|.gol s _=>UD n s|.nil=>kd
noncomputable def LQ(z:Ev)(n:Need):Glob:=#[z,λf=>f∈n.fn,λx=>x∈n.va,λx=>x∈n.no]
theorem E6{x:ItK}(h:Bv n x=kd):Xq (LQ z n) x:=by
 cases x with|val=>trivial|itm=>trivial|_=>exact Qk.mp h
theorem OC:∀(p:PX),pB n p=kd->yB (LQ z n) p:=by
 intro p;induction p with
 |glo x=>intro h;exact Qk.mp h|bty x t=>intro h;let#[v,u]:=zA h;exact#[Qk.mp v,Oh u]|bin _ a b y w|cmp _ a b y w|and a b y w|or a b y w|idx a b y w|acons a b y w|dsp a b y w=>intro h;let#[v,u]:=zA h;exact#[y v,w u]
 |not a y|lst a y|tup a y=>intro h;exact y h
 |slc a b c y w g=>intro h;let#[v,e]:=zA h;let#[u,k]:=zA e;exact#[y v,w u,g k]|call f l y=>intro h;let#[v,u]:=zA h;exact#[Qk.mp v,y u]|lrg a y=>intro h;let#[v,u]:=zA h;let#[k,i]:=zA u;exact#[Qk.mp v,Qk.mp k,y i]|bi f l y=>intro h;let#[v,u]:=zA h;exact#[Qk.mp v,y u]|isi a c y g=>intro h;let#[v,e]:=zA h;let#[u,k]:=zA e;exact#[Qk.mp v,y u,g k]|mt _ o l q y=>intro h;let#[v,u]:=zA h;exact#[q v,y u]|comp _ _ _ Z m j Y X s r=>intro h;let#[v,h]:=zA h;let#[u,h]:=zA h;let#[k,i]:=zA h;exact#[E6 v,X u,s k,r i]|_=>intro _;trivial
theorem xZ:∀(p:PT),UD n p=kd->VD (LQ z n) p:=by
 intro p;induction p with
 |seq s r w q=>intro h;let#[v,u]:=zA h;exact#[w v,q u]|set _ e|own _ e|expr e|ret e=>intro h;exact OC _ h
 |six o i e=>intro h;let#[v,y]:=zA h;let#[u,g]:=zA y;exact#[OC _ v,OC _ u,OC _ g]|sdf i k=>intro h;exact OC _ h|frz _ s w=>intro h;exact w h|hs s w=>intro h;exact w h|gol s m x _=>intro h;exact x h|whl c b f=>intro h;let#[v,u]:=zA h;exact#[OC _ v,f u]|ife c a b X f=>intro h;let#[v,y]:=zA h;let#[u,g]:=zA y;exact#[OC _ v,X u,f g]|for_ _ Y l j f=>intro h;let#[v,y]:=zA h;let#[u,g]:=zA y;exact#[E6 v,OC _ u,f g]|_=>intro _;trivial
noncomputable def GM(N h:LS)(sc:gl):Bool:=sc.kind==.function&&!sc.isCoroutine&&!sc.isGenerator&&UJ N&&N.take h.9==h &&
 h.all (λx=>sc.names.lookup x==kv .local||sc.names.lookup x==kv .cell)&&sc.names.all λy=>y.2 != .free
theorem oT{N x:LS}{sc:gl}(h:GM N x sc=kd):FnScope N x sc:=by simp only[GM,Qb,Ql,wc,beq_iff_eq,Q6,bne_iff_ne,ne_eq]at h;let#[#[#[#[#[#[b,a],k],w],v],u],y]:=h;exact#[b,a,k,VE w,v,u,y]
def YB(n:Need)(b:PT)(N h:LS)(st:z4):Bool:=GM N h (OA st)&&SM b #[N,OA st] (pC st)&&UD n b
def jj:Md->T->Sl
 | .chg,t=>.own t|_,t=>.bor t
noncomputable def lE:List Md->LT->kA
 |_,[]=>[]|md,t::ts=>kv (jj (md.headD .fro) t)::lE md.tail ts
def oB(N:LS)(md:List Md)(ts:LT):kA:=lE md ts++QAX (N.9 - ts.9) kf
noncomputable def UB:Nat->List Md->Nat->LN
 |_,_,0=>[]|k,md,n+1=>match md.headD .fro with
  | .chg=>k::UB (k+1) md.tail n|_=>UB (k+1) md.tail n
def vV:Option (LT)->(LT->Prop)->Prop
 |some os,Q=>Q os|none,_=>False
def cD(P:PSp)(n:Nat)(Q:T->LT->Prop):PEnds where
 nx:=λh=>vV (LA (UB 0 P.md n) h) (Q (.d .none))
 rt:=λt h=>vV (LA (UB 0 P.md n) h) (Q t)
abbrev xy(Ψ:PEv)(b:PT)(p:PSp)(N h:LS)(ds:LT)(Q:T->LT->Prop):Prop:=ds.9=h.9/\pF Ψ b (cD p h.9 Q) (oB N p.md ds)
abbrev EH(Ψ:PEv)(b:PT)(p:PSp)(N x:LS):Prop:=∀(h:LT) (Q:T->LT->Prop) (E:XE),p.run h Q E->h.9=x.9/\pF Ψ b (cD p x.9 Q) (oB N p.md h)
def XU(mg:Str->Option kn)(x:Str):V:=((mg x).bind cN).getD .non
def Sq(K:QA)(mg:Str->Option kn)(Ψ:PEv):Ev:=#[λf=>lift K (Ψ.sp f),XU mg]
structure ValsOk(P:vx)(w:v8)(K:QA)(mg:Str->Option kn)(Ψ:PEv)(va:LS):Prop where
 rep:∀x d,Ψ.va x=kv d->∀F,Rep K F (XU mg x) d
 has:∀x∈va,∃u v,mg x=kv u/\cN u=kv v
theorem mX{u:kn}{v:V}(h:cN u=kv v):VA v u:=by cases u<;>first | (obtain rfl:=Qi h;first|rfl|exact#[_,rfl])|exact nomatch (show(none:Option V)=kv v from h)
end
section
variable{P:vx}{w:v8}{K:QA}{mg:Str->Option kn}{base:v5}{Ψ:PEv}
section
variable{k:Nat}{F H:Hp}{Y M:fB}{md:List Md}{vs:LV}{ts:LT}{N l:LS}{R:PSp}{x o:Str}{st:z4}{f:k0}{p:y3}{n:Need}
def JG(P:vx)(w:v8)(K:QA)(mg:Str->Option kn)(base:v5)(Ψ:PEv)(k:Nat)(f:Str):Prop :=
 ∃(a:k0) (p:y3) (l:LS),FnOk P w K mg base R0 k a p l (lift K (Ψ.sp f))/\mg f=kv (.ref a)/\wR K (.ref a)=kd/\oJ K p l []
theorem JG.mono{j:Nat}{f:Str}(h:JG P w K mg base Ψ j f)(hk:j<=k):JG P w K mg base Ψ k f:=by let#[a,p,l,z,y]:=h;exact#[a,p,l,z.mono hk,y]
theorem ArgsR.length(h:ArgsR K F H Y md vs ts):vs.9=ts.length:=by
 induction h with|nil=>rfl|chg _ _ e=>exact ak Nat.succ e|rd _ _ _ _ e=>exact ak Nat.succ e
theorem aI:∀(m:List Md) (ts:LT),(lE m ts).9=ts.9
 |_,[]=>rfl|m,d::ds=>by unfold lE;rw[QL,QL,aI]
theorem P4{m:Md}(h:m≠.chg)(t:T):jj m t=.bor t:=by cases m<;>first|rfl|exact Uz rfl h
theorem ZH(md:List Md)(v:V)(vs:LV):aB md (v::vs)=match md.headD .fro with | .chg=>v::aB md.tail vs|_=>aB md.tail vs:=by first | (rw[aB];done) | (rw[aB];cases md.headD .fro<;>rfl)
theorem eM(md:List Md)(v:T)(vs:LT):LB md (v::vs)=match md.headD .fro with | .chg=>v::LB md.tail vs|_=>LB md.tail vs:=by first | (rw[LB];done) | (rw[LB];cases md.headD .fro<;>rfl)
theorem JO(md:List Md)(t:T)(ts:LT):lE md (t::ts)=kv (jj (md.headD .fro) t)::lE md.tail ts:=by rw[lE]
theorem Xd(h:ArgsR K F H Y md vs ts)(r:Trs K F H kd (aB md vs) (LB md ts) M) :
  ∃Z:Ft,(∀(i:Nat) s,(lE md ts)[i]?=kv (kv s)->∃v,vs[i]?=kv v/\Tr K F H s.st v s.t (Z i))/\(∀(i:Nat) t,(lE md ts)[i]?=kv (kv (.own t))->∀b,Z i b->M b)/\(∀(i:Nat) t,(lE md ts)[i]?=kv (kv (.bor t))->∀b,Z i b->Y b) /\
   ∀(i j:Nat) t u,i≠j->(lE md ts)[i]?=kv (kv (.own t))->(lE md ts)[j]?=kv (kv (.own u))->∀b,Z i b->¬ Z j b:=by
 induction h generalizing M with
 |nil=>exact#[λ_ _=>False,λi s e=>by simp[lE]at e,λi t e=>by simp[lE]at e,λi t e=>by simp[lE]at e,λi j t u _ e=>by simp[lE]at e]|@chg md v vs t ts a O A =>
  have J:aB md (v::vs)=v::aB md.tail vs:=by rw[ZH,a]
  have I:LB md (t::ts)=t::LB md.tail ts:=by rw[eM,a]
  rw[J,I]at r;cases r with
  |@cons _ _ _ _ _ _ L Z2 W Q n q =>
   let#[Z,E,g,C,B]:=A Q;have G:lE md (t::ts)=kv (.own t)::lE md.tail ts:=by rw[JO,a];rfl
   rw[G];refine#[λi=>match i with|0=>L|i+1=>Z i,λi s e=>?_,λi u e b hb=>?_,λi u e b hb=>?_,λi j u w X e m b hb y=>?_];cases i with|zero=>simp at e;subst e;exact#[v,rfl,W]|succ i=>exact E i s (by simpa using e)
   cases i with|zero=>exact(q b).mpr (.inl hb)|succ i=>exact(q b).mpr (.inr (g i u (by simpa using e) b hb))
   cases i with|zero=>simp at e|succ i=>exact C i u (by simpa using e) b hb
   cases i with
   |zero =>
    cases j with|zero=>exact X rfl|succ j=>exact n b hb (g j w (by simpa using m) b y)
   |succ i =>
    cases j with|zero=>exact n b y (g i u (by simpa using e) b hb)|succ j=>exact B i j u w (λz=>X (by rw[z])) (by simpa using e) (by simpa using m) b hb y
 |@rd md v vs t ts L a W S O A =>
  have J:aB md (v::vs)=aB md.tail vs:=by rw[ZH];cases e:md.headD .fro<;>first|exact Uz e a|rfl
  have I:LB md (t::ts)=LB md.tail ts:=by rw[eM];cases e:md.headD .fro<;>first|exact Uz e a|rfl
  rw[J,I]at r;let#[Z,E,g,C,B]:=A r;have G:lE md (t::ts)=kv (.bor t)::lE md.tail ts:=by rw[JO,P4 a]
  rw[G];refine#[λi=>match i with|0=>L|i+1=>Z i,λi s e=>?_,λi u e b hb=>?_,λi u e b hb=>?_,λi j u w X e m b hb y=>?_];cases i with|zero=>simp at e;subst e;exact#[v,rfl,W]|succ i=>exact E i s (by simpa using e)
  cases i with|zero=>simp at e|succ i=>exact g i u (by simpa using e) b hb
  cases i with|zero=>exact S b hb|succ i=>exact C i u (by simpa using e) b hb
  cases i with
  |zero=>simp at e|succ i =>
   cases j with|zero=>simp at m|succ j=>exact B i j u w (λz=>X (by rw[z])) (by simpa using e) (by simpa using m) b hb y
theorem E2(f:Same F H)(h:ArgsR K F H Y md vs ts)(r:Trs K F H kd (aB md vs) (LB md ts) M)(dj:∀b,Y b->¬ M b) :
  ∃S,Rl K F H S (oB N md ts) (aD N vs)/\∀b,U (oB N md ts) S b->M b:=by
 let#[Z,A,a,W,X]:=Xd h r;have hl:=h.9;have get:∀(i:Nat) s,(oB N md ts)[i]?=kv (kv s)->(lE md ts)[i]?=kv (kv s):=λi s e=>by
  unfold oB at e;rcases QAR i ts.9 with z|z
  ·rwa [qR (by rw[aI];exact z)]at e
  rw[qH (by rw[aI];exact z),wk]at e;split at e<;>cases e
 refine#[Z,#[f,?_,λi s e=>?_,λi j t s n q m b hb y=>?_],λb #[i,t,e,hb]=>a i t (get i _ e) b hb];unfold oB aD;rw[QJ,QJ,aI,QE,qr,qr,hl];let#[v,g,B]:=A i s (get i s e);refine#[v,?_,B];unfold aD;rw[qR (by rw[QE];exact(Qf.mp g).1),Qd,g];rfl;cases s with|own u=>exact X i j t u n (get i _ q) (get j _ m) b hb y|bor u=>exact dj b (W j u (get j _ m) b y) (a i t (get i _ q) b hb)
theorem RO:∀{md:List Md}{k n:Nat}{vs:LV}{σ:St},vs.9=n->(∀(i:Nat) v,vs[i]?=kv v->σ[k+i]?=kv (kv v))->(aB md vs).map (λv=>kv (kv v))=(UB k md n).map λj=>σ[j]?
 |md,k,0,vs,σ,h,g=>by
  cases vs with|nil=>rfl|cons _ _=>cases h
 |md,k,n+1,vs,σ,h,g=>by
  cases vs with
  |nil=>cases h|cons v vs =>
   have y:=RO (md:=md.tail) (k:=k+1) (n:=n) (vs:=vs) (σ:=σ) (by simpa using h) λi w z=>by have:=g (i+1) w (by simpa using z);rw[show k+1+i=k+(i+1) by omega];exact this
   have g0:=g 0 v rfl;rw[ZH];unfold UB;cases e:md.headD .fro with|chg=>simp only[QU,y];rw[show σ[k]?=kv (kv v) from g0]|_=>exact y
theorem TM:∀{md:List Md}{k n j:Nat},j∈UB k md n->k<=j
 |md,k,0,j,h=>by simp[UB]at h|md,k,n+1,j,h=>by
  unfold UB at h;cases e:md.headD .fro with
  |chg=>rw[e]at h;rcases QM.mp h with z|z;omega;have:=TM z;omega
  |_=>rw[e]at h;have:=TM h;omega
theorem CT:∀(md:List Md) (k n:Nat),(UB k md n).Nodup
 |md,k,0=>Q1|md,k,n+1=>by
  have h:=CT md.tail (k+1) n;unfold UB;cases e:md.headD .fro with|chg=>exact Qe.mpr #[λz=>by have:=TM z;omega,h]|_=>exact h
theorem i7{b:PT}(F:Fun K x o st f p)(zC:YB n b N l st=kd)(hc:AF (UB 0 R.md l.9) b=kd)
  (fns:∀g∈n.fn,JG P w K mg base Ψ k g) (G:ValsOk P w K mg Ψ n.va) (nos:∀y∈n.no,mg y=kf)
  (body:∀ts Q E,R.run ts Q E->ts.9=l.9/\pF Ψ b (cD R l.9 Q) (oB N R.md ts)):FnOk P w K mg base R0 (k+1) f p l (lift K R):=by
 let#[c12,c3]:=zA zC;let#[c1,c2]:=zA c12;have S:=oT c1;refine F.ok S (λvs H Q E h=>?_) (λcdv A L s H vs Q E hr h=>?_);let#[F',ts,M,Y,h1,h2,h3,h4,h5]:=h;rw[h2.9];exact(body ts _ _ h5).1;let#[F',ts,M,Y,h1,h2,h3,h4,h5]:=h;have q:=(body ts _ _ h5).2;have hlen:=(body ts _ _ h5).1;have ok:OkS ((tW R0 P w K mg base N o (OA st) f cdv A L s H E).nox) #[N,OA st] (LQ (Sq K mg Ψ) n) E0:={
  N:=rfl
  sc:=rfl
  calm:=rfl
  un:=by have:=hr.un;show(A.deeper _).units+66<Z1;omega
  fn:=λg hg=>by let#[a,gd,gps,g1,g2,g3,g4]:=fns g hg;exact#[R0,k,a,gd,gps,g1,hr,g2,g3,g4,Xp,λ_ _ _ _ _ z=>z]
  val:=λy hy=>by let#[u,v,e1,e2]:=G.has y hy;refine#[u,e1,?_];show VA (XU mg y) u;unfold XU;rw[e1];show VA ((cN u).getD .non) u;rw[e2];exact mX e2
  no:=λy hy=>nos y hy
  po:=PassesOwn.never
  nd:=S.nd
  cel:=λ_=>rfl }
 refine#[_,(Du b ok c2 (xZ b c3)).1,?_];let#[S0,I,hU]:=E2 (N:=N) h1 h2 h3 h4;have g:GOk K (Sq K mg Ψ) Ψ:=#[λ_ _ _ _ _ h=>h,λy d e F=>G.rep y d e F]
 have hvl:vs.9=l.length:=h2.length.trans hlen;have fin:∀v t W C B J m X,Stc (UB 0 R.md l.9) F' H S0 (oB N R.md ts) (aD N vs) C B J m X->Rl K C B J m X->Tr K C B kd v t W->Held C B J m W->(∀b,W b->H b=kf∨U (oB N R.md ts) S0 b) ->
   vV (LA (UB 0 R.md l.9) m) (λos=>∀v F3 H3 Z M',Frm M F' H F3 H3->Tr K F3 H3 kd v t Z->Trs K F3 H3 kd (aB R.md vs) os M'->(∀b,Z b->¬ M' b)->(∀b,Z b∨M' b->M b∨H b=kf)->Q v H3)->Q v B:=by
  intro v t W C B J m X s I2 r hw fr q;cases eo:LA (UB 0 R.md l.9) m with
  |none=>rw[eo]at q;exact q.elim|some os =>
   rw[eo]at q;have hv:(aB R.md vs).map (λv=>kv (kv v))=(UB 0 R.md l.9).map λj=>X[j]?:=by rw[RO (md:=R.md) (k:=0) (n:=l.9) (vs:=vs) (σ:=aD N vs) hvl λi w hw=>?_];exact wL λj O=>(s.sg j O).symm;unfold aD;rw[Wn,qR (by rw[QE];exact(Qf.mp hw).1),Qd,hw];rfl
   have trs:=I2.trs (CT _ _ _) eo hv;have own:∀j∈UB 0 R.md l.9,∃t,m[j]?=kv (kv (.own t)):=λj O=>by let#[i,hi]:=Ws.mp O;let#[t,_,e]:=(kE eo).2 i j hi;exact#[t,e]
   have lk:∀b,U (oB N R.md ts) S0 b∨H b=kf->M b∨H b=none:=λb hb=>hb.imp (hU b) id;refine q v C B W _ #[s.ff,I2.fh,λb u e n=>s.hh b u e λz=>n (hU b z),s.dm,λb e z=>lk b (s.fn b e z)] r trs (λb hb #[j,O,z]=>?_) λb hb=>?_;let#[t',e]:=own j O;exact hw.nw j _ e b hb z;rcases hb with hb|⟨j,O,z⟩
   ·exact lk b (fr b hb).symm
   let#[t',e]:=own j O;exact lk b (s.uu b #[j,t',e,z])
 refine zH g b hc I (λ_ _ _ _ _ _ _ _ _ z=>z.elim) q #[?_,?_,λ_ _ _ _ _ _ _ z=>z.elim,λ_ _ _ _ _ _ _ z=>z.elim];intro C B J m X s I2 q;exact fin .non (.d .none) (λ_=>False) C B J m X s.c I2 (.d .non λ_ z=>z) .none (λ_ z=>z.elim) q;intro v t W C B J m X s I2 r hw fr q;exact fin v t W C B J m X s I2 r hw fr q
theorem u7{h:PEv}{b:PT}(F:Fun K x o st f p)(a:mg x=kv (.ref f))(hb:oJ K p l [])(zC:YB n b N l st=kd)(hc:AF (UB 0 R.md l.9) b=kd)
  (v:∀g∈n.fn,JG P w K mg base Ψ k g) (z:ValsOk P w K mg Ψ n.va) (u:∀y∈n.no,mg y=kf)
  (body:∀ts Q E,R.run ts Q E->ts.9=l.9/\pF Ψ b (cD R l.9 Q) (oB N R.md ts)) (e:h.sp x=R):JG P w K mg base h (k+1) x :=
 #[f,p,l,by rw[e];exact i7 F zC hc v z u body,a,F.kp,hb]
end
end
noncomputable def IP:PSp where
 md:=[.shal]
 run:=λx Q _=>∃h:LJ,h.9<=63/\(∀n∈h,QAG n<=1048576)/\x=[.lst ((h.map j5).map T.d)]/\Q (.d (.bool kd)) []
def Lm:PSp:=#[[],λ_ _ _=>False,λ_ _ h=>h]
theorem pO{K:QA}{F:Hp}:∀(ns:LJ),Reps K F (ns.map V.int) (ns.map j5)
 |[]=>.nil|n::r=>.cons (.int n) (pO r)
theorem PL{K:QA}{F:Hp}:∀(ns:LS),Reps K F (ns.map V.str) (ns.map j3)
 |[]=>.nil|n::r=>.cons (.str n) (PL r)
theorem zk(K:QA)(H:Hp)(a:k0)(ns:LJ)(hl:ns.9<=63)(h:∀n∈ns,QAG n<=1048576)(x:jC K H a (ns.map V.int)):lift K IP [.ref a] H (λv _=>v=.bl kd) λ_ _ _=>False:=by
 refine#[H,[.lst ((ns.map j5).map T.d)],λ_=>False,λ_=>False,.refl _,.rd (Z:=λ_=>False) (by simp[IP]) (.lstF x (pO ns) λ_ z=>z) (λ_ z=>z) .nil,.nil λ_ z=>z,λ_ z=>z.elim,ns,hl,h,rfl,λv w u Z y _ r _ _ _=>?_];cases r with|d r _=>cases r;rfl
theorem KU{ns:LJ}:∀n∈ns,W4 (.int n)<=wl (ns.map W9.int):=by
 induction ns with|nil=>intro n h;cases h|cons m ns x=>intro n h;show _<=W4 (.int m)+1+wl (ns.map W9.int);rcases QM.mp h with rfl|h;omega;have:=x n h;omega
theorem Zd{ns:LJ}(h:W9.layableAll [.list (ns.map .int)]=kd):∀n∈ns,QAG n<=1048576:=by
 intro n z;have v:=(PySem.W.layableW_iff.mp (PySem.W.layableW_arg h _ QF)).2.2;have k:wl (ns.map W9.int)<=2 ^ 20:=v;have y:=KU n z;have u:W4 (.int n)=if n==0 then 0 else n.natAbs.log2+1:=rfl
 rw[PySem.intBits_le_iff];by_cases x:n=0;subst x;exact Nat.pow_pos (by decide);have:(n==0)=false:=by simpa using x
 rw[u,this]at y;have w:n.natAbs.log2+1<=1048576:=by have:n.natAbs.log2+1<=wl (ns.map W9.int):=y;omega
 exact(Nat.log2_lt (show n.natAbs≠0 by omega)).mp ()
def JY(K:QA)(x:Str)(st:z4):Prop:=∃f h,qp K Vz x=kv (kv (.ref f))/\Fun K x x st f h
def dN(K:QA)(x:Str)(d:D):Prop:=∃u v,qp K Vz x=kv (kv u)/\cN u=kv v/\∀F,Rep K F v d
theorem E1{K:QA}{x:Str}{f:k0}{xs:LS}{v:Option k0}{its:LW}{n:Nat}{z:Array (Option kn)}(a:qp K Vz x=kv (kv (.ref f)))
  (l:K.lookup f=kv #[.type "tuple",v,.seq its.toArray n,z]) (h:its.map cN=xs.map λy=>kv (.str y)) (k:xs.9<=kt):dN K x (.tuple (xs.map j3)):=by
 refine#[_,_,a,rfl,λF=>.tup (.inr #[_,its.toArray,n,l,rfl,rfl,?_,?_]) (PL xs)];have:=ak wI h;simp at this;simp;omega;have key:∀(its:LW) (xs:LS),its.map cN=xs.map (λy=>kv (.str y))->sA (xs.map V.str) its:=by
  intro its;induction its with
  |nil =>
   intro xs h;cases xs with|nil=>exact .nil|cons _ _=>simp at h
  |cons u its w =>
   intro xs h;cases xs with|nil=>simp at h|cons y xs=>simp only[QU,QAF]at h;exact .cons (mX h.1) (w xs h.2)
 simpa using key its xs h
section
variable{P:vx}{w:v8}{K:QA}{mg:Str->Option kn}{base h:v5}{Ψ:PEv}
section
variable{x:Str}{st:z4}{z:LS}{k:Nat}
theorem dN.inMg(X:K.In h)(G:h.Ns Vz mg){d:D}(v:dN K x d):(∀F,Rep K F (XU mg x) d)/\∃u v,mg x=kv u/\cN u=kv v:=by
 let#[u,v,b,y,a]:=v;have e:=Wc X G b;refine#[λF=>?_,u,v,e,y];have:XU mg x=v:=by unfold XU;rw[e];show(cN u).getD .non=v;rw[y];rfl
 rw[this];exact a F
theorem b7{R:PSp}{u:PEv}{N:LS}{b:PT}{n:Need}(X:K.In h)(G:h.Ns Vz mg)(D:JY K x st)(zC:YB n b N z st=kd)(hc:AF (UB 0 R.md z.9) b=kd)
  (hb:∀(kV j m:kn) (q:Option k0) (l ct:kn) (us:LW),us.9=z.9->d9 (qq x x (lD st) (pC st) (OA st) .none kV j m q l ct) #[us,[]]=rk (z.zip us))
  (i:∀g∈n.fn,JG P w K mg base Ψ k g) (v:ValsOk P w K mg Ψ n.va) (e:∀y∈n.no,qp K Vz y=kv kf)
  (body:∀ts Q E,R.run ts Q E->ts.9=z.9/\pF Ψ b (cD R z.9 Q) (oB N R.md ts)) (p:u.sp x=R):JG P w K mg base u (k+1) x:=by
 let#[f,r,a,F]:=D;exact u7 F (Wc X G a) (F.binds hb) zC hc i v (λy o=>QAS X G (e y o)) body p
theorem vk{j:k0}(X:K.In h)(G:h.Ns Vz mg)(D:JY K "law" st)(q:z=[x])(g:mg "law"=kv (.ref j))(p:Ψ.sp "law"=IP)
  (hb:∀(kV v i:kn) (l:Option k0) (b ct:kn) (us:LW),us.9=z.9->d9 (qq "law" "law" (lD st) (pC st) (OA st) .none kV v i l b ct) #[us,[]]=rk (z.zip us))
  (H:∀base:v5,K.In base->base.Ns Vz mg->∀f y,Fun K "law" "law" st f y->mg "law"=kv (.ref f)->FnOk P w K mg base R0 k f y z (lift K (Ψ.sp "law"))) :
  ∃y:y3,(∀(s:ku) (u:kn),Lz s y #[[u],[]] [(x,u)])/\∀base:v5,K.In base->base.Ns Vz mg->FnOk P w K mg base R0 k j y [x] (lift K IP):=by
 let#[f,y,a,F]:=D;have e:=g.symm.trans (Wc X G a);cases e;subst q;refine#[y,λs u=>?_,λbase o n=>?_];let#[Z,Y,kV,v,i,l,b,ct,m,rfl,lk,r]:=F.ex;exact .of_eq (hb kV v i l b ct [u] rfl);rw[<- p];exact H base o n j y F g
end
end
theorem dB{α:Type}{body:T->(Option T->Prop)->Prop}(g f:α->T):∀(l:List α) (h:LT) (Q:LT->Prop),(∀x∈l,∀R:Option T->Prop,R (kv (f x))->body (g x) R)->h.9+l.9<=kt->Q (h++l.map f)->GD body (l.map g) h Q
 |[],h,Q,_,hl,q=>by simp only[WR,GD];exact#[by simpa using hl,by simpa using q]|x::r,h,Q,hb,hl,q=>by simp only[QU,GD];refine hb x QF _ ?_;simp only[QL]at hl;refine#[(),dB g f r _ Q (λy z=>hb y (QD _ z)) (by simp;omega) (by simpa using q)]
theorem rA{α:Type}{body:T->(Option T->Prop)->Prop}(g f:α->T)(p:α->Bool):∀(l:List α) (h:LT) (Q:LT->Prop),(∀x∈l,∀R:Option T->Prop,R (if p x=kd then kv (f x) else kf)->body (g x) R)->h.9+l.9<=kt->Q (h++(l.filter p).map f)->GD body (l.map g) h Q
 |[],h,Q,_,hl,q=>by simp only[WR,GD];exact#[by simpa using hl,by simpa using q]|x::r,h,Q,hb,hl,q=>by
  simp only[QU,GD];refine hb x QF _ ?_;simp only[QL]at hl;cases u:p x with|true=>refine#[(),rA g f p r _ Q (λy z=>hb y (QD _ z)) (by simp;omega) ?_];rw[WN,t6 u]at q;simpa using q|false=>refine rA g f p r _ Q (λy z=>hb y (QD _ z)) () ?_;rw[WN,t3 (by rw[u];simp)]at q;exact q
theorem kR{α:Type}{xs:List α}{i:Int}(y:0<=i)(x:i<xs.9):∃v,fE xs i=kv v/\xs[i.toNat]?=kv v:=by
 have h:i.toNat<xs.length:=()
 have e:((i.toNat:Nat):Int)=i:=()
 have q:=MC (Qr h);rw[e]at q;exact#[xs[i.toNat],q,Qr h]
theorem OG{α h:Type}(f:α->h)(xs:List α)(i:Int):fE (xs.map f) i=(fE xs i).map f:=by
 unfold fE;rw[QE];cases JU xs.9 i with|none=>rfl|some j=>exact Qd
theorem rB{Ψ:PEv}{E:XE}{α:Type}{body:PT}{u:Tg}{Z:PEnds}(g:α->T)(W:List α->kA->Prop)(k:∀ρ,W [] ρ->Z.nx ρ)
  (v:∀x xs ρ (N:kA->Prop),(∀y,W xs y->N y)->W (x::xs) ρ->AO u (g x) ρ λz=>xB Ψ E body { Z with nx:=N,ct:=N,bk:=Z.nx } z):∀(xs:List α) (ρ:kA),W xs ρ->BH (xB Ψ E body) u Z (xs.map g) ρ
 |[],ρ,w=>k ρ w|x::xs,ρ,w=>v x xs ρ (λh=>BH (xB Ψ E body) u Z (xs.map g) h) (λh a=>rB g W k v xs h a) w
noncomputable def ue(y:List (Str×PSp))(h:List (Str×D)):PEv:=#[λf=>(y.lookup f).getD Lm,λx=>h.lookup x]
theorem yX{P:vx}{w:v8}{K:QA}{mg:Str->Option kn}{h:v5}{v:List (Str×PSp)}{tbl:List (Str×D)}{z:LS}(X:K.In h)(G:h.Ns Vz mg)(u:∀p∈tbl,dN K p.1 p.2)
  (y:(z.all λx=>(tbl.map qy).contains x)=kd):ValsOk P w K mg (ue v tbl) z:=by
 refine#[λx d e F=>((u (x,d) (qM e)).inMg X G).1 F,λx k=>?_];have:=Ql.mp y x k;let#[p,a,e]:=QY.mp (Qk.mp this);rw[<- e];exact((u p a).inMg X G).2
theorem oP{α:Type}[BEq α][LawfulBEq α]{l m:List α}(h:(l.all λx=>m.contains x)=kd):∀x∈l,x∈m:=λx y=>Qk.mp (Ql.mp h x y)
section
variable{a b c:PX}{i:Nat}{n:Int}{x:Str}{m:Mt}{f:Str}{g:Bi}{op:gV}{v:h7}{is:List Bool}{h:LS}{z:Tg}{u:ItK}{y:String}
theorem IW:SG (.var i)=[i]:=rfl
theorem bO:SG (.acons a b)=SG a++SG b:=rfl
theorem KR:SG .anil=[]:=rfl
end
def FF{α:Type}(o:Option α)(K:α->Prop):Prop:=∃a,o=kv a/\K a
theorem FF.mk{α:Type}{o:Option α}{a:α}{K:α->Prop}(e:o=kv a)(k:K a):FF o K:=#[a,e,k]
theorem EB{α:Type}{a:α}{K:α->Prop}:FF (kv a) K=K a:=Az #[λ#[_,e,k]=>by cases e;exact k,λk=>#[a,rfl,k]]
theorem SF{α h:Type}{o:Option α}{f:α->h}{K:h->Prop}:FF (o.map f) K=FF o λa=>K (f a):=by
 cases o with|none=>exact Az #[λ#[_,e,_]=>(by cases e),λ#[_,e,_]=>(by cases e)]|some a=>rw[Qx,EB,EB]
def mB(Ψ:PEv)(e:PX)(E:XE)(ρ:kA)(K:TK):Prop:=(pe Ψ e E).e ρ K
def oK(Ψ:PEv)(e:PX)(E:XE)(ρ:kA)(K:Bool->kA->Prop):Prop:=(pe Ψ e E).t ρ K
def vL(Ψ:PEv)(e:PX)(E:XE)(md:List Md)(ρ:kA)(K:List (T×Bool)->kA->Prop):Prop:=(pe Ψ e E).a md ρ K
def OL(p:PSp)(ts:LT)(K:T->LT->Prop)(E:XE):Prop:=p.run ts K E
def x3(x:T)(n:Bool)(Ψ:PEv)(b:PX)(E:XE)(ρ:kA)(K:TK):Prop:=sq (lA x n) ρ (cu (pe Ψ b E).e) λy h=>K y.1 y.2 h
def A8(x:T)(n:Bool)(Ψ:PEv)(b:PX)(E:XE)(md:List Md)(ρ:kA)(K:List (T×Bool)->kA->Prop):Prop:=sq (if n=kd then .d .none else x) ρ ((pe Ψ b E).a md) K
def XH(i:Nat)(σ ρ:kA)(K:TK):Prop:=Es σ[i]? λt=>K t kb ρ
def T9(i:Nat)(σ:kA)(ρ:kA)(j:Nat)(R:T->kA->Prop):Prop:=Ru ρ j R σ[i]?
def FK(Ψ:PEv)(E:XE)(r:PT)(Z:PEnds)(i:Nat)(x:T)(n:Bool)(ρ:kA):Prop:=DH x n=kd/\xB Ψ E r Z (ρ.set i (bD x.er))
def Bp(Ψ:PEv)(E:XE)(r:PT)(Z:PEnds)(i:Nat)(x:T)(n:Bool)(ρ:kA):Prop:=DH x n=kd/\xB Ψ E r Z (ρ.set i (kv (.own x)))
def EC(x:T)(n:Bool)(P:Prop):Prop:=DH x n=kd/\P
def HH(op:gV)(x:T)(n:Bool)(y:T)(m:Bool)(Q:T->Bool->Prop):Prop:=binT op (lA x n).vw (lA y m).vw Q
def JB(op:h7)(x y:T)(Q:Bool->Prop):Prop:=Ac op x.er y Q
def D2(x:T)(Q:Bool->Prop):Prop:=zI x.er Q
def Px(x:T)(Q:Bool->Prop):Prop:=ym x.er Q
def VQ(c:PX)(x:T)(Q:Bool->Prop):Prop:=Ck c x.er Q
def LH(f:Bi)(xs:List (T×Bool))(Q:T->Bool->Prop):Prop:=GW f (CB xs) Q
def BA(x:T)(n:Bool)(y:T)(m:Bool)(Q:T->Prop):Prop:=HN (lA x n).vw (lA y m).vw Q∨YT (lA x n).vw y.er Q
def Pn(Ψ:PEv)(E:XE)(c:PX)(q:PT)(Z:PEnds)(ρ:kA):Prop:=xB Ψ E (.whl c q) Z ρ
def ge(t y x:T)(Q:T->Prop):Prop:=stT t y.er x.er Q
def Xo(z t:T)(Q:T->(T->T)->Prop):Prop:=Uo z.er t Q
def Mo(y t:T)(Q:T->Prop):Prop:=ui y.er t Q
def lI(x:T)(n:Bool)(l u:Option Int)(Q:T->Bool->Prop):Prop:=EG (lA x n).vw l u Q
def ZM(xs:List (T×Bool))(C:LT->Prop):Prop:=HE xs=kd/\C (BF xs)
def JK(h:ItK)(xs:List (T×Bool))(R:LT->Prop):Prop:=KB h (CB xs) R
def VB(md:List Md)(xs:List (T×Bool))(C:LT->Prop):Prop:=FF (CA md xs []) C
def dH(Ψ:PEv)(E:XE)(x:List Bool)(y:LS)(u:Tg)(h z:PX)(ρ:kA):T->(Option T->Prop)->Prop:=fG u (NN y.9 x (lockA ρ)) (if isNop h=kd then λρ R=>R kd ρ else(pe Ψ h E).t) (pe Ψ z E).e
def c8(h:Tg)(x:T)(ρ:kA)(K:kA->Prop):Prop:=AO h x ρ K
section
variable{Ψ:PEv}{E:XE}{ρ:kA}{K:TK}{L:Bool->kA->Prop}{M:List (T×Bool)->kA->Prop}{a b c q its X Z:PX}{Y:T->kA->Prop}
section
variable{i j:Nat}{x:T}{op:h7}{f t:Str}{p:PSp}{md:List Md}{v m:List Bool}{w:LS}{g:Tg}{o:ItK}{R:Option T->Prop}{s:Option Sl}{σ:kA}{n:Bool}{ts:LT}
theorem Hs{i:Int}:mB Ψ (.ng i) E ρ K=K (.d (.int (-i))) kb ρ:=rfl
theorem N8:mB Ψ (.lrg a) E ρ K=mB Ψ a E ρ λx n h=>Tj (lA x n).vw λz k=>K z k h:=rfl
theorem kh:mB Ψ (.var i) E ρ K=XH i ρ ρ K:=rfl
theorem Zg:oK Ψ (.var i) E ρ L=XH i ρ ρ λt _ ρ=>D2 t λb=>L b ρ:=rfl
theorem mh{i:Int}:mB Ψ (.int i) E ρ K=K (.d (.int i)) kb ρ:=rfl
theorem xh{x:Str}:mB Ψ (.str x) E ρ K=K (.d (.str x)) kb ρ:=rfl
theorem Ls{x:Bool}:mB Ψ (.bl x) E ρ K=K (.d (.bool x)) kb ρ:=rfl
theorem dh:mB Ψ .non E ρ K=K (.d .none) kb ρ:=rfl
theorem nH{x:Str}{d:D}(h:Ψ.va x=kv d):mB Ψ (.glo x) E ρ K=K (.d d) kb ρ:=by show(match Ψ.va x with|some d=>K (.d d) kb ρ|none=>False)=_;rw[h]
theorem rh{op:gV}:mB Ψ (.bin op a b) E ρ K=mB Ψ a E ρ λx n u=>x3 x n Ψ b E u λy m h=>HH op x n y m λz k=>K z k h:=rfl
theorem Vg:oK Ψ (.cmp op a b) E ρ L=mB Ψ a E ρ λx n z=>x3 x n Ψ b E z λy m h=>JB op x (lA y m) λk=>L k h:=rfl
theorem ph:mB Ψ (.cmp op a b) E ρ K=oK Ψ (.cmp op a b) E ρ λk h=>K (.d (.bool k)) kb h:=rfl
theorem Jh:mB Ψ (.and a b) E ρ K=mB Ψ a E ρ λx _ h=>Px x λc=>if c=kd then mB Ψ b E h K else K (.d (.bool kb)) kb h:=rfl
theorem Xg:oK Ψ (.and a b) E ρ L=oK Ψ a E ρ λc h=>if c=kd then oK Ψ b E h L else L kb h:=rfl
theorem fU:oK Ψ (.or a b) E ρ L=oK Ψ a E ρ λc h=>if c=kd then L kd h else oK Ψ b E h L:=rfl
theorem bh:mB Ψ (.not a) E ρ K=mB Ψ a E ρ λx _ h=>D2 x λc=>K (.d (.bool (!c))) kb h:=rfl
theorem Kg:oK Ψ (.not a) E ρ L=oK Ψ a E ρ λc h=>L (!c) h:=rfl
theorem xA(h:Ψ.sp f=p)(F:p.md=md)(C:(md.all λm=>!m.isMut)=kd):mB Ψ (.call f q) E ρ K=vL Ψ q E md ρ λxs y=>VB md xs λts=>OL p ts (λr u=>u=[]/\K r kd y) E:=by
 have A:∀(md:List Md) (q:PX),(md.all λm=>!m.isMut)=kd->cA md q=[]:=by
  intro md;induction md with
  |nil=>intro q _;cases q<;>rfl|cons m md B =>
   intro q h;rw[qb,Qb]at h;cases m with
   |chg=>cases h.1|_=>cases q with|acons a q=>exact B q h.2|_=>rfl
 show(∃u,LA (cA (Ψ.sp f).md q) ρ=kv u/\(cA (Ψ.sp f).md q).Nodup/\(pe Ψ q E).a (Ψ.sp f).md (clear (cA (Ψ.sp f).md q) ρ) λxs y=>∃ts,CA (Ψ.sp f).md xs u=kv ts/\(Ψ.sp f).run ts (λr l=>∃z,vC (cA (Ψ.sp f).md q) l y=kv z/\K r kd z) E)=_;rw[h,F,A md q C];have W:∀(r:T) (u:LT) (y:kA),(∃z,vC [] u y=kv z/\K r kd z)=(u=[]/\K r kd y):=by
  intro r u y;cases u with|nil=>exact Az #[λ#[_,e,k]=>by cases e;exact#[rfl,k],λk=>#[_,rfl,k.2]]|cons _ _=>exact Az #[λ#[_,e,k]=>(by cases e),λk=>(by cases k.1)]
 have:=λ(y:kA)=>funext λr=>funext λu=>W r u y;simp only[this];exact Az #[λ#[_,e,_,k]=>by cases e;exact k,λk=>#[_,rfl,Q1,k]]
theorem X8:oK Ψ (.call f q) E ρ L=mB Ψ (.call f q) E ρ λt _ h=>D2 t λb=>L b h:=rfl
theorem uP:oK Ψ (.isi a c) E ρ L=mB Ψ a E ρ λx _ h=>VQ c x λb=>L b h:=rfl
theorem lh:mB Ψ (.isi a c) E ρ K=oK Ψ (.isi a c) E ρ λk h=>K (.d (.bool k)) kb h:=rfl
theorem Ms{f:Bi}:mB Ψ (.bi f q) E ρ K=vL Ψ q E [] ρ λxs h=>LH f xs λz k=>K z k h:=rfl
theorem uh:mB Ψ (.mt .pop (.var j) q) E ρ K=JC ρ[j]? λt=>ZI .pop t=kd/\vL Ψ q E [] (ρ.set j (kv (.bor t))) λxs h=>HE xs=kd/\h[j]?=kv (kv (.bor t))/\PK .pop t (BF xs) λr s'=>K r kd (h.set j (kv (.own s'))):=rfl
theorem O8{x:Bool}:mB Ψ (.dnew x) E ρ K=K (.dct x [] []) kd ρ:=rfl
theorem oh:mB Ψ (.dsp a b) E ρ K=mB Ψ a E ρ λy m z=>EC y m (mB Ψ b E z λx n h=>EC x n (ED kd y.er/\K (.dct kd [y.er] [x]) kd h)):=rfl
theorem RG(h:Ψ.sp f=p)(O:p.md=.chg::md)(N:(md.all λm=>!m.isMut)=kd):mB Ψ (.call f (.acons (.var j) q)) E ρ K=JC ρ[j]? λt=>vL Ψ q E md (ρ.set j kf) λxs y=>VB md xs λts=>OL p (t::ts) (λr u=>∃t',u=[t']/\K r kd (y.set j (kv (.own t')))) E:=by
 have I:∀(md:List Md) (q:PX),(md.all λm=>!m.isMut)=kd->cA md q=[]:=by
  intro md;induction md with
  |nil=>intro q _;cases q<;>rfl|cons m md J =>
   intro q h;rw[qb,Qb]at h;cases m with
   |chg=>cases h.1|_=>cases q with|acons a q=>exact J q h.2|_=>rfl
 show(∃u,LA (cA (Ψ.sp f).md (.acons (.var j) q)) ρ=kv u/\(cA (Ψ.sp f).md (.acons (.var j) q)).Nodup/\(pe Ψ (.acons (.var j) q) E).a (Ψ.sp f).md (clear (cA (Ψ.sp f).md (.acons (.var j) q)) ρ) λxs y=>∃ts,CA (Ψ.sp f).md xs u=kv ts/\(Ψ.sp f).run ts (λr l=>∃W,vC (cA (Ψ.sp f).md (.acons (.var j) q)) l y=kv W/\K r kd W) E)=_;rw[h,O];have P:cA (.chg::md) (.acons (.var j) q)=[j]:=by show j::cA md q=[j];rw[I md q N]
 rw[P];have A:∀(r:T) (u:LT) (y:kA),(∃W,vC [j] u y=kv W/\K r kd W)=(∃t',u=[t']/\K r kd (y.set j (kv (.own t')))):=by
  intro r u y
  match u with
  |[]=>exact Az #[λ#[_,e,k]=>(by cases e),λ#[_,e,k]=>(by cases e)]|[t]=>exact Az #[λ#[_,e,k]=>by cases e;exact#[t,rfl,k],λ#[_,e,k]=>by cases e;exact#[_,rfl,k]]|_::_::_=>exact Az #[λ#[_,e,k]=>(by cases e),λ#[_,e,k]=>(by cases e)]
 have B:=λ(y:kA)=>funext λr=>funext λu=>A r u y;simp only[B];have C:∀(t:T) (xs:List (T×Bool)) (G:LT->Prop),(∃ts,CA (.chg::md) ((.d .none,kd)::xs) [t]=kv ts/\G ts)=VB md xs λts=>G (t::ts):=by
  intro t xs G;show(∃ts,(CA md xs []).map (t::·)=kv ts/\G ts)=FF (CA md xs []) λts=>G (t::ts);cases CA md xs []with|none=>exact Az #[λ#[_,e,_]=>(by cases e),λ#[_,e,_]=>(by cases e)]|some ts=>exact Az #[λ#[_,e,k]=>by cases e;exact#[_,rfl,k],λ#[_,e,k]=>by cases e;exact#[_,rfl,k]]
 have F:∀t,ρ[j]?=kv (kv (.own t))->LA [j] ρ=kv [t]:=λt e=>by unfold LA;rw[e];rfl
 have Q:∀(u:LT),((pe Ψ (.acons (.var j) q) E).a (.chg::md) (clear [j] ρ) λxs y=>∃ts,CA (.chg::md) xs u=kv ts/\p.run ts (λr l=>∃t',l=[t']/\K r kd (y.set j (kv (.own t')))) E)=(vL Ψ q E md (ρ.set j kf) λxs y=>∃ts,CA (.chg::md) ((.d .none,kd)::xs) u=kv ts/\p.run ts (λr l=>∃t',l=[t']/\K r kd (y.set j (kv (.own t')))) E):=λu=>Az #[λh=>h.2,λh=>#[rfl,h]];simp only[Q]
 match e:ρ[j]? with
 |some (kv (.own t))=>show _=(vL Ψ q E md (ρ.set j kf) λxs y=>VB md xs λts=>OL p (t::ts) (λr u=>∃t',u=[t']/\K r kd (y.set j (kv (.own t')))) E);rw[F t e];have:=λxs (y:kA)=>C t xs λts=>p.run ts (λr l=>∃t',l=[t']/\K r kd (y.set j (kv (.own t')))) E;refine Az #[λ#[_,e,_,k]=>?_,λk=>#[_,rfl,by simp,?_]];cases e;simp only[this]at k;exact k;simp only[this];exact k|some (kv (.bor t))=>exact Az #[λ#[_,z,_]=>(by unfold LA at z;rw[e]at z;cases z),λk=>k.elim]|some kf=>exact Az #[λ#[_,z,_]=>(by unfold LA at z;rw[e]at z;cases z),λk=>k.elim]|none=>exact Az #[λ#[_,z,_]=>(by unfold LA at z;rw[e]at z;cases z),λk=>k.elim]
theorem oU:mB Ψ (.mt .extend (.var j) q) E ρ K=JC ρ[j]? λt=>ZI .extend t=kd/\vL Ψ q E [] (ρ.set j (kv (.bor t))) λxs h=>HE xs=kd/\h[j]?=kv (kv (.bor t))/\PK .extend t (BF xs) λr s'=>K r kd (h.set j (kv (.own s'))):=rfl
theorem pU:mB Ψ (.mt .append (.var j) q) E ρ K=JC ρ[j]? λt=>ZI .append t=kd/\vL Ψ q E [] (ρ.set j (kv (.bor t))) λxs h=>HE xs=kd/\h[j]?=kv (kv (.bor t))/\PK .append t (BF xs) λr s'=>K r kd (h.set j (kv (.own s'))):=rfl
theorem nh:mB Ψ (.idx a b) E ρ K=mB Ψ a E ρ λx n u=>x3 x n Ψ b E u λy m h=>BA x n y m λz=>K z kb h:=rfl
theorem nU{i:Int}:mB Ψ (.slc a (.int i) .nop) E ρ K=mB Ψ a E ρ λx n h=>lI x n (kv i) kf λz k=>K z k h:=by
 show(pe Ψ a E).e ρ (λx n h=>sq (lA x n) h (λρ (R:Option Int->kA->Prop)=>R (kv i) ρ) λl r=>sq (lA x n) r (λρ (R:Option Int->kA->Prop)=>R kf ρ) λu y=>EG (lA x n).vw l u λz k=>K z k y)=_;have:∀x n h,(sq (lA x n) h (λρ (R:Option Int->kA->Prop)=>R (kv i) ρ) λl r=>sq (lA x n) r (λρ (R:Option Int->kA->Prop)=>R kf ρ) λu y=>EG (lA x n).vw l u λz k=>K z k y)=EG (lA x n).vw (kv i) kf λz k=>K z k h:=by intro x n h;unfold sq;split<;>rfl
 simp only[this];rfl
theorem gh:mB Ψ (.lst q) E ρ K=vL Ψ q E [] ρ λxs y=>xs.9<=kt/\ZM xs λts=>K (.lst ts) kd y:=by have:∀(xs:List (T×Bool)) y,(xs.9<=kt/\ZM xs λts=>K (.lst ts) kd y)=(HE xs=kd/\xs.9<=kt/\K (.lst (BF xs)) kd y):=λxs y=>Az #[λh=>#[h.2.1,h.1,h.2.2],λh=>#[h.2.1,h.1,h.2.2]];simp only[this];rfl
theorem vh:mB Ψ (.tup q) E ρ K=vL Ψ q E [] ρ λxs y=>xs.9<=kt/\ZM xs λts=>K (UE ts) kd y:=by have:∀(xs:List (T×Bool)) y,(xs.9<=kt/\ZM xs λts=>K (UE ts) kd y)=(HE xs=kd/\xs.9<=kt/\K (UE (BF xs)) kd y):=λxs y=>Az #[λh=>#[h.2.1,h.1,h.2.2],λh=>#[h.2.1,h.1,h.2.2]];simp only[this];rfl
theorem P8:mB Ψ (.comp v w g o its Z X) E ρ K=vL Ψ its E [] ρ λxs y=>JK o xs λh =>
   GD (dH Ψ (λ_=>False) v w g Z X y) h [] λz=>K (.lst z) kd y:=rfl
theorem ug:dH Ψ E [] [t] (.nm 0) .nop X ρ x R=mB Ψ X E (kv (.bor x)::lockA ρ) λy n _=>EC y n (R (kv y)):=rfl
theorem V8{u:Str}{x y:D}:dH Ψ E [] [t,u] (.tp [0,1]) .nop X ρ (.d (.tuple [x,y])) R=mB Ψ X E (bD x::bD y::lockA ρ) λy n _=>EC y n (R (kv y)):=EB
theorem gm{b:Bool}:dH Ψ E (b::m) [t] (.nm 0) .nop X ρ x R=mB Ψ X E (kv (.bor x)::aC (b::m) (lockA ρ)) λy n _=>EC y n (R (kv y)):=rfl
theorem cg:dH Ψ E [] [t] (.nm 0) (.cmp op a b) X ρ x R=oK Ψ (.cmp op a b) E (kv (.bor x)::lockA ρ) λk h=>if k=kd then mB Ψ X E h λy n _=>EC y n (R (kv y)) else R none:=rfl
theorem Zh:vL Ψ .anil E md ρ M=M [] ρ:=rfl
theorem S8:vL Ψ (.acons a q) E [] ρ M=mB Ψ a E ρ λx n y=>A8 x n Ψ q E [] y λxs h=>M ((x,n)::xs) h:=rfl
theorem tU:vL Ψ (.acons a q) E (.shal::md) ρ M=mB Ψ a E ρ λx n y=>A8 x n Ψ q E md y λxs h=>M ((x,n)::xs) h:=rfl
theorem aU:vL Ψ (.acons a q) E (.bor::md) ρ M=mB Ψ a E ρ λx n y=>A8 x n Ψ q E md y λxs h=>M ((x,n)::xs) h:=rfl
theorem Pg:LK Ψ E Y (.var i) ρ=T9 i ρ ρ i Y:=rfl
theorem Sr{x:Bool}:LK Ψ E Y (.bl x) ρ=Y (.d (.bool x)) ρ:=Az #[λh=>h.2,λh=>#[rfl,h]]
theorem D8:LK Ψ E Y (.call f q) ρ=mB Ψ (.call f q) E ρ λx n h=>EC x n (Y x h):=rfl
theorem Ag{op:gV}:LK Ψ E Y (.bin op a b) ρ=mB Ψ (.bin op a b) E ρ λx n h=>EC x n (Y x h):=rfl
theorem Eg:LK Ψ E Y (.and a b) ρ=mB Ψ (.and a b) E ρ λx n h=>EC x n (Y x h):=rfl
theorem Ar{f:Bi}:LK Ψ E Y (.bi f q) ρ=mB Ψ (.bi f q) E ρ λx n h=>EC x n (Y x h):=rfl
theorem Sg:LK Ψ E Y (.idx a b) ρ=mB Ψ (.idx a b) E ρ λx n h=>EC x n (Y x h):=rfl
theorem Rg:LK Ψ E Y (.tup q) ρ=mB Ψ (.tup q) E ρ λx n h=>EC x n (Y x h):=rfl
theorem C8:LK Ψ E Y (.comp v w g o its Z X) ρ=mB Ψ (.comp v w g o its Z X) E ρ λx n h=>EC x n (Y x h):=rfl
theorem My:XH (i+1) (s::σ) ρ K=XH i σ ρ K:=rfl
theorem Ry{t:T}:XH 0 (kv (.bor t)::σ) ρ K=K t kb ρ:=rfl
theorem Ny{t:T}:XH 0 (kv (.own t)::σ) ρ K=K t kb ρ:=rfl
theorem Py:XH i (lockA σ) ρ K=XH i σ ρ K:=by
 unfold XH lockA;rw[Qd];cases σ[i]? with
 |none=>rfl|some s=>cases s with|none=>rfl|some s=>cases s<;>rfl
theorem Oy{b:Bool}:XH (i+1) (aC (b::m) (lockA (s::σ))) ρ K=XH i (aC m (lockA σ)) ρ K:=rfl
theorem Cs:XH 0 (aC (false::m) (lockA (s::σ))) ρ K=XH 0 (lockA (s::σ)) ρ K:=rfl
theorem Bs:XH i (aC [] (lockA σ)) ρ K=XH i (lockA σ) ρ K:=rfl
theorem Hy:T9 (i+1) (s::σ) ρ j Y=T9 i σ ρ j Y:=rfl
theorem Ly{t:T}:T9 0 (kv (.own t)::σ) ρ j Y=Y t (ρ.set j kf):=rfl
theorem Ex{x:D}:x3 (.d x) n Ψ b E ρ K=mB Ψ b E ρ K:=by cases n<;>rfl
theorem Tx:x3 x kd Ψ b E ρ K=mB Ψ b E ρ K:=rfl
theorem Ax:x3 (.lst ts) kb Ψ b E ρ K=mB Ψ b E (lockA ρ) λy m _=>K y m ρ:=rfl
theorem Uy{x:D}:A8 (.d x) n Ψ b E md ρ M=vL Ψ b E md ρ M:=by cases n<;>rfl
theorem Vy:A8 x kd Ψ b E md ρ M=vL Ψ b E md ρ M:=rfl
theorem Xy:A8 (.lst ts) kb Ψ b E md ρ M=vL Ψ b E md (lockA ρ) λxs _=>M xs ρ:=rfl
end
end
section
variable{Ψ:PEv}{E:XE}{ρ σ:kA}{Z:PEnds}{s r q:PT}{i:Nat}{e c its:PX}{o:Option Sl}{n:Bool}{v:D}{P:Prop}{ds:List D}{x:T}
section
variable{j:Nat}{A B:Prop}
theorem vA:xB Ψ E .nil Z ρ=Z.nx ρ:=rfl
theorem Dg:xB Ψ E (.seq (.set i e) r) Z (o::σ)=mB Ψ e E (o::σ) λx n h=>FK Ψ E r Z i x n h:=rfl
theorem Hg:xB Ψ E (.seq (.own i e) r) Z (o::σ)=mB Ψ e E (o::σ) λx n h=>Bp Ψ E r Z i x n h:=rfl
theorem B8:xB Ψ E (.seq (.expr e) r) Z (o::σ)=mB Ψ e E (o::σ) λ_ _ h=>xB Ψ E r Z h:=rfl
theorem Gg:xB Ψ E (.seq (.ret e) r) Z (o::σ)=LK Ψ E Z.rt e (o::σ):=rfl
theorem Lg:xB Ψ E (.seq (.ife c s .nil) r) Z (o::σ)=oK Ψ c E (o::σ) λk h=>if k=kd then xB Ψ E s { Z with nx:=λy=>xB Ψ E r Z y } h else xB Ψ E r Z h:=rfl
theorem Og{u:Tg}{k:ItK}:xB Ψ E (.seq (.for_ u k its q) r) Z (o::σ)=vL Ψ its E [] (o::σ) λxs h=>JK k xs λy =>
   if bN xs=kd then BH (xB Ψ E q) u { Z with nx:=λz=>xB Ψ E r Z (kill u.ix z) } y h
   else BH (xB Ψ E q) u { Z with nx:=λz=>UU u.ix (oC h (SG its)) h (λw=>xB Ψ E r Z w) (kill u.ix z) } y (lock (oC h (SG its)) h):=rfl
theorem Cg{a:PX}:xB Ψ E (.seq (.six (.var j) a e) r) Z (o::σ)=JC (o::σ)[j]? λt=>mB Ψ e E ((o::σ).set j (kv (.bor t))) λx n z=>EC x n (mB Ψ a E z λy m h=>EC y m (h[j]?=kv (kv (.bor t))/\ge t y x λt'=>xB Ψ E r Z (h.set j (kv (.own t'))))):=rfl
theorem U8{a k:PX}:xB Ψ E (.seq (.six (.idx (.var j) k) a e) r) Z (o::σ)=JC (o::σ)[j]? λt=>mB Ψ e E ((o::σ).set j (kv (.bor t))) λx n w=>EC x n (mB Ψ k E w λz l u=>EC z l (Xo z t λs put=>mB Ψ a E u λy m h=>EC y m (h[j]?=kv (kv (.bor t))/\ge s y x λs'=>xB Ψ E r Z (h.set j (kv (.own (put s'))))))):=rfl
theorem Fg{k:PX}:xB Ψ E (.seq (.sdf j k) r) Z (o::σ)=JC (o::σ)[j]? λt=>Pc t=kd/\mB Ψ k E ((o::σ).set j (kv (.bor t))) λy m h=>EC y m (h[j]?=kv (kv (.bor t))/\Mo y t λt'=>xB Ψ E r Z (h.set j (kv (.own t')))):=rfl
theorem Ng{is:LN}:xB Ψ E (.seq (.frz is s) r) Z (o::σ)=xB Ψ E (.seq s r) Z (frzAt is (o::σ)):=rfl
theorem Bg:xB Ψ E (.seq (.whl c q) r) Z (o::σ)=Pn Ψ E c q { Z with nx:=λh=>xB Ψ E r Z h } (o::σ):=rfl
theorem Ky:FK Ψ E r Z i (.d v) n ρ=xB Ψ E r Z (ρ.set i (bD v)):=Az #[λh=>h.2,λh=>#[by cases n<;>rfl,h]]
theorem Zt:FK Ψ E r Z i (.lst (ds.map T.d)) kd ρ=xB Ψ E r Z (ρ.set i (bD (.list ds))):=by unfold FK T.er;rw[DA];exact Az #[λh=>h.2,λh=>#[rfl,h]]
theorem uy:Bp Ψ E r Z i x kd ρ=xB Ψ E r Z (ρ.set i (kv (.own x))):=Az #[λh=>h.2,λh=>#[rfl,h]]
theorem Ey:EC (.d v) n P=P:=Az #[λh=>h.2,λh=>#[by cases n<;>rfl,h]]
theorem Ay:EC x kd P=P:=Az #[λh=>h.2,λh=>#[rfl,h]]
theorem BX:(([]:LT)=[]/\P)=P:=Az #[λh=>h.2,λh=>#[rfl,h]]
theorem Uq:(if(true:Bool)=kd then A else B)=A:=rfl
theorem Bq:(if(false:Bool)=kd then A else B)=B:=rfl
theorem Jy{v h:Option Sl}:xB Ψ E r Z (WE (h::σ) 0 v)=xB Ψ E r Z (v::σ):=rfl
theorem iy{v h y:Option Sl}:xB Ψ E r Z (WE (h::y::σ) 1 v)=xB Ψ E r Z (h::v::σ):=rfl
theorem ay{v y h z:Option Sl}:xB Ψ E r Z (WE (y::h::z::σ) 2 v)=xB Ψ E r Z (y::h::v::σ):=rfl
theorem sy{v z y h u:Option Sl}:xB Ψ E r Z (WE (z::y::h::u::σ) 3 v)=xB Ψ E r Z (z::y::h::v::σ):=rfl
theorem oy{v u z y h w:Option Sl}:xB Ψ E r Z (WE (u::z::y::h::w::σ) 4 v)=xB Ψ E r Z (u::z::y::h::v::σ):=rfl
theorem ny{v w u z y h k:Option Sl}:xB Ψ E r Z (WE (w::u::z::y::h::k::σ) 5 v)=xB Ψ E r Z (w::u::z::y::h::v::σ):=rfl
theorem my{v k w u z y h a:Option Sl}:xB Ψ E r Z (WE (k::w::u::z::y::h::a::σ) 6 v)=xB Ψ E r Z (k::w::u::z::y::h::v::σ):=rfl
theorem ly{v a k w u z y h b:Option Sl}:xB Ψ E r Z (WE (a::k::w::u::z::y::h::b::σ) 7 v)=xB Ψ E r Z (a::k::w::u::z::y::h::v::σ):=rfl
theorem gy{v b a k w u z y h f:Option Sl}:xB Ψ E r Z (WE (b::a::k::w::u::z::y::h::f::σ) 8 v)=xB Ψ E r Z (b::a::k::w::u::z::y::h::v::σ):=rfl
theorem cy{v f b a k w u z y h g:Option Sl}:xB Ψ E r Z (WE (f::b::a::k::w::u::z::y::h::g::σ) 9 v)=xB Ψ E r Z (f::b::a::k::w::u::z::y::h::v::σ):=rfl
theorem Ks{v l g f b a k w u z y h:Option Sl}:xB Ψ E r Z (WE (l::g::f::b::a::k::w::u::z::y::h::σ) 10 v)=xB Ψ E r Z (l::g::f::b::a::k::w::u::z::y::v::σ):=rfl
theorem Zs{v m l g f b a k w u z h y:Option Sl}:xB Ψ E r Z (WE (m::l::g::f::b::a::k::w::u::z::h::y::σ) 11 v)=xB Ψ E r Z (m::l::g::f::b::a::k::w::u::z::h::v::σ):=rfl
theorem Ys{v p m l g f b a k w u y h z:Option Sl}:xB Ψ E r Z (WE (p::m::l::g::f::b::a::k::w::u::y::h::z::σ) 12 v)=xB Ψ E r Z (p::m::l::g::f::b::a::k::w::u::y::h::v::σ):=rfl
theorem Js{v X p m l g f b a k w z y h u:Option Sl}:xB Ψ E r Z (WE (X::p::m::l::g::f::b::a::k::w::z::y::h::u::σ) 13 v)=xB Ψ E r Z (X::p::m::l::g::f::b::a::k::w::z::y::h::v::σ):=rfl
end
end
section
variable{d:D}{n m:Bool}{i j:Int}{z y:Str}{b:Bool}{xs:List (T×Bool)}{ts:LT}{ds es:List D}{md:List Md}{t:T}{C:LT->Prop}{Q:T->Bool->Prop}{L:Bool->Prop}{R:T->Prop}{W:LT->Prop}
section
variable{ρ:kA}{P:kA->Prop}{e k:D}{op:h7}{ks:List D}{x:Str}{kvs:List (D×D)}{l u:Option Int}
theorem Cu{i:Int}{x:D}{Q:T->Prop}(w:0<=i)(v:i<ds.9)(q:Q (.lst ((ds.set i.toNat x).map T.d))):ge (.lst (ds.map T.d)) (.d (.int i)) (.d x) Q:=by
 have h:i.toNat<ds.length:=()
 refine#[i.toNat,?_,by rw[<- QBC];exact q];unfold JU;rw[QE];rw[t6 w,t6 v]
theorem Yg{J:LN}{v:kA}{N:kA->Prop}:UU J [] v N ρ=N ρ:=Az #[λh=>h.2,λh=>#[λ_ z=>(nomatch z),h]]
theorem JA{α:Type}(f:α->D)(l:List α):l.map (λc=>T.d (f c))=(l.map f).map T.d:=by rw[QX];rfl
theorem BD:(lA (.lst (ds.map T.d)) n).vw=.ls (ds.map T.d):=by cases n;rfl;show Vw.ls ((ersT (ds.map T.d)).map T.d)=_;rw[DA]
theorem Ig:VB md [] C=C []:=EB
theorem yy:VB [] ((.d d,n)::xs) C=VB [] xs λts=>C (.d d::ts):=by
 have e:CA [] ((.d d,n)::xs) []=(CA [] xs []).map (.d d::·):=by cases n<;>rfl
 unfold VB;rw[e,SF]
theorem jy:VB [] ((.lst (ds.map T.d),kd)::xs) C=VB [] xs λts=>C (.d (.list ds)::ts):=by have e:CA [] ((.lst (ds.map T.d),kd)::xs) []=(CA [] xs []).map (.d (.list (ersT (ds.map T.d)))::·):=rfl;unfold VB;rw[e,SF,DA]
theorem zy:VB (.bor::md) ((t,kb)::xs) C=VB md xs λts=>C (t::ts):=by have e:CA (.bor::md) ((t,kb)::xs) []=(CA md xs []).map (t::·):=rfl;unfold VB;rw[e,SF]
theorem RU:yE (.lst (ds.map T.d))=kv (.lst (ds.map T.d)):=by simp only[yE,T.vw,YA,Qx]
theorem Ix{u:T}(h:yE (lA t n)=kv u):VB (.shal::md) ((t,n)::xs) C=VB md xs λts=>C (u::ts):=by
 have e:CA (.shal::md) ((t,n)::xs) []=(CA md xs []).map (u::·):=by show(match yE (lA t n) with|some t=>(CA md xs []).map (t::·)|none=>kf)=_;rw[h]
 unfold VB;rw[e,SF]
theorem Er:VB (.shal::md) ((.lst (ds.map T.d),n)::xs) C=VB md xs λts=>C (.lst (ds.map T.d)::ts):=Ix (by cases n;exact RU;show yE (.d (.list (ersT (ds.map T.d))))=_;rw[DA];simp only[yE,T.vw,YA,Qx])
theorem yh:ZM [] C=C []:=Az #[λh=>h.2,λh=>#[rfl,h]]
theorem zx:ZM ((.lst (ds.map T.d),kd)::xs) C=ZM xs λts=>C (.lst (ds.map T.d)::ts):=by show((DH (.lst (ds.map T.d)) kd&&HE xs)=kd/\C (.lst (ds.map T.d)::BF xs))=(HE xs=kd/\C (.lst (ds.map T.d)::BF xs));rw[show DH (.lst (ds.map T.d)) kd=kd from rfl,WV]
theorem Yy:ZM ((.d d,n)::xs) C=ZM xs λts=>C (.d d::ts):=by show((DH (.d d) n&&HE xs)=kd/\C (.d d::BF xs))=(HE xs=kd/\C (.d d::BF xs));rw[show DH (.d d) n=kd by cases n<;>rfl,WV]
theorem Yh{i j:Nat}{x y:D}:c8 (.tp [i,j]) (.d (.tuple [x,y])) ρ P=P ((ρ.set i (bD x)).set j (bD y)):=EB
theorem Rs{i:Nat}:c8 (.nm i) t ρ P=P (ρ.set i (kv (.bor t))):=rfl
theorem Ur{h:Tg}:AO h t ρ P=c8 h t ρ P:=rfl
theorem Jg:HH .Add (.d (.int i)) n (.d (.int j)) m Q=Q (.d (.int (i+j))) false:=by unfold HH;rw[aA,aA];exact El i j
theorem ig:HH .Add (.d (.str z)) n (.d (.str y)) m Q=(z.9+y.9<=kt/\Q (.d (.str (z++y))) kb):=by unfold HH;rw[aA,aA];exact Al z y
theorem gg:HH .Sub (.d (.int i)) n (.d (.int j)) m Q=Q (.d (.int (i - j))) false:=by unfold HH;rw[aA,aA];exact Tl i j
theorem og:HH .Mult (.d (.int i)) n (.d (.int j)) m Q=(Dz i j/\Q (.d (.int (i * j))) kb):=by unfold HH;rw[aA,aA];exact Pl i j
theorem lg:HH .Mult (.d (.str z)) n (.d (.int j)) m Q=((-(2 ^ 31)<=j/\j<2 ^ 31/\z.9 * j.toNat<=kt)/\Q (.d (.str (ZJ z j))) kb):=by unfold HH;rw[aA,aA];exact Ol z j
theorem eg:HH .FloorDiv (.d (.int i)) n (.d (.int j)) m Q=((0<j/\j<2 ^ 200)/\Q (.d (.int (i / j))) kb):=by unfold HH;rw[aA,aA];exact Nl i j
theorem rg:HH .Mod (.d (.int i)) n (.d (.int j)) m Q=(0<j/\Q (.d (.int (i % j))) kb):=by unfold HH;rw[aA,aA];exact Ml i j
theorem gq:UE [.d d,.d e]=.d (.tuple [d,e]):=rfl
theorem fq{f g:D}:UE [.d d,.d e,.d f,.d g]=.d (.tuple [d,e,f,g]):=rfl
theorem Ef:JB .Eq (.d (.int i)) (.d (.int j)) L=L (decide (i=j)):=rfl
theorem Af:JB .Eq (.d (.str z)) (.d (.str y)) L=L (decide (z=y)):=rfl
theorem Nf:JB .NotEq (.d (.int i)) (.d (.int j)) L=L (!decide (i=j)):=rfl
theorem Lf:JB .NotEq (.d (.str z)) (.d (.str y)) L=L (!decide (z=y)):=rfl
theorem gr:JB .Lt (.d (.int i)) (.d (.int j)) L=L (decide (i<j)):=rfl
theorem P7:JB op (.d d) (.lst (ds.map T.d)) L=SI op d (.list ds) L:=by show SI op d (.list (ersT (ds.map T.d))) L=_;rw[DA]
theorem nr:JB .Gt (.d (.int i)) (.d (.int j)) L=L (decide (j<i)):=rfl
theorem Zw:JB op t (lA (.d d) m) L=JB op t (.d d) L:=by rw[aA]
theorem Dl:JB op t (lA (.lst (ds.map T.d)) kd) L=JB op t (.d (.list ds)) L:=by show JB op t (.d (.list (ersT (ds.map T.d)))) L=_;rw[DA]
theorem Vr{u:T}:JB op t (lA u kb) L=JB op t u L:=rfl
theorem Sf:JB .In (.d (.str z)) (.d (.list ds)) L=(((TB (.str z)=kd/\ds.all TB=kd)∨(ZD (.str z)/\ZD (.list ds)))/\L (ds.any λy=>Qw y (.str z))):=rfl
theorem z8:JB .NotIn (.d (.str z)) (.lst (ds.map T.d)) L=(((TB (.str z)=kd/\ds.all TB=kd)∨(ZD (.str z)/\ZD (.list ds)))/\L (!(ds.any λy=>Qw y (.str z)))):=by exact P7
theorem Mf:JB .NotEq (.d (.list ds)) (.d (.list es)) L=(ZD (.list ds)/\ZD (.list es)/\L (!PyData.eqv (.list ds) (.list es))):=rfl
theorem k8:JB .In (.d d) (.dct b ks ts) L=(ED b d/\L (fA ks d).isSome):=by show(ED b d/\((CmpOp.In=.In/\L (fA ks d).isSome)∨(CmpOp.In=.NotIn/\L (!(fA ks d).isSome))))=_;simp
theorem jN:JB .NotIn (.d d) (.dct b ks ts) L=(ED b d/\L (!(fA ks d).isSome)):=by show(ED b d/\((CmpOp.NotIn=.In/\L (fA ks d).isSome)∨(CmpOp.NotIn=.NotIn/\L (!(fA ks d).isSome))))=_;simp
theorem Pf:JB .In (.d (.str z)) (.d (.tuple ds)) L=(((TB (.str z)=kd/\ds.all TB=kd)∨(ZD (.str z)/\ZD (.list ds)))/\L (ds.any λy=>Qw y (.str z))):=rfl
theorem Rf:JB .In (.d (.str z)) (.lst (ds.map T.d)) L=(((TB (.str z)=kd/\ds.all TB=kd)∨(ZD (.str z)/\ZD (.list ds)))/\L (ds.any λy=>Qw y (.str z))):=by exact P7
theorem Xx:D2 (.d (.bool b)) L=L b:=rfl
theorem Rx:Px (.d (.bool b)) L=L b:=rfl
theorem DZ{k:String}(h:isD k d=kv b)(hk:DO k=kd):VQ (.bty x k) (.d d) L=L b:=by show(∃b,isD k d=kv b/\DO k=kd/\L b)=_;exact Az #[λ#[_,e,_,q]=>by rw[h]at e;cases e;exact q,λq=>#[_,h,hk,q]]
theorem Hv:VQ (.bty x "int") (.d (.int i)) L=L true:=DZ rfl rfl
theorem Lv:VQ (.bty x "bool") (.d (.int i)) L=L false:=DZ rfl rfl
theorem Mv:VQ (.bty x "bool") (.d (.bool b)) L=L true:=DZ rfl rfl
theorem Ip:LH .len [(.d (.list ds),n)] Q=Q (.d (.int ds.9)) false:=by unfold LH CB;rw[aA];refine(vg _).trans ?_;rw[QE]
theorem Ep:LH .len [(.lst (ds.map T.d),n)] Q=Q (.d (.int ds.9)) false:=by unfold LH CB;rw[BD];refine(vg _).trans ?_;rw[QE]
theorem yq:LH .any [(.lst (ds.map T.d),n)] Q=∃bs:List Bool,ds=bs.map PyData.bool/\Q (.d (.bool (bs.any id))) false:=by unfold LH CB;rw[BD];refine(Dr _).trans ?_;simp only[YA,Qq]
theorem z6:LH .all [(.lst (ds.map T.d),n)] Q=∃bs:List Bool,ds=bs.map PyData.bool/\Q (.d (.bool (bs.all id))) false:=by unfold LH CB;rw[BD];exact Az #[λ#[_,bs,e,h,q]=>by cases e;rw[YA]at h;exact#[bs,Qi h,q],λ#[bs,e,q]=>#[_,bs,rfl,by rw[YA,e],q]]
theorem Ee:LH .list [(.lst (ds.map T.d),n)] Q=Q (.lst (ds.map T.d)) true:=by unfold LH CB;rw[BD];exact Az #[λ#[_,_,es,a,b,c,q]=>by cases a;cases b;rw[YA]at c;cases c;exact q,λq=>kg rfl q]
theorem Ie:LH .list [(.d (.list ds),n)] Q=Q (.lst (ds.map T.d)) true:=by unfold LH CB;rw[aA];exact Az #[λ#[_,_,es,a,b,c,q]=>by cases a;cases b;rw[YA]at c;cases c;exact q,λq=>kg rfl q]
theorem F7:YT (.ls ts) k R=False:=Az #[λ#[_,_,_,_,_,e,_]=>(by cases e),Qc]
theorem yl:YT (.tp ts) k R=False:=Az #[λ#[_,_,_,_,_,e,_]=>(by cases e),Qc]
theorem zl{x:D}:YT (.sc x) k R=False:=Az #[λ#[_,_,_,_,_,e,_]=>(by cases e),Qc]
theorem sx:BA (.lst (ds.map T.d)) n (.d (.int i)) m R=FF (fE ds i) λd=>R (.d d):=by unfold BA;rw[BD,aA,F7,or_false];refine(j7 _ _).trans ?_;show FF (fE (ds.map T.d) i) R=_;rw[OG,SF]
theorem Bh:BA (.d (.list ds)) n (.d (.int i)) m R=FF (fE ds i) λd=>R (.d d):=by unfold BA;rw[aA,aA,show(T.d (.list ds)).vw=.ls (ds.map T.d) from rfl,F7,or_false];refine(j7 _ _).trans ?_;show FF (fE (ds.map T.d) i) R=_;rw[OG,SF]
theorem U1:BA (.d (.tuple ds)) n (.d (.int i)) m R=FF (fE ds i) λd=>R (.d d):=by unfold BA;rw[aA,aA,show(T.d (.tuple ds)).vw=.tp (ds.map T.d) from rfl,yl,or_false];refine(zW _ _).trans ?_;show FF (fE (ds.map T.d) i) R=_;rw[OG,SF]
theorem Ln:BA (.lst [.d d,.d e]) n t m R=BA (.lst ([d,e].map T.d)) n t m R:=rfl
theorem ox:BA (.d (.str z)) n (.d (.int i)) m R=(z.9<=kt/\FF (fE z.cps.toList i) λc=>R (.d (.str #[(qG [c])]))):=by unfold BA;rw[aA,aA,show(T.d (.str z)).vw=.sc (.str z) from rfl,zl,or_false];exact Fk _ _
theorem Mn{q:Bool}{l:Nat}(f:DD kvs=kv q)(a:ED q k)(w:fA (kvs.map (·.1)) k=kv l)(h:(kvs.map (·.2))[l]?=kv e)(v:R (.d e)):BA (.d (.dict kvs)) n (.d k) m R:=by
 unfold BA;rw[aA];refine .inr ?_;show YT (xC kvs) k R;unfold xC;rw[f];refine#[q,_,_,l,.d e,rfl,a,w,?_,v];rw[Qd]at h ⊢;cases z:kvs[l]? with|none=>rw[z]at h;cases h|some p=>rw[z]at h;cases h;rfl
theorem Dx:lI (.d (.str z)) n l u Q=(z.9<=kt/\Q (.d (.str (wq z l u))) kb):=by unfold lI;rw[aA];exact ki z
theorem Fx:lI (.d (.list ds)) n l u Q=Q (.lst ((mD ds l u).map T.d)) true:=by unfold lI;rw[aA];refine(Y3 _).trans ?_;rw[YA];exact EB
theorem Oo:lI (.lst (ds.map T.d)) n l u Q=Q (.lst ((mD ds l u).map T.d)) true:=by unfold lI;rw[BD];refine(Y3 _).trans ?_;rw[YA];exact EB
theorem Yx:JK .val [(.d (.list ds),n)] W=W (ds.map T.d):=by unfold JK CB;rw[aA];exact zG _
theorem Jx:JK .val [(.d (.tuple ds),n)] W=W (ds.map T.d):=by unfold JK CB;rw[aA];exact O6 _
theorem jo:JK .val [(.lst (ds.map T.d),n)] W=W (ds.map T.d):=by unfold JK CB;rw[BD];exact zG _
theorem Sn:JK .rng1 [(.d (.int j),n)] W=((-(2 ^ 62)<=j/\j<2 ^ 62)/\W ((Qt j.toNat).map λ(i:Nat)=>.d (.int (i:Int)))):=by unfold JK CB;rw[aA];exact N6 j
theorem vo:JK .enum [(.d (.list ds),n)] W=W (ds.zipIdx.map λp=>.d (.tuple [.int (p.2:Int),p.1])):=by unfold JK CB;rw[aA];refine(zT _).trans ?_;exact Az #[λ#[_,_,v,h,k]=>by cases v;rw[YA]at h;cases h;exact k,λk=>#[_,_,rfl,YA _,k]]
theorem Ed:JK .enum [(.lst (ds.map T.d),n)] W=W (ds.zipIdx.map λp=>.d (.tuple [.int (p.2:Int),p.1])):=by unfold JK CB;rw[BD];refine(zT _).trans ?_;exact Az #[λ#[_,_,v,h,k]=>by cases v;rw[YA]at h;cases h;exact k,λk=>#[_,_,rfl,YA _,k]]
theorem yo(h:kvs=[]∨DD kvs=kv kd):JK .itm [(.d (.dict kvs),n)] W=W (kvs.map λp=>.d (.tuple [p.1,p.2])):=by
 unfold JK CB;rw[aA];show KB .itm [xC kvs] W=_;rcases h with rfl|h;exact M6;unfold xC;rw[h];refine(yT _ _).trans ?_;have e:(kvs.map λp=>T.d p.2)=(kvs.map (·.2)).map T.d:=by rw[QX];rfl
 have v:((kvs.map (·.1)).zip (kvs.map (·.2))).map (λp=>T.d (.tuple [p.1,p.2]))=kvs.map λp=>T.d (.tuple [p.1,p.2]):=by rw[List.zip_map',QX];rfl
 refine Az #[λ#[ds,w,k]=>?_,λk=>#[kvs.map (·.2),by rw[e,YA],?_]];rw[e,YA]at w;cases w;rw[v]at k;exact k;rw[v];exact k
noncomputable def eZ(Q:T->LT->Prop):PEnds:={ nx:=λ_=>Q (.d .none) [],rt:=λt _=>Q t [] }
theorem Ff{Q:T->LT->Prop}{t:T}:(eZ Q).rt t ρ=Q t []:=rfl
theorem nA{Ψ:PEv}{b:PT}{p:PSp}{N v:LS}{ds:LT}{Q:T->LT->Prop}(ρ:kA)(h:pF Ψ b (eZ Q) ρ)(hl:ds.9=v.length:=by rfl)(hc:UB 0 p.md v.9=[]:=by rfl)(w:oB N p.md ds=ρ:=by rfl):ds.9=v.9/\pF Ψ b (cD p v.9 Q) (oB N p.md ds):=by
 have e:cD p v.9 Q=eZ Q:=by unfold cD;rw[hc];rfl
 rw[e,w];exact#[hl,h]
end
end
end L2.L3
namespace L2.L3.K30
open PySem PySem.Spec PyProof.Rows L2 L2.L3
section
variable{p q:Pt}{r:Rm}{Q:T->Prop}{l:Inn}{v:Int}{a b n g:Str}{w:Wy}{e:Str×Str}
def top(i:Nat):Stmt:=Qy.main.body.getD i (.Pass #[0,0,0,0])
noncomputable def eG:LS:=["edges","starts","goal","rooms","came_from","firsts","chains"]
def ZF:LS:=["edges","starts","goal"]
noncomputable def aM:Need:=#[["rooms_of","points_reached","lay_chain","chain_from","full_names"],["BEGIN"],["sorted"]]
noncomputable def VC:PT :=
  %[.expr (.call "lay_chain" %[.var 3,.var 4,.tup %[.var 2,.str "to"|1]|1]),.set 4 (.call "points_reached" %[.var 3|1])|2]
def sG:PT :=
  %[.own 3 (.call "rooms_of" %[.var 0,.var 1,.var 2|1]),.set 4 (.call "points_reached" %[.var 3|1]),.whl (.cmp .In (.tup %[.var 2,.str "to"|1]) (.var 4)) VC,.set 5 (.comp [] ["point"] (.nm 0) .val %[.idx (.var 3) (.glo "BEGIN")|1] (.cmp .Gt (.idx (.idx (.var 4) (.var 0)) (.glo "BEGIN")) (.int 0)) (.idx (.var 0) (.int 0))),.set 6 (.comp [] ["first"] (.nm 0) .val %[.var 5|1] .nop (.call "chain_from" %[.var 4,.var 0,.var 3|1])),.ret (.tup %[.bi .sorted %[.var 6|1],.call "full_names" %[.var 4|1]|1])|2]
theorem IK:YB aM sG eG ZF (top 3)=true:=by kernel_rfl
noncomputable def mN:LS:=["edges","starts","goal","rooms","name","first","second"]
def uK:LS:=["edges","starts","goal"]
def VV:Need:=#[["add_name","add_way"],["BEGIN","WIDE"],[]]
noncomputable def mF:PT :=
  %[.ife (.cmp .NotEq (.var 4) (.var 2)) %[.expr (.call "add_name" %[.var 3,.var 4|1]),.expr (.call "add_way" %[.var 3,.glo "BEGIN",.tup %[.var 4,.str "to"|1],.glo "WIDE"|1])|2] .nil|2]
noncomputable def lF:PT :=
  %[.ife (.and (.cmp .NotEq (.var 5) (.var 2)) (.cmp .NotEq (.var 5) (.var 6))) %[.expr (.call "add_name" %[.var 3,.var 5|1]),.expr (.call "add_name" %[.var 3,.var 6|1]),.expr (.call "add_way" %[.var 3,.tup %[.var 5,.str "from"|1],.tup %[.var 6,.str "to"|1],.glo "WIDE"|1])|2] .nil|2]
def kN:PT :=
  %[.own 3 (.dsp (.glo "BEGIN") (.dnew kd)),.for_ (.nm 4) .val %[.var 1|1] mF,.for_ (.tp [5,6]) .val %[.var 0|1] lF,.ret (.var 3)|2]
theorem GT:YB VV kN mN uK (top 4)=true:=by kernel_rfl
def eN:LS:=["rooms","name"]
def nK:LS:=["rooms","name"]
def GV:Need:=#[["add_way"],[],[]]
noncomputable def TH:PT :=
  %[.expr (.call "add_way" %[.var 0,.tup %[.var 1,.str "to"|1],.tup %[.var 1,.str "from"|1],.int 1|1])|2]
theorem IT:YB GV TH eN nK (top 5)=true:=by kernel_rfl
def lP:LS:=["rooms","here","there","room"]
def xM:LS:=["rooms","here","there","room"]
def gZ:Need:=#[[],[],[]]
noncomputable def kP:PT :=
  %[.sdf 0 (.var 1),.sdf 0 (.var 2),.six (.idx (.var 0) (.var 1)) (.var 2) (.var 3),.six (.idx (.var 0) (.var 2)) (.var 1) (.int 0)|2]
theorem UW:YB gZ kP lP xM (top 6)=true:=by kernel_rfl
noncomputable def AE:LS:=["rooms","came_from","waiting","here","there","room"]
def zE:LS:=["rooms"]
def BJ:Need:=#[[],["BEGIN"],["len"]]
noncomputable def vB:PT :=
  %[.ife (.and (.cmp .Gt (.var 5) (.int 0)) (.cmp .NotIn (.var 4) (.var 1))) %[.six (.var 1) (.var 4) (.var 3),.expr (.mt .append (.var 2) %[.var 4|1])|2] .nil|2]
def LD:PT :=
  %[.set 3 (.mt .pop (.var 2) %[.int 0|1]),.for_ (.tp [4,5]) .itm %[.idx (.var 0) (.var 3)|1] vB|2]
def NE:PT :=
  %[.own 1 (.dsp (.glo "BEGIN") .non),.own 2 (.lst %[.glo "BEGIN"|1]),.whl (.cmp .Gt (.bi .len %[.var 2|1]) (.int 0)) LD,.ret (.var 1)|2]
theorem AI:YB BJ NE AE zE (top 7)=true:=by kernel_rfl
def DK:LS:=["rooms","came_from","last","there","here"]
def tI:LS:=["rooms","came_from","last"]
def VS:Need:=#[[],["BEGIN"],[]]
noncomputable def sE:PT :=
  %[.set 4 (.idx (.var 1) (.var 3)),.six (.idx (.var 0) (.var 4)) (.var 3) (.bin .Sub (.idx (.idx (.var 0) (.var 4)) (.var 3)) (.int 1)),.six (.idx (.var 0) (.var 3)) (.var 4) (.bin .Add (.idx (.idx (.var 0) (.var 3)) (.var 4)) (.int 1)),.set 3 (.var 4)|2]
def lG:PT :=
  %[.set 3 (.var 2),.whl (.cmp .NotEq (.var 3) (.glo "BEGIN")) sE|2]
theorem IQ:YB VS lG DK tI (top 8)=true:=by kernel_rfl
def mJ:LS:=["rooms","first","goal","chain","name"]
def cH:LS:=["rooms","first","goal"]
def tQ:Need:=#[["name_behind"],[],[]]
noncomputable def PD:PT :=
  %[.expr (.mt .append (.var 3) %[.var 4|1]),.set 4 (.call "name_behind" %[.var 0,.var 4|1])|2]
def iF:PT :=
  %[.own 3 (.lst .anil),.set 4 (.var 1),.whl (.cmp .NotEq (.var 4) (.var 2)) PD,.ret (.var 3)|2]
theorem jO:YB tQ iF mJ cH (top 9)=true:=by kernel_rfl
def gH:LS:=["rooms","name","here"]
def OF:LS:=["rooms","name"]
def BN:Need:=#[[],[],[]]
noncomputable def rE:PT :=
  %[.set 2 (.tup %[.var 1,.str "from"|1]),.ret (.idx (.comp [] ["there"] (.nm 0) .val %[.idx (.var 0) (.var 2)|1] (.and (.cmp .NotEq (.idx (.var 0) (.int 0)) (.var 2)) (.cmp .Gt (.idx (.idx (.var 1) (.var 0)) (.var 3)) (.int 0))) (.idx (.var 0) (.int 0))) (.int 0))|2]
theorem EM:YB BN rE gH OF (top 10)=true:=by kernel_rfl
def lJ:LS:=["came_from"]
def bH:LS:=["came_from"]
def sQ:Need:=#[[],[],["sorted"]]
noncomputable def eF:PT :=
  %[.ret (.bi .sorted %[.comp [] ["point"] (.nm 0) .val %[.var 0|1] (.and (.cmp .Eq (.idx (.var 0) (.int 1)) (.str "to")) (.cmp .NotIn (.tup %[.idx (.var 0) (.int 0),.str "from"|1]) (.var 1))) (.idx (.var 0) (.int 0))|1])|2]
theorem IN:YB sQ eF lJ bH (top 11)=true:=by kernel_rfl
noncomputable def aG:LS:=["edges","seers","needs","ground","found","grown","name","number","chains"]
def YF:LS:=["edges","seers","needs"]
def tM:Need:=#[["told_through"],[],["len"]]
noncomputable def KC:PT :=
  %[.ife (.cmp .NotIn (.var 6) (.var 4)) %[.set 8 (.idx (.call "told_through" %[.var 0,.var 1,.var 4,.var 6|1]) (.int 0)),.ife (.cmp .GtE (.bi .len %[.var 8|1]) (.var 7)) %[.expr (.mt .append (.var 3) %[.tup %[.var 6,.slc (.var 8) .nop (.var 7)|1]|1]),.expr (.mt .append (.var 4) %[.var 6|1]),.set 5 (.bl kd)|2] .nil|2] .nil|2]
def ZC:PT :=
  %[.set 5 (.bl kb),.for_ (.tp [6,7]) .val %[.var 2|1] KC|2]
def rG:PT :=
  %[.own 3 (.comp [kb,kb,kb,kb,kb,kb,kd,kd] ["name","number"] (.tp [0,1]) .val %[.var 2|1] (.cmp .In (.var 0) (.var 3)) (.tup %[.var 0,.lst .anil|1])),.own 4 (.comp [kb,kb,kb,kb,kb,kb,kd,kb,kd] ["name","chains"] (.tp [0,1]) .val %[.var 3|1] .nop (.var 0)),.set 5 (.bl kd),.whl (.var 5) ZC,.ret (.var 3)|2]
theorem AK:YB tM rG aG YF (top 13)=true:=by kernel_rfl
def tG:LS:=["edges","seers","people","goal"]
def JF:LS:=["edges","seers","people","goal"]
def sM:Need:=#[["apart_chains"],[],[]]
noncomputable def HD:PT :=
  %[.ret (.call "apart_chains" %[.comp [] ["edge"] (.nm 0) .val %[.var 0|1] (.cmp .In (.idx (.var 0) (.int 0)) (.var 3)) (.var 0),.var 1,.var 3|1])|2]
theorem SK:YB sM HD tG JF (top 14)=true:=by kernel_rfl
noncomputable def F8:LS:=["world","events","past","taken","wrong","held","known","steps","number","believed","live"]
def rX:LS:=["world"]
noncomputable def Lj:Need:=#[["going_order","is_taken","wrong_among","live_among","held_among"],[],[]]
noncomputable def AJ:PT :=
  %[.own 4 (.call "wrong_among" %[.var 0,.var 2|1]),.own 10 (.call "live_among" %[.var 1,.var 3,.var 4|1]),.own 5 (.call "held_among" %[.var 0,.var 2,.var 10,.var 6|1])|2]
def OD:PT :=
  (.seq (.expr (.mt .append (.var 2) %[.var 8|1]))
  (.seq (.ife (.and (.var 9) (.cmp .Eq (.idx (.idx (.var 1) (.var 8)) (.int 0)) (.str "tell"))) %[.expr (.mt .append (.var 3) %[.var 8|1])|2] .nil)
  AJ))
def g8:PT :=
  (.seq (.set 9 (.call "is_taken" %[.var 0,.idx (.var 1) (.var 8),.var 4,.var 5|1]))
  (zO OD))
def HW:PT :=
  %[.set 1 (.idx (.var 0) (.int 3)),.own 2 (.lst .anil),.own 3 (.lst .anil),.own 4 (.dnew kd),.own 5 (.lst .anil),.own 6 (.dnew kd),.own 7 (.lst .anil),.gol (.for_ (.nm 8) .val %[.call "going_order" %[.var 1|1]|1] g8) OD,.ret (.var 7)|2]
theorem zd:YB Lj HW F8 rX (top 17)=true:=by kernel_rfl
noncomputable def sN:LS:=["world","event","wrong","held","teller","hearer","matter"]
def gK:LS:=["world","event","wrong","held"]
def CV:Need:=#[["has_against","rank_of","floor_of"],[],[]]
noncomputable def sF:PT :=
  %[.ife (.cmp .Eq (.idx (.var 1) (.int 0)) (.str "see")) %[.ret (.bl kd)|2] .nil,.set 4 (.idx (.var 1) (.int 2)),.set 5 (.idx (.var 1) (.int 3)),.set 6 (.idx (.var 1) (.int 4)),.ife (.or (.cmp .NotIn (.tup %[.var 4,.var 6|1]) (.var 3)) (.cmp .In (.tup %[.var 4,.var 5|1]) (.var 2))) %[.ret (.bl kb)|2] .nil,.ret (.and (.cmp .GtE (.call "rank_of" %[.var 0,.var 4|1]) (.call "floor_of" %[.var 0,.var 5|1])) (.not (.call "has_against" %[.var 0,.var 3,.var 5,.var 6|1])))|2]
theorem RT:YB CV sF sN gK (top 18)=true:=by kernel_rfl
def bP:LS:=["world","name"]
def jM:LS:=["world","name"]
def uZ:Need:=#[[],[],[]]
noncomputable def OJ:PT :=
  %[.ret (.idx (.comp [] ["person"] (.nm 0) .val %[.idx (.var 0) (.int 0)|1] (.cmp .Eq (.idx (.var 0) (.int 0)) (.var 2)) (.idx (.var 0) (.int 1))) (.int 0))|2]
theorem YW:YB uZ OJ bP jM (top 19)=true:=by kernel_rfl
def tN:LS:=["world","name"]
def lK:LS:=["world","name"]
def DV:Need:=#[[],[],[]]
noncomputable def RH:PT :=
  %[.ret (.idx (.comp [] ["person"] (.nm 0) .val %[.idx (.var 0) (.int 0)|1] (.cmp .Eq (.idx (.var 0) (.int 0)) (.var 2)) (.idx (.var 0) (.int 2))) (.int 0))|2]
theorem AT:YB DV RH tN lK (top 20)=true:=by kernel_rfl
def lH:LS:=["world","pairs","name","matter","rivals"]
def PF:LS:=["world","pairs","name","matter"]
def CN:Need:=#[[],[],["any"]]
noncomputable def tE:PT :=
  %[.own 4 (.comp [] ["first","second"] (.tp [0,1]) .val %[.idx (.var 0) (.int 2)|1] (.cmp .Eq (.var 0) (.var 5)) (.var 1)),.expr (.mt .extend (.var 4) %[.comp [] ["first","second"] (.tp [0,1]) .val %[.idx (.var 0) (.int 2)|1] (.cmp .Eq (.var 1) (.var 5)) (.var 0)|1]),.ret (.bi .any %[.comp [] ["rival"] (.nm 0) .val %[.var 4|1] .nop (.cmp .In (.tup %[.var 3,.var 0|1]) (.var 2))|1])|2]
theorem IM:YB CN tE lH PF (top 21)=true:=by kernel_rfl
def fH:LS:=["world","past","seen","wrong","number","event"]
def NF:LS:=["world","past"]
def UN:Need:=#[["seen_among","has_against"],[],[]]
noncomputable def VF:PT :=
  %[.set 5 (.idx (.idx (.var 0) (.int 3)) (.var 4)),.ife (.and (.cmp .Eq (.idx (.var 5) (.int 0)) (.str "tell")) (.cmp .NotIn (.tup %[.idx (.var 5) (.int 3),.idx (.var 5) (.int 4)|1]) (.var 2))) %[.ife (.call "has_against" %[.var 0,.var 2,.idx (.var 5) (.int 3),.idx (.var 5) (.int 4)|1]) %[.six (.var 3) (.tup %[.idx (.var 5) (.int 2),.idx (.var 5) (.int 3)|1]) (.bl kd)|2] .nil|2] .nil|2]
def pE:PT :=
  %[.own 2 (.call "seen_among" %[.idx (.var 0) (.int 3),.var 1|1]),.own 3 (.dnew kd),.for_ (.nm 4) .val %[.var 1|1] VF,.ret (.var 3)|2]
theorem AM:YB UN pE fH NF (top 22)=true:=by kernel_rfl
def cJ:LS:=["events","past","seen","number"]
def kH:LS:=["events","past"]
def nQ:Need:=#[[],[],[]]
noncomputable def hG:PT :=
  %[.ife (.cmp .Eq (.idx (.idx (.var 0) (.var 3)) (.int 0)) (.str "see")) %[.six (.var 2) (.tup %[.idx (.idx (.var 0) (.var 3)) (.int 2),.idx (.idx (.var 0) (.var 3)) (.int 3)|1]) (.bl kd)|2] .nil|2]
def gF:PT :=
  %[.own 2 (.dnew kd),.for_ (.nm 3) .val %[.var 1|1] hG,.ret (.var 2)|2]
theorem SN:YB nQ gF cJ kH (top 23)=true:=by kernel_rfl
def dJ:LS:=["events","taken","wrong"]
def vH:LS:=["events","taken","wrong"]
def oQ:Need:=#[[],[],["sorted"]]
noncomputable def nF:PT :=
  %[.ret (.bi .sorted %[.comp [] ["number"] (.nm 0) .val %[.var 1|1] (.cmp .NotIn (.tup %[.idx (.idx (.var 1) (.var 0)) (.int 2),.idx (.idx (.var 1) (.var 0)) (.int 3)|1]) (.var 3)) (.var 0)|1])|2]
theorem TN:YB oQ nF dJ vH (top 24)=true:=by kernel_rfl
def gJ:LS:=["world","past","live","known","seen","holders","matter","web","held","person"]
def uH:LS:=["world","past","live","known"]
noncomputable def rQ:Need:=#[["seen_among","edges_of","seers_of","holders_in"],[],[]]
noncomputable def vD:PT :=
  %[.six (.var 5) (.var 6) (.idx (.var 3) (.var 7))|2]
def ND:PT :=
  (.seq (.set 7 (.tup %[.call "seers_of" %[.var 0,.var 4,.var 6|1],.call "edges_of" %[.idx (.var 0) (.int 3),.var 2,.var 6|1]|1]))
  (.seq (.ife (.cmp .NotIn (.var 7) (.var 3)) %[.six (.var 3) (.var 7) (.call "holders_in" %[.var 0,.var 7|1])|2] .nil)
  vD))
noncomputable def MD:PT :=
  %[.expr (.mt .extend (.var 8) %[.comp [kb,kb,kb,kb,kb,kb,kd] ["matter"] (.nm 0) .val %[.idx (.var 0) (.int 1)|1] (.cmp .In (.idx (.var 10) (.int 0)) (.idx (.var 6) (.var 0))) (.tup %[.idx (.var 10) (.int 0),.var 0|1])|1])|2]
def aF:PT :=
  %[.own 4 (.call "seen_among" %[.idx (.var 0) (.int 3),.var 1|1]),.own 5 (.dnew kb),.for_ (.nm 6) .val %[.idx (.var 0) (.int 1)|1] ND,.own 8 (.lst .anil),.for_ (.nm 9) .val %[.idx (.var 0) (.int 0)|1] MD,.ret (.var 8)|2]
theorem EN:YB rQ aF gJ uH (top 25)=true:=by kernel_rfl
def lN:LS:=["world","seen","matter"]
def xK:LS:=["world","seen","matter"]
def ZV:Need:=#[[],[],["tuple"]]
noncomputable def MH:PT :=
  %[.ret (.bi .tuple %[.comp [] ["person"] (.nm 0) .val %[.idx (.var 0) (.int 0)|1] (.cmp .In (.tup %[.idx (.var 0) (.int 0),.var 3|1]) (.var 2)) (.idx (.var 0) (.int 0))|1])|2]
theorem FT:YB ZV MH lN xK (top 26)=true:=by kernel_rfl
def aN:LS:=["events","live","matter","tells"]
def mK:LS:=["events","live","matter"]
def FV:Need:=#[[],[],["tuple"]]
noncomputable def SH:PT :=
  %[.set 3 (.comp [] ["number"] (.nm 0) .val %[.var 1|1] (.cmp .Eq (.idx (.idx (.var 1) (.var 0)) (.int 4)) (.var 3)) (.idx (.var 1) (.var 0))),.ret (.bi .tuple %[.comp [] ["event"] (.nm 0) .val %[.var 3|1] .nop (.tup %[.idx (.var 0) (.int 2),.idx (.var 0) (.int 3)|1])|1])|2]
theorem ET:YB FV SH aN mK (top 27)=true:=by kernel_rfl
def fJ:LS:=["world","web"]
def xH:LS:=["world","web"]
def pQ:Need:=#[["ground_alone","needs_of"],[],[]]
noncomputable def tF:PT :=
  %[.ret (.comp [] ["name","chains"] (.tp [0,1]) .val %[.call "ground_alone" %[.idx (.var 1) (.int 1),.idx (.var 1) (.int 0),.call "needs_of" %[.var 0|1]|1]|1] .nop (.var 0))|2]
theorem AN:YB pQ tF fJ xH (top 28)=true:=by kernel_rfl
def nN:LS:=["world"]
def bK:LS:=["world"]
def XV:Need:=#[[],[],[]]
noncomputable def NH:PT :=
  %[.ret (.comp [] ["person"] (.nm 0) .val %[.idx (.var 0) (.int 0)|1] .nop (.tup %[.idx (.var 0) (.int 0),.idx (.var 0) (.int 3)|1]))|2]
theorem MT:YB XV NH nN bK (top 29)=true:=by kernel_rfl
noncomputable def lU:LS:=["_law_script","_law_k","_law_many","_law_cell","_law_number"]
def aO:LS:=["_law_script","_law_k","_law_many"]
def y6:Need:=#[[],[],["len"]]
noncomputable def pG:PT :=
  %[.set 4 (.bin .Mod (.bin .Mult (.bin .Add (.bin .Add (.bin .Mod (.var 3) (.int 2147483647)) (.bin .Mult (.int 7) (.var 1))) (.int 3)) (.bin .Add (.int 48271) (.bin .Mult (.bin .Mult (.int 1103) (.var 1)) (.var 1)))) (.int 2147483629)),.ret (.bin .Mod (.bin .FloorDiv (.var 4) (.int 64)) (.var 2))|2]
def uN:PT :=
  (.seq (.set 3 (.int 0))
  (.seq (.ife (.cmp .Gt (.bi .len %[.var 0|1]) (.int 0)) %[.set 3 (.idx (.var 0) (.bin .Mod (.var 1) (.bi .len %[.var 0|1])))|2] .nil)
  pG))
theorem AZ:YB y6 uN lU aO (top 31)=true:=by kernel_rfl
noncomputable def fP:LS:=["_law_script","_law_letters","_law_ahead","_law_behind","_law_first"]
def kM:LS:=["_law_script"]
def dZ:Need:=#[["_law_draw"],[],["range"]]
noncomputable def SJ:PT :=
  %[.set 1 (.str "bcdfgjkmnpqvwxyz"),.set 2 (.bin .Mult (.str "zq") (.call "_law_draw" %[.var 0,.int 901,.int 2|1])),.set 3 (.slc (.str "vzb") .nop (.call "_law_draw" %[.var 0,.int 902,.int 4|1])),.set 4 (.call "_law_draw" %[.var 0,.int 903,.int 16|1]),.ret (.comp [] ["_law_k"] (.nm 0) .rng1 %[.int 16|1] .nop (.bin .Add (.bin .Add (.var 3) (.idx (.var 2) (.bin .Mod (.bin .Add (.var 5) (.var 0)) (.int 16)))) (.var 4)))|2]
theorem VW:YB dZ SJ fP kM (top 32)=true:=by kernel_rfl
noncomputable def pN:LS:=["_law_script","_law_names_here","_law_people_here","_law_wide","_law_k","_law_name","_law_rank","_law_floor"]
def cK:LS:=["_law_script","_law_names_here"]
def UV:Need:=#[["_law_draw"],[],["enumerate","int"]]
noncomputable def zJ:PT :=
  %[.set 6 (.call "_law_draw" %[.var 0,.bin .Add (.int 910) (.var 4),.var 3|1]),.set 7 (.bin .Mult (.call "_law_draw" %[.var 0,.bin .Add (.int 920) (.var 4),.var 3|1]) (.bi .int %[.cmp .Eq (.call "_law_draw" %[.var 0,.bin .Add (.int 930) (.var 4),.int 3|1]) (.int 0)|1])),.expr (.mt .append (.var 2) %[.tup %[.var 5,.var 6,.var 7,.idx (.lst %[.int 1,.int 1,.int 1,.int 2,.int 2,.int 3|1]) (.call "_law_draw" %[.var 0,.bin .Add (.int 940) (.var 4),.int 6|1])|1]|1])|2]
def OH:PT :=
  %[.own 2 (.lst .anil),.set 3 (.idx (.lst %[.int 4,.int 100|1]) (.call "_law_draw" %[.var 0,.int 904,.int 2|1])),.for_ (.tp [4,5]) .enum %[.var 1|1] zJ,.ret (.var 2)|2]
theorem NT:YB UV OH pN cK (top 33)=true:=by kernel_rfl
noncomputable def gP:LS:=["_law_script","_law_k","_law_people_here","_law_matters","_law_last","_law_at","_law_matter","_law_word","_law_times","_law_time","_law_teller","_law_others","_law_hearer","_law_by","_law_j"]
noncomputable def vM:LS:=["_law_script","_law_k","_law_people_here","_law_matters","_law_last"]
def fZ:Need:=#[["_law_draw"],[],["len","range","tuple"]]
noncomputable def CK:PT :=
  %[.expr (.mt .append (.var 13) %[.idx (.idx (.var 2) (.call "_law_draw" %[.var 0,.bin .Add (.bin .Add (.bin .Mult (.int 11) (.var 1)) (.int 8)) (.var 14),.bi .len %[.var 2|1]|1])) (.int 0)|1])|2]
def rF:PT :=
  %[.set 11 (.comp [] ["_law_person"] (.nm 0) .val %[.var 2|1] (.cmp .NotEq (.idx (.var 0) (.int 0)) (.var 11)) (.idx (.var 0) (.int 0))),.set 12 (.idx (.var 11) (.call "_law_draw" %[.var 0,.bin .Add (.bin .Mult (.int 11) (.var 1)) (.int 6),.bi .len %[.var 11|1]|1])),.own 13 (.lst .anil),.for_ (.nm 14) .rng1 %[.call "_law_draw" %[.var 0,.bin .Add (.bin .Mult (.int 11) (.var 1)) (.int 7),.int 3|1]|1] CK,.ret (.tup %[.str "tell",.var 9,.var 10,.var 12,.var 6,.var 7,.bi .tuple %[.var 13|1]|1])|2]
def TJ:PT :=
  (.seq (.set 5 (.call "_law_draw" %[.var 0,.bin .Mult (.int 11) (.var 1),.bi .len %[.var 2|1]|1]))
  (.seq (.set 6 (.idx (.var 3) (.call "_law_draw" %[.var 0,.bin .Add (.bin .Mult (.int 11) (.var 1)) (.int 1),.bi .len %[.var 3|1]|1])))
  (.seq (.set 7 (.slc (.str "abcdef") (.call "_law_draw" %[.var 0,.bin .Add (.bin .Mult (.int 11) (.var 1)) (.int 2),.int 6|1]) .nop))
  (.seq (.set 8 (.lst %[.var 1,.bin .Mult (.int 2) (.bin .FloorDiv (.var 1) (.int 2)),.call "_law_draw" %[.var 0,.bin .Add (.bin .Mult (.int 11) (.var 1)) (.int 3),.int 9|1],.bin .Sub (.int 100) (.var 1)|1]))
  (.seq (.set 9 (.idx (.var 8) (.call "_law_draw" %[.var 0,.int 905,.int 4|1])))
  (.seq (.ife (.or (.cmp .Is (.var 4) .non) (.cmp .Eq (.call "_law_draw" %[.var 0,.bin .Add (.bin .Mult (.int 11) (.var 1)) (.int 4),.int 4|1]) (.int 0))) %[.ret (.tup %[.str "see",.var 9,.idx (.idx (.var 2) (.var 5)) (.int 0),.var 6,.var 7|1])|2] .nil)
  (.seq (.set 10 (.idx (.idx (.var 2) (.var 5)) (.int 0)))
  (.seq (.ife (.cmp .Gt (.call "_law_draw" %[.var 0,.bin .Add (.bin .Mult (.int 11) (.var 1)) (.int 5),.int 3|1]) (.int 0)) %[.set 10 (.idx (.var 4) (.int 0)),.set 6 (.idx (.var 4) (.int 1))|2] .nil)
  rF))))))))
theorem XW:YB fZ TJ gP vM (top 34)=true:=by kernel_rfl
noncomputable def rN:LS:=["_law_script","_law_most","_law_cells","_law_k","_law_cell"]
def fK:LS:=["_law_script","_law_most"]
def BV:Need:=#[[],[],["enumerate"]]
noncomputable def kJ:PT :=
  %[.ife (.cmp .Lt (.var 3) (.var 1)) %[.expr (.mt .append (.var 2) %[.var 4|1])|2] %[.six (.var 2) (.bin .Mod (.var 3) (.var 1)) (.bin .Add (.bin .Mult (.idx (.var 2) (.bin .Mod (.var 3) (.var 1))) (.int 31)) (.var 4))|2]|2]
def PH:PT :=
  %[.own 2 (.lst .anil),.for_ (.tp [3,4]) .enum %[.var 0|1] kJ,.ret (.var 2)|2]
theorem OT:YB BV PH rN fK (top 35)=true:=by kernel_rfl
noncomputable def cP:LS:=["_law_script","_law_most","_law_names_here","_law_people_here","_law_matters","_law_against","_law_k","_law_j","_law_both","_law_events","_law_last","_law_event_here"]
def yM:LS:=["_law_script","_law_most"]
noncomputable def bZ:Need:=#[["_law_folded","_law_names","_law_people","_law_draw","_law_event"],[],["len","range"]]
noncomputable def oG:PT :=
  %[.set 8 (.lst %[.tup %[.idx (.var 4) (.var 6),.idx (.var 4) (.var 7)|1],.tup %[.idx (.var 4) (.var 7),.idx (.var 4) (.var 6)|1]|1]),.ife (.cmp .Gt (.call "_law_draw" %[.var 0,.bin .Add (.bin .Add (.int 950) (.bin .Mult (.int 3) (.var 6))) (.var 7),.int 3|1]) (.int 0)) %[.expr (.mt .append (.var 5) %[.idx (.var 8) (.call "_law_draw" %[.var 0,.bin .Add (.bin .Add (.int 960) (.bin .Mult (.int 3) (.var 6))) (.var 7),.int 2|1])|1])|2] .nil|2]
def nG:PT :=
  %[.for_ (.nm 7) .rng1 %[.var 6|1] oG|2]
noncomputable def mG:PT :=
  %[.set 11 (.call "_law_event" %[.var 0,.var 6,.var 3,.var 4,.var 10|1]),.expr (.mt .append (.var 9) %[.var 11|1]),.set 10 (.tup %[.idx (.var 11) (.int 2),.idx (.var 11) (.int 3)|1]),.ife (.cmp .Eq (.idx (.var 11) (.int 0)) (.str "tell")) %[.set 10 (.tup %[.idx (.var 11) (.int 3),.idx (.var 11) (.int 4)|1])|2] .nil|2]
def oF:PT :=
  %[.own 5 (.lst .anil),.for_ (.nm 6) .rng1 %[.bi .len %[.var 4|1]|1] nG,.own 9 (.lst .anil),.set 10 .non,.for_ (.nm 6) .rng1 %[.bi .len %[.var 0|1]|1] mG,.frz [5,9] (.ret (.tup %[.var 3,.var 4,.var 5,.var 9|1]))|2]
def PJ:PT :=
  (.seq (.set 0 (.call "_law_folded" %[.var 0,.int 24|1]))
  (.seq (.set 2 (.call "_law_names" %[.var 0|1]))
  (.seq (.set 3 (.call "_law_people" %[.var 0,.slc (.var 2) .nop (.bin .Add (.int 2) (.call "_law_draw" %[.var 0,.int 906,.bin .Sub (.var 1) (.int 1)|1]))|1]))
  (.seq (.set 4 (.slc (.var 2) (.int 6) (.bin .Add (.int 7) (.call "_law_draw" %[.var 0,.int 907,.int 3|1]))))
  (.seq (.ife (.cmp .Eq (.call "_law_draw" %[.var 0,.int 908,.int 3|1]) (.int 0)) %[.set 4 (.slc (.var 2) .nop (.bi .len %[.var 4|1]))|2] .nil)
  oF)))))
theorem ZW:YB bZ PJ cP yM (top 36)=true:=by kernel_rfl
def dP:LS:=["_law_found"]
def zM:LS:=["_law_found"]
def cZ:Need:=#[[],[],["isinstance","bool","int"]]
noncomputable def RJ:PT :=
  %[.ret (.and (.isi (.var 0) (.bty "int" "int")) (.not (.isi (.var 0) (.bty "bool" "bool"))))|2]
theorem KW:YB cZ RJ dP zM (top 37)=true:=by kernel_rfl
def XF:LS:=["_law_step"]
def JE:LS:=["_law_step"]
noncomputable def OK:Need:=#[["_law_whole"],[],["len","isinstance","tuple","bool","all","list"]]
noncomputable def zD:PT :=
  %[.ife (.or (.not (.isi (.var 0) (.bty "tuple" "tuple"))) (.or (.cmp .NotEq (.bi .len %[.var 0|1]) (.int 4)) (.not (.call "_law_whole" %[.idx (.var 0) (.int 0)|1])))) %[.ret (.bl kb)|2] .nil,.ife (.not (.isi (.idx (.var 0) (.int 1)) (.bty "bool" "bool"))) %[.ret (.bl kb)|2] .nil,.ife (.or (.not (.isi (.idx (.var 0) (.int 2)) (.bty "list" "list"))) (.not (.bi .all %[.comp [] ["_law_number"] (.nm 0) .val %[.idx (.var 0) (.int 2)|1] .nop (.call "_law_whole" %[.var 0|1])|1]))) %[.ret (.bl kb)|2] .nil,.ife (.not (.isi (.idx (.var 0) (.int 3)) (.bty "list" "list"))) %[.ret (.bl kb)|2] .nil,.ret (.bi .all %[.comp [] ["_law_pair"] (.nm 0) .val %[.idx (.var 0) (.int 3)|1] .nop (.and (.isi (.var 0) (.bty "tuple" "tuple")) (.cmp .Eq (.bi .len %[.var 0|1]) (.int 2)))|1])|2]
theorem MJ:YB OK zD XF JE (top 38)=true:=by kernel_rfl
noncomputable def jh:LS:=["_law_script","_law_world_here","_law_events","_law_found","_law_last","_law_number","_law_steps","_law_kept","_law_step"]
def Z4:LS:=["_law_script"]
noncomputable def jq:Need:=#[["_law_world","going_order","_law_whole","gone","_law_step_formed"],[],["list","sorted","range","len","isinstance","all"]]
noncomputable def zR:PT :=
  %[.ife (.or (.not (.call "_law_whole" %[.var 5|1])) (.cmp .GtE (.var 4) (.tup %[.idx (.idx (.var 2) (.var 5)) (.int 1),.var 5|1]))) %[.ret (.bl kb)|2] .nil,.set 4 (.tup %[.idx (.idx (.var 2) (.var 5)) (.int 1),.var 5|1])|2]
noncomputable def Vd:PT :=
  %[.expr (.mt .append (.idx (.var 8) (.int 2)) %[.int 99|1]),.expr (.mt .append (.idx (.var 8) (.int 3)) %[.tup %[.str "x",.str "y"|1]|1])|2]
noncomputable def yJ:PT :=
  %[.ife (.cmp .NotEq (.slc (.var 6) (.int 1) .nop) (.slc (.var 7) (.int 1) .nop)) %[.ret (.bl kb)|2] .nil,.expr (.mt .append (.var 3) %[.int 7|1]),.expr (.mt .append (.var 6) %[.non|1]),.ret (.and (.cmp .Eq (.call "going_order" %[.var 2|1]) (.slc (.var 3) .nop (.ng 1))) (.cmp .Eq (.call "gone" %[.var 1|1]) (.var 7)))|2]
def vN:PT :=
  (.seq (.hs (.ife (.or (.cmp .NotEq (.comp [kb,kb,kb,kb,kb,kb,kb,kb,kd] ["_law_step"] (.nm 0) .val %[.var 6|1] .nop (.idx (.var 0) (.int 0))) (.var 3)) (.cmp .NotEq (.var 1) (.call "_law_world" %[.var 0,.int 6|1]))) %[.ret (.bl kb)|2] .nil))
  (.seq (.hs (.for_ (.nm 8) .val %[.slc (.var 6) .nop (.int 1)|1] Vd))
  yJ))
def xN:PT :=
  (.seq (.own 6 (.call "gone" %[.var 1|1]))
  (.seq (.hs (.ife (.or (.not (.isi (.var 6) (.bty "list" "list"))) (.not (.bi .all %[.comp [kb,kb,kb,kb,kb,kb,kb,kb,kd] ["_law_step"] (.nm 0) .val %[.var 6|1] .nop (.call "_law_step_formed" %[.var 0|1])|1]))) %[.ret (.bl kb)|2] .nil))
  (.seq (.set 7 (.comp [kb,kb,kb,kb,kb,kb,kb,kb,kd] ["_law_step"] (.nm 0) .val %[.var 6|1] .nop (.tup %[.idx (.var 0) (.int 0),.idx (.var 0) (.int 1),.bi .list %[.idx (.var 0) (.int 2)|1],.bi .list %[.idx (.var 0) (.int 3)|1]|1])))
  vN)))
def f8:PT :=
  (.seq (.set 1 (.call "_law_world" %[.var 0,.int 6|1]))
  (.seq (.set 2 (.bi .list %[.idx (.var 1) (.int 3)|1]))
  (.seq (.own 3 (.call "going_order" %[.var 2|1]))
  (.seq (.ife (.or (.not (.isi (.var 3) (.bty "list" "list"))) (.or (.cmp .NotEq (.bi .sorted %[.var 3|1]) (.lrg (.bi .len %[.var 2|1]))) (.cmp .NotEq (.var 2) (.idx (.var 1) (.int 3))))) %[.ret (.bl kb)|2] .nil)
  (.seq (.set 4 (.tup %[.ng 1,.ng 1|1]))
  (.seq (.for_ (.nm 5) .val %[.var 3|1] zR)
  xN))))))
theorem il:YB jq f8 jh Z4 (top 39)=true:=by kernel_rfl
theorem SQ(a b:Str):Qw (.str a) (.str b)=decide (a=b):=by rw[qF,ax];simp[Qw]
theorem gL(l:LS)(z:Str):((l.map j3).any λy=>Qw y (.str z))=decide (z∈l):=by rw[QCM,qF,Wx,ax];constructor;rintro⟨x,u,e⟩;have e:Qw (.str x) (.str z)=true:=e;rw[SQ,ax]at e;exact e▸u;intro h;exact#[z,h,by show Qw (.str z) (.str z)=kd;rw[SQ];exact dT rfl]
theorem HI(l:LS):(l.map j3).all TB=true:=by rw[QCI,Ql];exact λ_ _=>rfl
noncomputable def Cc(g:Str)(cut:LS)(s:Str):Bool:=!decide (s=g)&&!decide (s∈cut)
inductive Led(es:rC)(st:LS)(g:Str)(cut:LS):Str->Prop
 |st {s:Str}:s∈st->Cc g cut s=kd->Led es st g cut s
 |ed {a b:Str}:Led es st g cut a->(a,b)∈es->Cc g cut b=kd->Led es st g cut b
theorem mQ:∀{ks ns:LS},ks.Nodup->(∀s∈ks,s∈ns)->ks.9<=ns.9
 |[],_,_,_=>Qs _|s::r,ns,h,hs=>by let#[k,u]:=Qe.mp h;have z:=hs s QF;have:=mQ (ks:=r) (ns:=ns.erase s) u λx y=>(QBJ (λ(e:x=s)=>k (e▸y))).mpr (hs x (QD _ y));rw[QAh z]at this;have f:=Wh z;rw[QL];omega
def one(y:Str):Prop:=∃c,c<128/\y=#[(qG [c])]
def pr(p:Str×Str):D:=.tuple [.str p.1,.str p.2]
theorem AQ{α h:Type}(f:α->h)(l:List α)(a b:Option Int):mD (l.map f) a b=(mD l a b).map f:=by unfold mD;rw[QE,List.map_take,List.map_drop]
noncomputable abbrev Pt:=Str×Str
theorem OP(h:pr p=pr q):p=q:=by let#[a,b]:=p;let#[c,d]:=q;injection h with h;injection h with h1 h;injection h with h2 _;injection h1 with h1;injection h2 with h2;exact QCU h1 h2
theorem Z7{x k:D}{r:List D}(h:x≠k):fA (x::r) k=(fA r k).map (·+1):=by unfold fA;rw[t3 h];cases r<;>rfl
theorem Kf{x k:D}{r:List D}(h:x=k):fA (x::r) k=kv 0:=by unfold fA;rw[t6 h]
noncomputable def look{α:Type}:List (Pt×α)->Pt->Option α
 |[],_=>kf|e::l,p=>if e.1=p then kv e.2 else look l p
noncomputable def put{α:Type}:List (Pt×α)->Pt->α->List (Pt×α)
 |[],p,v=>[(p,v)]|e::l,p,v=>if e.1=p then(e.1,v)::l else e::put l p v
def TC{α:Type}(l:List (Pt×α)):List D:=l.map λe=>pr e.1
theorem GJ{α:Type}{p:Pt}:∀{l:List (Pt×α)},look l p=kf->fA (TC l) (pr p)=kf/\∀w,put l p w=l++[(p,w)]
 |[],_=>#[rfl,λ_=>rfl]|e::l,h=>by unfold look at h;by_cases c:e.1=p;rw[t6 c]at h;cases h;rw[t3 c]at h;let#[y,x]:=GJ h;refine#[?_,λw=>?_];show fA (pr e.1::TC l) (pr p)=kf;rw[Z7 (λz=>c (OP z)),y];rfl;show(if e.1=p then(e.1,w)::l else e::put l p w)=_;rw[t3 c,x];rfl
theorem YC{α:Type}{p:Pt}{v:α}(f:α->T):∀{l:List (Pt×α)},look l p=kv v->∃n,fA (TC l) (pr p)=kv n/\(l.map λe=>f e.2)[n]?=kv (f v)/\∀w,TC (put l p w)=TC l/\(l.map λe=>f e.2).set n (f w)=(put l p w).map λe=>f e.2
 |[],h=>by cases h|e::l,h=>by unfold look at h;by_cases c:e.1=p;rw[t6 c]at h;injection h with h;refine#[0,?_,?_,λw=>?_];exact Kf (ak pr c);show kv (f e.2)=_;rw[h];have:put (e::l) p w=(e.1,w)::l:=t6 c;rw[this];exact#[rfl,rfl];rw[t3 c]at h;let#[n,i,k,u]:=YC f h;refine#[n+1,?_,k,λw=>?_];show fA (pr e.1::TC l) (pr p)=kv (n+1);rw[Z7 (λz=>c (OP z)),i];rfl;have:put (e::l) p w=e::put l p w:=t3 c;rw[this];let#[y,x]:=u w;refine#[?_,?_];show pr e.1::TC (put l p w)=pr e.1::TC l;rw[y];show f e.2::(l.map λe=>f e.2).set n (f w)=f e.2::(put l p w).map λe=>f e.2;rw[x]
theorem CD{α:Type}{p q:Pt}{w:α}:∀{l:List (Pt×α)},look (put l p w) q=if p=q then kv w else look l q
 |[]=>rfl|e::l=>by
  by_cases c:e.1=p;have h:put (e::l) p w=(e.1,w)::l:=t6 c;rw[h];show(if e.1=q then kv w else look l q)=if p=q then kv w else(if e.1=q then kv e.2 else look l q)
  rw[c];split<;>rfl;have h:put (e::l) p w=e::put l p w:=t3 c;rw[h];show(if e.1=q then kv e.2 else look (put l p w) q)=if p=q then kv w else(if e.1=q then kv e.2 else look l q)
  rw[CD];by_cases d:e.1=q;rw[t6 d,t6 d,t3 (λz=>c (d.trans z.symm))];rw[t3 d,t3 d]
theorem oX{α:Type}{p:Pt}{w:α}:∀{l:List (Pt×α)},(put l p w).9<=l.9+1
 |[]=>QT _|e::l=>by by_cases c:e.1=p;rw[show put (e::l) p w=(e.1,w)::l from t6 c,QL,QL];omega;have:=oX (p:=p) (w:=w) (l:=l);rw[show put (e::l) p w=e::put l p w from t3 c,QL,QL];omega
theorem IB(p:Pt):ED kd (pr p):=#[[.s p.1,.s p.2],rfl,by simp[T5,nkds]]
noncomputable abbrev Inn:=List (Pt×Int)
noncomputable abbrev Rm:=List (Pt×Inn)
noncomputable def FD(l:Inn):T:=.dct kd (TC l) (l.map λe=>T.d (.int e.2))
def gB(r:Rm):T:=.dct kd (TC r) (r.map λe=>FD e.2)
def sdf(r:Rm)(p:Pt):Rm:=match look r p with
 |some _=>r|none=>r++[(p,[])]
theorem gX(hl:r.9<kt)(q:Q (gB (sdf r p))):Mo (.d (pr p)) (gB r) Q:=by
 refine#[TC r,_,rfl,IB p,by unfold TC;rw[QE];exact hl,?_];unfold sdf at q;cases h:look r p with
 |some v=>rw[h]at q;let#[n,x,_]:=YC FD h;exact .inl #[n,x,q]|none =>
  rw[h]at q;refine .inr #[(GJ h).1,?_];have e:gB (r++[(p,[])])=.dct kd (TC r++[pr p]) ((r.map λe=>FD e.2)++[.dct kd [] []]):=by unfold gB TC;rw[QR,QR];rfl
  show Q (T.dct kd (TC r++[pr p]) ((r.map λe=>FD e.2)++[.dct kd [] []]));rw[<- e];exact q
theorem sP(hl:l.9<kt)(q:Q (FD (put l p v))):ge (FD l) (.d (pr p)) (.d (.int v)) Q:=by
 refine#[IB p,by unfold TC;rw[QE];exact hl,?_];have e:KJ kd (TC l) (l.map λe=>T.d (.int e.2)) (pr p) (.d (.int v))=FD (put l p v):=by
  unfold KJ;cases h:look l p with|none=>let#[x,y]:=GJ h;rw[x,y];unfold FD TC;rw[QR,QR];rfl|some u=>let#[n,x,y,f]:=YC (λi:Int=>T.d (.int i)) h;rw[x];let#[k,z]:=f v;show T.dct kd (TC l) ((l.map λe=>T.d (.int e.2)).set n (T.d (.int v)))=_;unfold FD;rw[k,z]
 show Q (KJ kd (TC l) (l.map λe=>T.d (.int e.2)) (pr p) (.d (.int v)));rw[e];exact q
theorem vI{Q:T->(T->T)->Prop}(h:look r p=kv l)(q:∀f:T->T,(∀x,f (FD x)=gB (put r p x))->Q (FD l) f):Xo (.d (pr p)) (gB r) Q:=by let#[n,i,k,u]:=YC FD h;refine#[kd,TC r,_,n,FD l,rfl,IB p,i,k,q _ λx=>?_];let#[z,y]:=u x;show T.dct kd (TC r) ((r.map λe=>FD e.2).set n (FD x))=_;unfold gB;rw[z,y]
def UA:Pt:=("","begin")
def tO(n:Str):Pt:=(n,"to")
def fR(n:Str):Pt:=(n,"from")
theorem Lu:("begin":Str)≠"to":=by decide +kernel
theorem Mu:("begin":Str)≠"from":=by decide +kernel
theorem Hu:("to":Str)≠"from":=by decide +kernel
theorem AB:UA≠tO a:=λh=>Lu (ak Prod.snd h)
theorem ME:UA≠fR a:=λh=>Mu (ak Prod.snd h)
theorem NA:tO a≠fR b:=λh=>Hu (ak Prod.snd h)
theorem DB(h:tO a=tO b):a=b:=ak qy h
theorem UH(h:fR a=fR b):a=b:=ak qy h
def N0(p q:Pt):Prop:=(p=UA/\∃n,q=tO n)∨(∃n,p=tO n/\q=fR n)∨(∃a b,a≠b/\p=fR a/\q=tO b)
theorem uF(h:N0 p q):¬ N0 q p:=by
 rintro k;rcases h with⟨rfl,n,rfl⟩| ⟨n,rfl,rfl⟩| ⟨a,b,u,rfl,rfl⟩<;>rcases k with⟨x,m,y⟩| ⟨m,x,y⟩| ⟨c,d,z,x,y⟩
 exact AB x.symm;exact ME y;exact NA x;exact ME x.symm;exact NA x.symm;exact z ((UH x).symm.trans (DB y));exact AB x.symm;exact u ((UH y).trans (DB x).symm);exact NA x
theorem jG(h:N0 p q):p≠q:=λe=>uF h (by rw[e]at h ⊢;exact h)
noncomputable abbrev Wy:=Pt×Pt×Int
def lk(r:Rm)(p:Pt):Inn:=(look r p).getD []
def ZB(r:Rm)(w:Wy):Rm:=put (put (sdf (sdf r w.1) w.2.1) w.1 (put (lk (sdf (sdf r w.1) w.2.1) w.1) w.2.1 w.2.2)) w.2.1 (put (lk (put (sdf (sdf r w.1) w.2.1) w.1 (put (lk (sdf (sdf r w.1) w.2.1) w.1) w.2.1 w.2.2)) w.2.1) w.1 0)
theorem FS{α:Type}{p q:Pt}{v:α}:∀{l:List (Pt×α)},look (l++[(p,v)]) q=(look l q).or (if p=q then kv v else kf)
 |[]=>rfl|e::l=>by show(if e.1=q then kv e.2 else look (l++[(p,v)]) q)=(if e.1=q then kv e.2 else look l q).or (if p=q then kv v else kf);by_cases c:e.1=q;rw[t6 c,t6 c];rfl;rw[t3 c,t3 c];exact FS
theorem DS:look (sdf r p) q=(look r q).or (if p=q then kv [] else kf):=by
 unfold sdf;cases h:look r p with
 |some v =>
  show look r q=_;cases y:look r q with
  |some x=>rfl|none =>
   show kf=if p=q then kv [] else kf
   rw[t3];intro e;rw[e,y]at h;cases h
 |none=>show look (r++[(p,[])]) q=_;exact FS
theorem DP:(sdf r p).9<=r.9+1:=by unfold sdf;split;omega;rw[QJ,Q8];omega
theorem sI{α:Type}{p:Pt}{w:α}{e:Pt×α}:∀{l:List (Pt×α)},e∈put l p w->e=(p,w)∨e∈l
 |[],h=>.inl (QI.mp h)|x::l,h=>by by_cases c:x.1=p;rw[show put (x::l) p w=(x.1,w)::l from t6 c]at h;rcases QM.mp h with h|h;exact .inl (by rw[h,c]);exact .inr (QD _ h);rw[show put (x::l) p w=x::put l p w from t3 c]at h;rcases QM.mp h with h|h;exact .inr (by rw[h];exact QF);exact(sI h).imp_right (QD _)
theorem LP{α:Type}{p:Pt}{w:α}{q:Pt}:∀{l:List (Pt×α)},(∃v,(q,v)∈put l p w)↔q=p∨∃v,(q,v)∈l
 |[]=>by
  constructor;rintro⟨v,h⟩;exact .inl (ak qy (QI.mp h));rintro(rfl|⟨v,h⟩)
  ·exact#[w,QI.mpr rfl]
  exact(nomatch h)
 |x::l=>by
  by_cases c:x.1=p;rw[show put (x::l) p w=(x.1,w)::l from t6 c];constructor;rintro⟨v,h⟩;rcases QM.mp h with h|h;exact .inl ((ak qy h).trans c);exact .inr #[v,QD _ h];rintro(rfl|⟨v,h⟩)
  ·exact#[w,by rw[c];exact QF]
  rcases QM.mp h with h|h
  ·exact#[w,by rw[<- h];exact QF]
  exact#[v,QD _ h];rw[show put (x::l) p w=x::put l p w from t3 c];have y:=LP (p:=p) (w:=w) (q:=q) (l:=l);constructor;rintro⟨v,h⟩;rcases QM.mp h with h|h;exact .inr #[v,by rw[h];exact QF];exact(y.mp #[v,h]).imp_right λ#[v,h]=>#[v,QD _ h]
  rintro(h|⟨v,h⟩)
  ·let#[v,h]:=y.mpr (.inl h)
   exact#[v,QD _ h]
  rcases QM.mp h with h|h
  ·exact#[v,by rw[h];exact QF]
  let#[v,h]:=y.mpr (.inr #[v,h]);exact#[v,QD _ h]
def O0(r:Rm)(p q:Pt):Prop:=∃v,(q,v)∈lk r p
def Key(r:Rm)(p:Pt):Prop:=∃l,look r p=kv l
def Pos(r:Rm):Prop:=∀p,∀e∈lk r p,(0<e.2↔N0 p e.1)
def u9(r:Rm):Prop:=∀p q,O0 r p q->Key r q
def Sz(r:Rm)(n:Nat):Prop:=r.9<=n/\∀p,(lk r p).9<=n
theorem nE:lk (put r p l) q=if p=q then l else lk r q:=by unfold lk;rw[CD];split<;>rfl
theorem mE:lk (sdf r p) q=lk r q:=by
 unfold lk;rw[DS];cases look r q with|some x=>rfl|none=>show(if p=q then kv [] else kf).getD []=[];split<;>rfl
theorem DI:Key (put r p l) q↔p=q∨Key r q:=by unfold Key;rw[CD];by_cases h:p=q;rw[t6 h];exact#[λ_=>.inl h,λ_=>#[_,rfl]];rw[t3 h];exact#[.inr,λz=>z.resolve_left h]
theorem uE:Key (sdf r p) q↔p=q∨Key r q:=by
 unfold Key;rw[DS];cases look r q with|some x=>exact#[λ_=>.inr #[_,rfl],λ_=>#[_,rfl]]|none=>show(∃l,(if p=q then kv [] else kf)=kv l)↔_;by_cases h:p=q;rw[t6 h];exact#[λ_=>.inl h,λ_=>#[_,rfl]];rw[t3 h];exact#[λ#[_,e]=>(nomatch e),λz=>(z.resolve_left h)]
theorem UI(h:w.1≠w.2.1)(p:Pt):lk (ZB r w) p=if w.2.1=p then put (lk r p) w.1 0 else if w.1=p then put (lk r p) w.2.1 w.2.2 else lk r p:=by unfold ZB;rw[nE,nE,nE,mE,mE,mE,mE,t3 h,mE,mE];by_cases y:w.2.1=p;rw[t6 y,t6 y,y];rw[t3 y,t3 y];by_cases x:w.1=p;rw[t6 x,t6 x,x];rw[t3 x,t3 x]
theorem yG:Key (ZB r w) p↔p=w.1∨p=w.2.1∨Key r p:=by
 unfold ZB;rw[DI,DI,uE,uE];constructor;rintro(h|h|h|h|h)
 ·exact .inr (.inl h.symm)
 exact .inl h.symm;exact .inr (.inl h.symm);exact .inl h.symm;exact .inr (.inr h);rintro(h|h|h)
 ·exact .inr (.inl h.symm)
 exact .inl h.symm;exact .inr (.inr (.inr (.inr h)))
theorem MI(h:w.1≠w.2.1):O0 (ZB r w) p q↔O0 r p q∨(p=w.1/\q=w.2.1)∨(p=w.2.1/\q=w.1):=by
 unfold O0;rw[UI h];by_cases x:w.2.1=p;rw[t6 x,LP];constructor;rintro(e|e)
 ·exact .inr (.inr #[x.symm,e])
 exact .inl e;rintro(e|⟨u,y⟩| ⟨u,y⟩)
 ·exact .inr e
 exact Uz (u.symm.trans x.symm) h;exact .inl y;rw[t3 x];by_cases k:w.1=p;rw[t6 k,LP];constructor;rintro(e|e)
 ·exact .inr (.inl #[k.symm,e])
 exact .inl e;rintro(e|⟨u,y⟩| ⟨u,y⟩)
 ·exact .inr e
 exact .inl y;exact Uz u.symm x;rw[t3 k];exact#[.inl,λz=>z.elim id λz=>z.elim (λe=>Uz e.1.symm k) λe=>Uz e.1.symm x]
def YG(w:Wy):Prop:=N0 w.1 w.2.1/\0<w.2.2
theorem X4(g:YG w)(y:Pos r):Pos (ZB r w):=by intro p e h;rw[UI (jG g.1)]at h;by_cases k:w.2.1=p;rw[t6 k]at h;rcases sI h with z|z;rw[z,<- k];exact#[λx=>Uz x (wm 0),λx=>Uz x (uF g.1)];exact y p e z;rw[t3 k]at h;by_cases u:w.1=p;rw[t6 u]at h;rcases sI h with z|z;rw[z,<- u];exact#[λ_=>g.1,λ_=>g.2];exact y p e z;rw[t3 u]at h;exact y p e h
theorem D7(g:YG w)(x:u9 r):u9 (ZB r w):=by
 intro p q h;rw[yG];rcases(MI (jG g.1)).mp h with h|⟨_,h⟩| ⟨_,h⟩
 exact .inr (.inr (x p q h));exact .inr (.inl h);exact .inl h
theorem SL{α:Type}{w:α}{l:List (Pt×α)}{n:Nat}(h:l.9<=n):(put l p w).9<=n+1:=QW oX ()
theorem MP{α:Type}{p:Pt}{w:α}:∀{l:List (Pt×α)},(look l p).isSome=kd->(put l p w).9=l.9
 |[],h=>by cases h|e::l,h=>by by_cases c:e.1=p;rw[show put (e::l) p w=(e.1,w)::l from t6 c];rfl;rw[show put (e::l) p w=e::put l p w from t3 c,QL,QL];rw[show look (e::l) p=look l p from t3 c]at h;rw[MP h]
theorem AS(h:Key r p):(look r p).isSome=true:=by let#[l,e]:=h;rw[e];rfl
theorem J6:(ZB r w).9<=r.9+2:=by have x:Key (sdf (sdf r w.1) w.2.1) w.1:=uE.mpr (.inr (uE.mpr (.inl rfl)));have h:Key (sdf (sdf r w.1) w.2.1) w.2.1:=uE.mpr (.inl rfl);unfold ZB;rw[MP (AS (DI.mpr (.inr h))),MP (AS x)];have:=DP (r:=r) (p:=w.1);have:=DP (r:=sdf r w.1) (p:=w.2.1);omega
theorem kI{n:Nat}(g:w.1≠w.2.1)(h:Sz r n):Sz (ZB r w) (n+2):=by
 refine#[QW J6 (by have:=h.1;omega),λp=>?_];rw[UI g];have x:=h.2 p;split;exact QW (SL x) ();split
 ·exact QW (SL x) ()
 omega
theorem dY:∀{ws:List Wy}{r:Rm},(∀w∈ws,YG w)->∀{p q:Pt},O0 (ws.foldl ZB r) p q↔O0 r p q∨(∃v,(p,q,v)∈ws)∨∃v,(q,p,v)∈ws
 |[],r,_,p,q=>#[.inl,λz=>z.elim id λz=>z.elim (λ#[_,z]=>(nomatch z)) λ#[_,z]=>(nomatch z)]
 |w::ws,r,h,p,q=>by
  rw[QAH,dY (λw x=>h w (QD _ x)),MI (jG (h w QF).1)];constructor;rintro((z|⟨rfl,rfl⟩| ⟨rfl,rfl⟩)|⟨v,z⟩| ⟨v,z⟩)
  ·exact .inl z
  exact .inr (.inl #[_,QF]);exact .inr (.inr #[_,QF]);exact .inr (.inl #[v,QD _ z]);exact .inr (.inr #[v,QD _ z]);rintro(z|⟨v,z⟩| ⟨v,z⟩)
  ·exact .inl (.inl z)
  rcases QM.mp z with z|z
  ·rw[<- z]
   exact .inl (.inr (.inl #[rfl,rfl]))
  exact .inr (.inl #[v,z]);rcases QM.mp z with z|z
  ·rw[<- z]
   exact .inl (.inr (.inr #[rfl,rfl]))
  exact .inr (.inr #[v,z])
theorem bU:∀{ws:List Wy}{r:Rm}{n:Nat},(∀w∈ws,YG w)->Pos r->u9 r->Key r UA->Sz r n->Pos (ws.foldl ZB r)/\u9 (ws.foldl ZB r)/\Key (ws.foldl ZB r) UA/\Sz (ws.foldl ZB r) (n+2 * ws.length)
 |[],r,n,_,h1,h2,h3,h4=>#[h1,h2,h3,h4]|w::ws,r,n,h,h1,h2,h3,h4=>by have g:=h w QF;have:=bU (ws:=ws) (r:=ZB r w) (n:=n+2) (λw x=>h w (QD _ x)) (X4 g h1) (D7 g h2) (yG.mpr (.inr (.inr h3))) (kI (jG g.1) h4);rw[QAH,QL,show n+2 * (ws.length+1)=n+2+2 * ws.length by omega];exact this
noncomputable def rR(g:Str)(n:Str):List Wy:=if n=g then[] else[(tO n,fR n,1),(UA,tO n,2)]
noncomputable def eU(g:Str)(e:Str×Str):List Wy:=if e.1=g∨e.1=e.2 then[] else[(tO e.1,fR e.1,1),(tO e.2,fR e.2,1),(fR e.1,tO e.2,2)]
def yH:Rm:=[(UA,[])]
def yA(es:rC)(st:LS)(g:Str):Rm:=(es.flatMap (eU g)).foldl ZB ((st.flatMap (rR g)).foldl ZB yH)
theorem Vt:(0:Int)<1:=by decide
theorem mx:(0:Int)<2:=by decide
theorem AW:(rR g n).9<=2:=by unfold rR;split;exact Qs _;exact QT _
theorem EW:(eU g e).9<=3:=by unfold eU;split;exact Qs _;exact QT _
theorem mL:∀w∈rR g n,YG w:=by
 intro w h;unfold rR at h;split at h;exact(nomatch h);rcases QM.mp h with rfl|h
 ·exact#[.inr (.inl #[n,rfl,rfl]),Vt]
 rw[QI.mp h];exact#[.inl #[rfl,n,rfl],mx]
theorem rL:∀w∈eU g e,YG w:=by
 intro w x;unfold eU at x;split at x;exact(nomatch x);rename_i h;rcases QM.mp x with rfl|x;exact#[.inr (.inl #[e.1,rfl,rfl]),Vt];rcases QM.mp x with rfl|x
 ·exact#[.inr (.inl #[e.2,rfl,rfl]),Vt]
 rw[QI.mp x];exact#[.inr (.inr #[e.1,e.2,λz=>h (.inr z),rfl,rfl]),mx]
theorem LM{α:Type}{f:α->List Wy}{k:Nat}(h:∀x,(f x).9<=k):∀(l:List α),(l.flatMap f).9<=k * l.9
 |[]=>QT _|x::l=>by have:=LM h l;have:=h x;rw[WF,QJ,QL,Nat.mul_succ];omega
theorem NG{α:Type}{f:α->List Wy}(h:∀x,∀w∈f x,YG w)(l:List α):∀w∈l.flatMap f,YG w:=λw z=>by let#[x,_,y]:=wu.mp z;exact h x w y
structure RmOk(r:Rm)(n:Nat):Prop where
 pos:Pos r
 dom:u9 r
 bg:Key r UA
 sz:Sz r n
theorem ZE:RmOk yH 1:=by
 have e:∀p,lk yH p=[]:=λp=>by show(if UA=p then kv [] else kf).getD []=[];split<;>rfl
 refine#[λp y x=>?_,λp q #[v,h]=>?_,#[[],t6 rfl],QT _,λp=>?_];rw[e]at x;exact(nomatch x);rw[e]at h;exact(nomatch h);rw[e];exact Qs _
theorem RmOk.add{r:Rm}{n:Nat}(h:RmOk r n){ws:List Wy}(g:∀w∈ws,YG w):RmOk (ws.foldl ZB r) (n+2 * ws.length):=by let#[u,z,y,x]:=bU g h.pos h.dom h.bg h.sz;exact#[u,z,y,x]
theorem pS{es:rC}{st:LS}(z:es.9<=126)(y:st.9<=11):RmOk (yA es st g) 1000:=by have a:=(ZE.add (NG (f:=rR g) (λ_=>mL) st)).add (NG (f:=eU g) (λ_=>rL) es);have x:=LM (f:=rR g) (k:=2) (λ_=>AW) st;have h:=LM (f:=eU g) (k:=3) (λ_=>EW) es;exact#[a.pos,a.dom,a.bg,QW a.sz.1 (),λp=>QW (a.sz.2 p) ()]
def fg(r:Rm)(p q:Pt):Prop:=∃v,(q,v)∈lk r p/\0<v
inductive Rch(r:Rm):Pt->Prop
 |bg:Rch r UA
 |go {p q:Pt}:Rch r p->fg r p q->Rch r q
theorem Kq:(p,q,v)∈rR g n↔n≠g/\((p,q,v)=(tO n,fR n,1)∨(p,q,v)=(UA,tO n,2)):=by unfold rR;split;rename_i h;exact#[λz=>(nomatch z),λz=>Uz h z.1];rename_i h;rw[QM,QI];exact#[λz=>#[h,z],λz=>z.2]
theorem Vq:(p,q,v)∈eU g e↔(e.1≠g/\e.1≠e.2)/\((p,q,v)=(tO e.1,fR e.1,1)∨(p,q,v)=(tO e.2,fR e.2,1)∨(p,q,v)=(fR e.1,tO e.2,2)):=by unfold eU;split;rename_i h;exact#[λz=>(nomatch z),λz=>h.elim (λh=>Uz h z.1.1) λh=>Uz h z.1.2];rename_i h;rw[QM,QM,QI];exact#[λz=>#[#[λe=>h (.inl e),λe=>h (.inr e)],z],λz=>z.2]
theorem FE{cut:LS}{s:Str}:Cc g cut s=kd↔s≠g/\s∉cut:=by unfold Cc;rw[Qb,Q6,Q6,decide_eq_false_iff_not,decide_eq_false_iff_not]
end
section
variable{es:rC}{st:LS}{g:Str}{x:LS}
theorem XM{s:Str}(h:Led es st g x s):s≠g/\s∉x:=by
 cases h with|st _ h=>exact FE.mp h|ed _ _ h=>exact FE.mp h
end
section
variable{r:Rm}{ks:List Pt}{vs:List D}
theorem O2:∀{ws:List Wy}{r:Rm}{n:Nat},(∀w∈ws,YG w)->Sz r n->Sz (ws.foldl ZB r) (n+2 * ws.length)
 |[],r,n,_,h4=>h4|w::ws,r,n,h,h4=>by have:=O2 (ws:=ws) (r:=ZB r w) (n:=n+2) (λw x=>h w (QD _ x)) (kI (jG (h w QF).1) h4);rw[QAH,QL,show n+2 * (ws.length+1)=n+2+2 * ws.length by omega];exact this
inductive CF(r:Rm):List Pt->List D->Prop
 |bg:CF r [UA] [.none]
 |add {ks:List Pt}{vs:List D}{p q:Pt}:CF r ks vs->p∈ks->fg r p q->q∉ks->CF r (ks++[q]) (vs++[pr p])
theorem CF.len(h:CF r ks vs):vs.9=ks.length:=by
 induction h with|bg=>rfl|add _ _ _ _ x=>rw[QJ,QJ,x];rfl
theorem CF.hb(h:CF r ks vs):UA∈ks:=by
 induction h with|bg=>exact QF|add _ _ _ _ x=>exact Qp _ x
theorem CF.rch(h:CF r ks vs):∀k∈ks,Rch r k:=by
 induction h with|bg=>intro k hk;rw[QI.mp hk];exact .bg|add _ y w _ x=>intro k hk;rcases Qg.mp hk with z|z;exact x k z;rw[QI.mp z];exact .go (x _ y) w
theorem CF.nd(h:CF r ks vs):ks.Nodup:=by
 induction h with
 |bg=>exact Qe.mpr #[λz=>(nomatch z),Q1]
 |add _ _ _ n x=>refine qj.mpr #[x,Qe.mpr #[λz=>(nomatch z),Q1],λa y b hb z=>?_];rw[QI.mp hb]at z;exact n (z▸y)
theorem nI(x:u9 r)(hb:Key r UA){p:Pt}(h:Rch r p):Key r p:=by
 cases h with|bg=>exact hb|go _ w=>let#[v,m,_]:=w;exact x _ _ #[v,m]
theorem ZQ{p:Pt}{l:Inn}:∀{r:Rm},look r p=kv l->p∈r.map (·.1)
 |[],h=>by cases h|e::r,h=>by by_cases c:e.1=p;rw[<- c];exact QF;rw[show look (e::r) p=look r p from t3 c]at h;exact QD _ (ZQ (r:=r) h)
theorem HG:∀{ks ns:List Pt},ks.Nodup->(∀s∈ks,s∈ns)->ks.9<=ns.9
 |[],_,_,_=>Qs _|s::r,ns,h,hs=>by let#[v,u]:=Qe.mp h;have z:=hs s QF;have:=HG (ks:=r) (ns:=ns.erase s) u λx y=>(QBJ (λ(e:x=s)=>v (e▸y))).mpr (hs x (QD _ y));rw[QAh z]at this;have w:=Wh z;rw[QL];omega
theorem CF.le(y:u9 r)(hb:Key r UA)(h:CF r ks vs):ks.9<=r.length:=by
 have:=HG (ns:=r.map (·.1)) h.nd λs x=>by let#[l,e]:=nI y hb (h.rch s x);exact ZQ e
 rw[QE]at this;exact this
structure Srch(r:Rm)(ks:List Pt)(vs:List D)(ws:List Pt):Prop where
 cf:CF r ks vs
 sub:∀w∈ws,w∈ks
 clo:∀k∈ks,k∉ws->∀q,fg r k q->q∈ks
structure Srch1(r:Rm)(here:Pt)(ks:List Pt)(vs:List D)(ws:List Pt)(l:Inn):Prop where
 cf:CF r ks vs
 sub:∀w∈ws,w∈ks
 clo:∀k∈ks,k∉ws->k≠here->∀q,fg r k q->q∈ks
 her:here∈ks
 don:∀e∈lk r here,0<e.2->e.1∈ks∨e∈l
 all:∀e∈l,e∈lk r here
end
section
variable{r:Rm}{ks ws:List Pt}{vs:List D}
theorem Do:Srch r [UA] [.none] [UA]:=#[.bg,λ_ h=>h,λk h n=>Uz h n]
theorem Srch.pop{w:Pt}(h:Srch r ks vs (w::ws)):Srch1 r w ks vs ws (lk r w):=by refine#[h.cf,λx v=>h.sub x (QD _ v),λk hk n u=>h.clo k hk λz=>?_,h.sub w QF,λe y _=>.inr y,λe y=>y];rcases QM.mp z with z|z;exact u z;exact n z
theorem Srch1.skip{y:Pt}{e:Pt×Int}{l:Inn}(h:Srch1 r y ks vs ws (e::l))(c:0<e.2->e.1∈ks):Srch1 r y ks vs ws l:=by
 refine#[h.cf,h.sub,h.clo,h.her,λx u p=>?_,λx u=>h.all x (QD _ u)];rcases h.don x u p with z|z;exact .inl z;rcases QM.mp z with z|z
 ·rw[z]at p ⊢;exact .inl (c p)
 exact .inr z
theorem Srch1.add{u:Pt}{e:Pt×Int}{l:Inn}(h:Srch1 r u ks vs ws (e::l))(c:0<e.2)(n:e.1∉ks):Srch1 r u (ks++[e.1]) (vs++[pr u]) (ws++[e.1]) l:=by
 have f:=h.all e QF;refine#[h.cf.add h.her #[e.2,f,c] n,λx v=>?_,λk hk a b q w=>?_,Qp _ h.her,λx v p=>?_,λx v=>h.all x (QD _ v)];rcases Qg.mp v with z|z
 ·exact Qp _ (h.sub x z)
 exact Qa _ z;rcases Qg.mp hk with z|z
 ·exact Qp _ (h.clo k z (λy=>a (Qp _ y)) b q w)
 exact Uz (Qa _ z) a;rcases h.don x v p with z|z
 ·exact .inl (Qp _ z)
 rcases QM.mp z with z|z
 ·rw[z];exact .inl (Qa _ QF)
 exact .inr z
theorem Srch1.fin{x:Pt}(h:Srch1 r x ks vs ws []):Srch r ks vs ws:=by refine#[h.cf,h.sub,λk hk n q w=>?_];by_cases e:k=x;subst e;let#[v,m,p]:=w;rcases h.don (q,v) m p with z|z;exact z;exact(nomatch z);exact h.clo k hk n e q w
theorem Srch.done(h:Srch r ks vs [])(p:Pt):p∈ks↔Rch r p:=by
 refine#[h.cf.rch p,λz=>?_];induction z with|bg=>exact h.cf.hb|go _ w x=>exact h.clo _ x (λz=>(nomatch z)) _ w
end
def eC(Q:T->LT->Prop):PEnds:={ nx:=λh=>vV (LA [0] h) (Q (.d .none)),rt:=λt h=>vV (LA [0] h) (Q t) }
theorem NJ{Ψ:PEv}{b:PT}{p:PSp}{N x:LS}{ds:LT}{Q:T->LT->Prop}(ρ:kA)(h:pF Ψ b (eC Q) ρ)(hl:ds.9=x.length:=by rfl)(hc:UB 0 p.md x.9=[0]:=by rfl)(y:oB N p.md ds=ρ:=by rfl):ds.9=x.9/\pF Ψ b (cD p x.9 Q) (oB N p.md ds):=by
 have e:cD p x.9 Q=eC Q:=by unfold cD;rw[hc];rfl
 rw[e,y];exact#[hl,h]
def Y0(r:Rm)(h t:Pt)(v:Int):kA:=[oW (gB r),bD (pr h),bD (pr t),bD (.int v)]
section
variable{Ψ:PEv}{Z:PEnds}{q:PT}{r:Rm}{h t:Pt}{v:Int}
theorem Cw(hl:r.9<kt)(k:pF Ψ q Z (Y0 (sdf r h) h t v)):pF Ψ (.seq (.sdf 0 (.var 1)) q) Z (Y0 r h t v):=by delta Y0 at k ⊢;simp![↓vA];refine#[rfl,gX hl ?_];exact k
theorem Bw(hl:r.9<kt)(k:pF Ψ q Z (Y0 (sdf r t) h t v)):pF Ψ (.seq (.sdf 0 (.var 2)) q) Z (Y0 r h t v):=by delta Y0 at k ⊢;simp![↓vA];refine#[rfl,gX hl ?_];exact k
theorem Uw{l:Inn}(e:look r h=kv l)(hl:l.9<kt)(k:pF Ψ q Z (Y0 (put r h (put l t v)) h t v)):pF Ψ (.seq (.six (.idx (.var 0) (.var 1)) (.var 2) (.var 3)) q) Z (Y0 r h t v):=by delta Y0 at k ⊢;simp![↓vA];refine vI e λf x=>sP hl ?_;rw[x];exact k
theorem Xw{l:Inn}(e:look r t=kv l)(hl:l.9<kt)(k:pF Ψ q Z (Y0 (put r t (put l h 0)) h t v)):pF Ψ (.seq (.six (.idx (.var 0) (.var 2)) (.var 1) (.int 0)) q) Z (Y0 r h t v):=by delta Y0 at k ⊢;simp![↓vA];refine vI e λf x=>sP hl ?_;rw[x];exact k
end
theorem DE{r:Rm}{p:Pt}(h:Key r p):look r p=kv (lk r p):=by let#[l,e]:=h;unfold lk;rw[e];rfl
def BG:PSp where
 md:=[.chg]
 run:=λh Q _=>∃(r:Rm) (w:Wy),h=[gB r,.d (pr w.1),.d (pr w.2.1),.d (.int w.2.2)]/\(w.1≠w.2.1/\Sz r 5000)/\Q (.d .none) [gB (ZB r w)]
theorem Cb{Ψ:PEv}:EH Ψ kP BG lP xM:=by rintro _ Q _ ⟨r,w,rfl,⟨z,h⟩,q⟩;refine NJ (Y0 r w.1 w.2.1 w.2.2) ?_;have a:=h.1;have k:=DP (r:=r) (p:=w.1);have y:Key (sdf (sdf r w.1) w.2.1) w.1:=uE.mpr (.inr (uE.mpr (.inl rfl)));have x:Key (sdf (sdf r w.1) w.2.1) w.2.1:=uE.mpr (.inl rfl);have v:=h.2 w.1;have u:=h.2 w.2.1;refine Cw () (Bw () (Uw (DE y) (by rw[mE,mE];omega) (Xw (DE (DI.mpr (.inr x))) (by rw[nE,t3 z,mE,mE];omega) ?_)));exact q
def fI:PSp where
 md:=[.chg]
 run:=λh Q _=>∃(r:Rm) (n:Str),h=[gB r,.d (.str n)]/\Sz r 5000/\Q (.d .none) [gB (ZB r (tO n,fR n,1))]
theorem Db{Ψ:PEv}(x:Ψ.sp "add_way"=BG):EH Ψ TH fI eN nK:=by rintro _ Q _ ⟨r,n,rfl,h,q⟩;refine NJ [oW (gB r),bD (.str n)] ?_;delta TH;simp![↓RG (md:=[]) x rfl rfl];refine#[(),(),?_];exact#[_,(tO n,fR n,1),rfl,#[NA,h],#[_,rfl,q]]
def C0(es:rC)(st:LS)(g:Str)(r:Rm)(o4 o5 o6:Option Sl):kA:=[bD (.list (es.map pr)),bD (.tuple (st.map j3)),bD (.str g),oW (gB r),o4,o5,o6]
section
variable{Ψ:PEv}{Z:PEnds}{es:rC}{st:LS}{g:Str}{r:Rm}
theorem Pu(h:Ψ.va "BEGIN"=kv (pr UA)){q:PT}{o3 o4 o5 o6:Option Sl}(k:pF Ψ q Z (C0 es st g yH o4 o5 o6)) :
  pF Ψ (.seq (.own 3 (.dsp (.glo "BEGIN") (.dnew kd))) q) Z [bD (.list (es.map pr)),bD (.tuple (st.map j3)),bD (.str g),o3,o4,o5,o6]:=by
 simp![↓nH h];exact#[IB UA,k]
theorem Ou(b:Ψ.sp "add_name"=fI)(a:Ψ.sp "add_way"=BG)(v:Ψ.va "BEGIN"=kv (pr UA))(u:Ψ.va "WIDE"=kv (.int 2)){n:Str}{o5 o6:Option Sl}(h:Sz r 4900)(k:Z.nx (C0 es st g ((rR g n).foldl ZB r) (bD (.str n)) o5 o6)) :
  pF Ψ mF Z (C0 es st g r (bD (.str n)) o5 o6):=by
 delta C0 at k ⊢;delta mF;simp![↓nH v,↓nH u,↓RG (md:=[]) b rfl rfl,↓RG (md:=[]) a rfl rfl];by_cases e:n=g;rw[dT e];unfold rR at k;rw[t6 e]at k;exact k;rw[dF e];unfold rR at k;rw[t3 e]at k;have z:Sz r 5000:=#[QW h.1 (),λp=>QW (h.2 p) ()]
 have x:=kI (w:=(tO n,fR n,1)) NA h;have y:Sz (ZB r (tO n,fR n,1)) 5000:=#[QW x.1 (),λp=>QW (x.2 p) ()]
 refine#[_,_,rfl,z,#[_,rfl,?_]];refine#[(),?_];exact#[_,(UA,tO n,2),rfl,#[AB,y],#[_,rfl,k]]
theorem Nu(j:Ψ.sp "add_name"=fI)(i:Ψ.sp "add_way"=BG)(f:Ψ.va "WIDE"=kv (.int 2)){a b:Str}{o4:Option Sl}(y:Sz r 4900)(k:Z.nx (C0 es st g ((eU g (a,b)).foldl ZB r) o4 (bD (.str a)) (bD (.str b)))) :
  pF Ψ lF Z (C0 es st g r o4 (bD (.str a)) (bD (.str b))):=by
 delta C0 at k ⊢;delta lF;simp![↓nH f,↓RG (md:=[]) j rfl rfl,↓RG (md:=[]) i rfl rfl];unfold eU at k;by_cases e:a=g;rw[dT e];rw[t6 (.inl e)]at k;exact k;rw[dF e];by_cases h:a=b;rw[dT h];rw[t6 (.inr h)]at k;exact k;rw[dF h];rw[t3 (λz=>z.elim e h)]at k;have v:Sz r 5000:=#[QW y.1 (),λp=>QW (y.2 p) ()]
 have x:=kI (w:=(tO a,fR a,1)) NA y;have u:=kI (w:=(tO b,fR b,1)) NA x;refine#[_,_,rfl,v,#[_,rfl,?_]];refine#[_,_,rfl,#[QW x.1 (),λp=>QW (x.2 p) ()],#[_,rfl,?_]];refine#[(),(),?_];exact#[_,(fR a,tO b,2),rfl,#[NA.symm,#[QW u.1 (),λp=>QW (u.2 p) ()]],#[_,rfl,k]]
end
section
variable{Ψ:PEv}{r:Rm}{p q:Pt}{l:Inn}{n m:Bool}{R:T->Prop}{W:LT->Prop}{E:XE}{ρ:kA}{b:PX}{M:List (T×Bool)->kA->Prop}{md:List Md}{ks:List Pt}{vs:List D}
def uI:PSp where
 run:=λx Q _=>∃(h:rC) (st:LS) (g:Str),x=[.d (.list (h.map pr)),.d (.tuple (st.map j3)),.d (.str g)]/\(h.9<=126/\st.9<=11)/\Q (gB (yA h st g)) []
theorem yZ(o:Ψ.sp "add_name"=fI)(j:Ψ.sp "add_way"=BG)(i:Ψ.va "BEGIN"=kv (pr UA))(f:Ψ.va "WIDE"=kv (.int 2)):EH Ψ kN uI mN uK:=by rintro _ Q _ ⟨h,st,g,rfl,⟨Y,X⟩,q⟩;refine nA [bD (.list (h.map pr)),bD (.tuple (st.map j3)),bD (.str g),kf,kf,kf,kf] ?_;refine Pu i ?_;delta C0;simp![↓vA];rw[<- JA];refine rB (λ(s:Str)=>T.d (.str s)) (λl ρ=>∃r x,RmOk r (1+4 * (11 - l.9))/\l.9<=11/\(l.flatMap (rR g)).foldl ZB r=(st.flatMap (rR g)).foldl ZB yH/\ρ=C0 h st g r x kf kf) ?_ ?_ _ _ #[yH,_,?_,X,rfl,rfl];rintro ρ ⟨r,x,ok,_,e,rfl⟩;have e:r=(st.flatMap (rR g)).foldl ZB yH:=e;delta C0;simp![↓vA];rw[<- JA];refine rB (λ(p:Str×Str)=>T.d (pr p)) (λl ρ=>∃r v u,Sz r (45+6 * (126 - l.9))/\l.9<=126/\(l.flatMap (eU g)).foldl ZB r=yA h st g/\ρ=C0 h st g r (iK x) v u) ?_ ?_ _ _ #[r,_,_,?_,Y,by rw[e];rfl,rfl];rintro ρ ⟨r,v,u,_,_,e,rfl⟩;have e:r=yA h st g:=e;subst e;delta C0;simp![↓vA];exact q;rintro⟨a,b⟩ l ρ N k ⟨r,v,u,s,w,e,rfl⟩;rw[QL]at s w;rw[WF,QAi]at e;refine FF.mk rfl ?_;refine Nu (a:=a) (b:=b) o j f #[QW s.1 (),λp=>QW (s.2 p) ()] (k _ #[_,_,_,?_,(),e,rfl]);have z:Sz ((eU g (a,b)).foldl ZB r) (45+6 * (126 - (l.9+1))+2 * (eU g (a,b)).9):=O2 rL s;have y:=EW (g:=g) (e:=(a,b));exact#[QW z.1 (),λp=>QW (z.2 p) ()];exact#[QW ok.sz.1 (by rw[qY];omega),λp=>QW (ok.sz.2 p) (by rw[qY];omega)];rintro s l ρ N k ⟨r,x,ok,w,e,rfl⟩;rw[QL]at ok w;rw[WF,QAi]at e;refine Ou (n:=s) o j i f #[QW ok.sz.1 (),λp=>QW (ok.sz.2 p) ()] (k _ #[_,_,?_,(),e,rfl]);have z:=ok.add (ws:=rR g s) mL;have y:=AW (g:=g) (n:=s);exact#[z.pos,z.dom,z.bg,QW z.sz.1 (),λp=>QW (z.sz.2 p) ()];exact#[ZE.pos,ZE.dom,ZE.bg,QW ZE.sz.1 (),λp=>QW (ZE.sz.2 p) ()]
def jW(l:Inn):D:=.dict (l.map λe=>(pr e.1,.int e.2))
def uk(r:Rm):List (D×D):=r.map λe=>(pr e.1,jW e.2)
theorem ZZ(h:look r p=kv l):DD (uk r)=kv true:=by
 cases r with|nil=>cases h|cons e r=>rfl
theorem D6(l:Inn):(l.map λe=>(pr e.1,j5 e.2))=[]∨DD (l.map λe=>(pr e.1,j5 e.2))=kv true:=by
 cases l with|nil=>exact .inl rfl|cons e r=>exact .inr rfl
theorem Uh(h:Key r p)(k:R (.d (jW (lk r p)))):BA (.d (.dict (uk r))) n (.d (pr p)) m R:=by
 have e:=DE h;let#[i,u,y,_]:=YC (λl=>T.d (jW l)) e;have w:(uk r).map (·.1)=TC r:=by unfold uk TC;rw[QX];rfl
 refine Mn (ZZ e) (IB p) (by rw[w];exact u) ?_ k;have v:(uk r).map (·.2)=r.map λe=>jW e.2:=by unfold uk;rw[QX];rfl
 rw[v];rw[Qd]at y ⊢;cases z:r[i]? with|none=>rw[z]at y;cases y|some x=>rw[z]at y;injection y with y;injection y with y;show kv (jW x.2)=_;rw[y]
theorem zo:JK .itm [(.d (jW l),n)] W=W (l.map λe=>.d (.tuple [pr e.1,.int e.2])):=by unfold jW;rw[yo (D6 l),QX];rfl
theorem AH{K:TK}:x3 (gB r) kb Ψ b E ρ K=mB Ψ b E (lockA ρ) λy m _=>K y m ρ:=rfl
theorem aY{K:TK}:x3 (FD l) kb Ψ b E ρ K=mB Ψ b E (lockA ρ) λy m _=>K y m ρ:=rfl
theorem lR:A8 (gB r) kb Ψ b E md ρ M=vL Ψ b E md (lockA ρ) λxs _=>M xs ρ:=rfl
theorem G8:A8 (FD l) kb Ψ b E md ρ M=vL Ψ b E md (lockA ρ) λxs _=>M xs ρ:=rfl
def Km(t:T)(r:Rm):Prop:=t=gB r∨t=.d (.dict (uk r))
theorem Nn{b:Bool}{ks:List D}{ts:LT}{n m:Bool}{k:D}{l:Nat}{t:T}(z:ED b k)(y:fA ks k=kv l)(x:ts[l]?=kv t)(h:R t):BA (.dct b ks ts) kb (.d k) m R:=.inr #[b,ks,ts,l,t,rfl,z,y,x,h]
theorem EE(h:Key r p)(k:R (FD (lk r p))):BA (gB r) kb (.d (pr p)) m R:=by let#[i,y,x,_]:=YC FD (DE h);exact Nn (n:=kb) (IB p) y x k
theorem mP{v:Int}(h:look l p=kv v)(k:R (.d (.int v))):BA (FD l) kb (.d (pr p)) m R:=by let#[i,y,x,_]:=YC (λv:Int=>T.d (.int v)) h;exact Nn (n:=kb) (IB p) y x k
theorem zX(l:Inn):VG (l.map λe=>T.d (.int e.2))=kv (l.map λe=>.int e.2):=by rw[show(l.map λe=>T.d (.int e.2))=(l.map λe=>j5 e.2).map T.d by rw[QX];rfl,YA]
theorem Hh:JK .itm [(FD l,kb)] W=W (l.map λe=>.d (.tuple [pr e.1,.int e.2])):=by
 refine(yT _ _).trans ?_;have e:((TC l).zip (l.map λe=>j5 e.2)).map (λp=>T.d (.tuple [p.1,p.2]))=l.map λe=>T.d (.tuple [pr e.1,.int e.2]):=by unfold TC;rw[List.zip_map',QX];rfl
 refine Az #[λ#[x,h,k]=>?_,λk=>#[_,zX l,by rw[e];exact k]];rw[zX]at h;cases h;rw[e]at k;exact k
theorem i9{a:PX}:SG (.idx a b)=SG a:=rfl
theorem xm:bN [(FD l,kb)]=false:=rfl
noncomputable def ud(ks:List Pt)(vs:List D):T:=.dct kd (ks.map pr) (vs.map T.d)
theorem NP:pr q∈ks.map pr↔q∈ks:=by constructor;intro h;let#[x,y,e]:=QY.mp h;rw[<- OP e];exact y;exact QBY
theorem LI(ks:List Pt)(q:Pt):(fA (ks.map pr) (pr q)).isSome=decide (q∈ks):=by rw[qF,mW,NP,ax]
theorem Th{x:D}{Q:T->Prop}(n:q∉ks)(hl:ks.9<kt)(k:Q (ud (ks++[q]) (vs++[x]))):ge (ud ks vs) (.d (pr q)) (.d x) Q:=by refine#[IB q,by rw[QE];exact hl,?_];show Q (KJ kd (ks.map pr) (vs.map T.d) (pr q) (.d x));unfold KJ;rw[kB.mpr (λz=>n (NP.mp z))];unfold ud at k;rw[QR,QR]at k;exact k
theorem Ul{L:Bool->Prop}:JB .NotIn (.d (pr q)) (ud ks vs) L=L (!decide (q∈ks)):=by unfold ud;rw[jN,LI];exact Az #[λh=>h.2,λh=>#[IB q,h]]
def eO(h:T)(ks:List Pt)(vs:List D)(ws:List Pt)(o3 o4 o5:Option Sl):kA:=[kv (.bor h),kv (.own (ud ks vs)),kv (.own (.lst ((ws.map pr).map T.d))),o3,o4,o5]
end
section
variable{Ψ:PEv}{Z:PEnds}{x:T}{r:Rm}{ks ws:List Pt}{vs:List D}
section
variable{w:Pt}{o3 o4 o5:Option Sl}
theorem Au{p q:Pt}{v:Int}(hl:ks.9<kt)(a:ws.length<kt)(u:(0<v->q∈ks)->Z.nx (eO x ks vs ws (bD (pr p)) (bD (pr q)) (bD (.int v))))
  (k:0<v->q∉ks->Z.nx (eO x (ks++[q]) (vs++[pr p]) (ws++[q]) (bD (pr p)) (bD (pr q)) (bD (.int v)))) :
  pF Ψ vB Z (eO x ks vs ws (bD (pr p)) (bD (pr q)) (bD (.int v))):=by
 delta eO at u k ⊢;delta vB;simp![↓Ul];by_cases h:0<v;rw[dT h];by_cases y:q∈ks;rw[dT y];exact u λ_=>y;rw[dF y];simp only[WI,↓reduceIte];refine Th y hl ?_;refine#[by rw[QE,QE];exact a,?_];have:=k h y;rw[QR,QR]at this;exact this;rw[dF h];exact u λz=>Uz z h
theorem Hi{q:PT}(k:pF Ψ q Z (eO x ks vs ws (bD (pr w)) o4 o5)) :
  pF Ψ (.seq (.set 3 (.mt .pop (.var 2) %[.int 0|1])) q) Z (eO x ks vs (w::ws) o3 o4 o5):=by
 delta eO at k ⊢;simp![↓vA];refine#[0,.d (pr w),?_,rfl,rfl,k];unfold JU;rw[t6 (by decide),t6 (by rw[QE,QE,QL];omega)];rfl
theorem Li(y:Km x r)(hk:Key r w)
  (k:BH (pF Ψ vB) (.tp [4,5]) { Z with nx:=λh=>Z.nx (kill [4,5] h) } ((lk r w).map λe=>T.d (.tuple [pr e.1,.int e.2])) (eO x ks vs ws (bD (pr w)) o4 o5)) :
  pF Ψ %[.for_ (.tp [4,5]) .itm %[.idx (.var 0) (.var 3)|1] vB|2] Z (eO x ks vs ws (bD (pr w)) o4 o5):=by
 rcases y with rfl|rfl;delta eO at k ⊢;simp![↓AH];refine EE hk ?_;simp![↓G8,↓Hh,xm,i9];exact k;delta eO at k ⊢;simp![↓vA];refine Uh hk ?_;simp![↓zo];exact k
theorem Tu(m:Km x r)(a:u9 r)(hb:Key r UA)(W:r.9<=1000)(h:Srch r ks vs (w::ws))(K:2 * (r.9 - ks.9)+ws.length+1<=3000)
  (o:∀z u y o3 o4 o5,Srch r z u y->2 * (r.9 - z.9)+y.9<=2 * (r.9 - ks.9)+ws.length->Z.nx (eO x z u y o3 o4 o5)) :
  pF Ψ LD Z (eO x ks vs (w::ws) o3 o4 o5):=by
 have A:kt=16777216:=Q5;refine Hi ?_;have X:=h.pop;have hk:Key r w:=nI a hb (h.cf.rch w (h.sub w QF));refine Li m hk ?_;refine rB (λ(e:Pt×Int)=>T.d (.tuple [pr e.1,.int e.2])) (λl k=>∃z u y o4 o5,Srch1 r w z u y l/\2 * (r.9 - z.9)+y.9<=2 * (r.9 - ks.9)+ws.length/\k=eO x z u y (bD (pr w)) o4 o5) ?_ ?_ _ _ #[ks,vs,ws,_,_,X,QT _,rfl];rintro k ⟨z,u,y,g,f,s,l,rfl⟩;exact o z u y _ (iK g) (iK f) s.fin l;rintro⟨q,v⟩ l k N i ⟨z,u,y,g,f,s,e,rfl⟩;refine FF.mk rfl ?_;have Y:=s.cf.le a hb;refine Au (p:=w) (q:=q) (v:=v) () () (λc=>i _ #[z,u,y,_,_,s.skip c,e,rfl]) λc n=>?_;have b:=s.add c n;have j:=b.cf.le a hb;rw[QJ,Q8]at j;exact i _ #[_,_,_,_,_,b,by rw[QJ,QJ,Q8];omega,rfl]
theorem Eu(h:Ψ.va "BEGIN"=kv (pr UA)){q:PT}(k:pF Ψ q Z (eO x [UA] [.none] [UA] kf kf kf)) :
  pF Ψ (.seq (.own 1 (.dsp (.glo "BEGIN") .non)) (.seq (.own 2 (.lst %[.glo "BEGIN"|1])) q)) Z [kv (.bor x),kf,kf,kf,kf,kf]:=by
 have y:kt=16777216:=Q5;simp![↓nH h];exact#[IB UA,(),k]
end
end
theorem yI{Ψ:PEv}{E:XE}{c:PX}{q:PT}{Z:PEnds}{ρ:kA}(W:Nat->kA->Prop)(m:Nat)(u:W m ρ)(z:∀m ρ,W m ρ->oK Ψ c E ρ λb x=>if b=kd then xB Ψ E q { Z with nx:=λh=>∃y,y < m/\W y h,ct:=λh=>∃y,y < m/\W y h,bk:=Z.nx } x else Z.nx x):Pn Ψ E c q Z ρ:=#[W,#[m,u],z]
def LF:PSp where
 md:=[.bor]
 run:=λz Q _=>∃(y:T) (r:Rm),z=[y]/\(Km y r/\u9 r/\Key r UA/\r.9<=1000)/\∀h x,CF r h x->(∀p,p∈h↔Rch r p)->Q (ud h x) []
theorem V5{Ψ:PEv}(j:Ψ.va "BEGIN"=kv (pr UA)):EH Ψ NE LF AE zE:=by
 rintro _ Q _ ⟨k,r,rfl,⟨l,i,hb,g⟩,q⟩;refine nA [kv (.bor k),kf,kf,kf,kf,kf] ?_;refine Eu j ?_;delta eO;simp![↓vA];refine yI (λm v=>m<=3000/\∃h x ws o3 o4 o5,Srch r h x ws/\m=2 * (r.9 - h.9)+ws.length/\v=eO k h x ws o3 o4 o5) (2 * (r.9 - 1)+1) #[(),[UA],[.none],[UA],kf,kf,kf,Do,rfl,rfl] ?_;rintro m v ⟨o,h,x,ws,o3,o4,o5,s,e,rfl⟩;cases ws with|nil=>delta eO;simp![QE];rw[dF ()];simp![↓vA];exact q h x s.cf s.done|cons w ws=>rw[QL]at e;have a:=λ(Z:PEnds) f=>Tu (Ψ:=Ψ) (Z:=Z) (o3:=o3) (o4:=o4) (o5:=o5) l i hb g s () f;unfold eO at a;delta eO;simp![QE];rw[dT ()];refine a _ λu z y o3 o4 o5 b n=>#[_,(),(),u,z,y,o3,o4,o5,b,rfl,rfl]
theorem jm{α:Type}{x:α}{r:List α}:fE (x::r) 0=kv x:=MC (j:=0) rfl
theorem Dw{α:Type}{x y:α}{r:List α}:fE (x::y::r) 1=kv y:=MC (j:=1) rfl
def sm:List Pt->(Pt->Int)->Int
 |[],_=>0|x::l,f=>f x+sm l f
section
variable{f g:Pt->Int}
theorem jB:∀{l:List Pt},(∀x∈l,f x=g x)->sm l f=sm l g
 |[],_=>rfl|x::l,h=>by show f x+sm l f=g x+sm l g;rw[h x QF,jB λy z=>h y (QD _ z)]
theorem tH:∀(l:List Pt),sm l (λx=>f x+g x)=sm l f+sm l g
 |[]=>rfl|x::l=>by show f x+g x+sm l _=f x+sm l f+(g x+sm l g);rw[tH l];omega
theorem aJ:∀(l:List Pt),sm l (λx=>- f x)=- sm l f
 |[]=>rfl|x::l=>by show - f x+sm l _=- (f x+sm l f);rw[aJ l];omega
theorem CG:∀(l:List Pt),sm l (λ_=>0)=0
 |[]=>rfl|x::l=>by show 0+sm l _=0;rw[CG l];rfl
theorem lO:∀{l:List Pt},(∀x∈l,0<=f x)->0<=sm l f
 |[],_=>QCc _|x::l,h=>by have v:=h x QF;have u:=lO (l:=l) λy z=>h y (QD _ z);show 0<=f x+sm l f;omega
theorem sH:∀{l:List Pt},(∀x∈l,0<=f x)->∀{y:Pt},y∈l->f y<=sm l f
 |x::l,h,y,z=>by have w:=h x QF;have u:∀y∈l,0<=f y:=λy z=>h y (QD _ z);show f y<=f x+sm l f;rcases QM.mp z with e|e;have v:=lO u;rw[e];omega;have v:=sH u e;omega
theorem d3:∀{l:List Pt},(∀x∈l,0<=f x)->∀{y z:Pt},y∈l->z∈l->y≠z->f y+f z<=sm l f
 |x::l,h,y,z,v,hz,ne=>by
  have a:=h x QF;have w:∀y∈l,0<=f y:=λy v=>h y (QD _ v);show f y+f z<=f x+sm l f;rcases QM.mp v with e|e;rcases QM.mp hz with u|u
  ·exact Uz (e.trans u.symm) ne
  have k:=sH w u;rw[e];omega;rcases QM.mp hz with u|u
  ·have k:=sH w e
   rw[u];omega
  have k:=d3 w e u ne;omega
theorem J3:∀{l:List Pt},0<sm l f->∃x∈l,0<f x
 |[],h=>Uz h (wm 0)|x::l,h=>by by_cases c:0<f x;exact#[x,QF,c];have h:0<f x+sm l f:=h;let#[y,z,p]:=J3 (l:=l) ();exact#[y,QD _ z,p]
theorem cX{k:Pt->Pt->Int}{m:List Pt}:∀(l:List Pt),sm l (λx=>sm m λy=>k x y)=sm m λy=>sm l λx=>k x y
 |[]=>(CG m).symm|x::l=>by show sm m (λy=>k x y)+sm l _=sm m λy=>k x y+sm l λx=>k x y;rw[cX l,tH]
theorem VP{u:Pt}{k:Int}:∀{l:List Pt},u∉l->sm l (λx=>if x=u then k else 0)=0
 |[],_=>rfl|x::l,h=>by show(if x=u then k else 0)+sm l _=0;rw[t3 (λ(e:x=u)=>h (e▸QF)),VP λz=>h (QD _ z)];rfl
theorem eJ{u:Pt}{k:Int}:∀{l:List Pt},l.Nodup->u∈l->sm l (λx=>if x=u then k else 0)=k
 |x::l,nd,h=>by let#[v,y]:=Qe.mp nd;show(if x=u then k else 0)+sm l _=k;by_cases e:x=u;rw[t6 e,VP (by rw[<- e];exact v)];omega;rw[t3 e,eJ y ((QM.mp h).resolve_left λz=>e z.symm)];omega
theorem SR(p:Pt->Bool):∀(l:List Pt),sm l f=sm (l.filter p) f+sm (l.filter λx=>!p x) f
 |[]=>rfl|x::l=>by
  show f x+sm l f=_;rw[WN,WN,SR p l];cases p x with|true=>show _=(f x+sm (l.filter p) f)+sm (l.filter λx=>!p x) f;omega|false=>show _=sm (l.filter p) f+(f x+sm (l.filter λx=>!p x) f);omega
theorem N9{a:Pt->Pt->Int}(l:List Pt)(h:∀x∈l,∀y∈l,a x y=- a y x):sm l (λx=>sm l λy=>a x y)=0:=by
 have w:sm l (λx=>sm l λy=>a x y)=sm l λy=>sm l λx=>a x y:=cX l;have v:(sm l λy=>sm l λx=>a x y)=- sm l (λy=>sm l λx=>a y x):=by rw[<- aJ];refine jB λy z=>?_;rw[<- aJ];exact jB λx u=>h x u y z
 omega
end
section
variable{p q u v:Pt}{r:Rm}{w:Wy}{es:rC}{st:LS}{g:Str}
def rm(r:Rm)(p q:Pt):Int:=(look (lk r p) q).getD 0
def jI(r:Rm)(p q:Pt):Prop:=∃v,look (lk r p) q=kv v
def Hd(r:Rm):Prop:=∀p,((lk r p).map (·.1)).Nodup
theorem LG{α:Type}{q:Pt}{v:α}:∀{l:List (Pt×α)},look l q=kv v->(q,v)∈l
 |[],h=>by cases h|e::l,h=>by by_cases c:e.1=q;rw[show look (e::l) q=kv e.2 from t6 c]at h;injection h with h;rw[<- c,<- h];exact QF;rw[show look (e::l) q=look l q from t3 c]at h;exact QD _ (LG h)
theorem BQ{α:Type}{q:Pt}{v:α}:∀{l:List (Pt×α)},(l.map (·.1)).Nodup->(q,v)∈l->look l q=kv v
 |e::l,nd,h=>by let#[k,y]:=Qe.mp nd;rcases QM.mp h with c|c;rw[<- c];exact t6 rfl;have x:e.1≠q:=λz=>k (QY.mpr #[(q,v),c,z.symm]);rw[show look (e::l) q=look l q from t3 x];exact BQ y c
theorem put_keys{α:Type}{p:Pt}{w:α}:∀{l:List (Pt×α)},(put l p w).map (·.1)=if p∈l.map (·.1) then l.map (·.1) else l.map (·.1)++[p]
 |[]=>rfl|e::l=>by by_cases c:e.1=p;rw[show put (e::l) p w=(e.1,w)::l from t6 c,t6 (by rw[<- c];exact QF)];rfl;rw[show put (e::l) p w=e::put l p w from t3 c];rw[QU,QU,put_keys];by_cases h:p∈l.map (·.1);rw[t6 h,t6 (QD _ h)];rw[t3 h,t3 (λz=>(QM.mp z).elim (λz=>c z.symm) h)];rfl
theorem DG{α:Type}{w:α}{l:List (Pt×α)}(h:(l.map (·.1)).Nodup):((put l p w).map (·.1)).Nodup:=by rw[put_keys];split;exact h;rename_i n;refine qj.mpr #[h,Qe.mpr #[λz=>(nomatch z),Q1],λa x b hb z=>?_];rw[QI.mp hb]at z;exact n (z▸x)
theorem VU(nd:Hd r):fg r p q↔0<rm r p q:=by
 unfold fg rm;constructor;rintro⟨v,m,h⟩;rw[BQ (nd p) m];exact h;intro h;cases e:look (lk r p) q with|none=>rw[e]at h;exact Uz h (wm 0)|some v=>rw[e]at h;exact#[v,LG e,h]
def RY(r:Rm)(u v:Pt):Rm:=put (put r u (put (lk r u) v (rm r u v - 1))) v (put (lk (put r u (put (lk r u) v (rm r u v - 1))) v) u (rm (put r u (put (lk r u) v (rm r u v - 1))) v u+1))
theorem OV(h:u≠v)(p:Pt):lk (RY r u v) p=if v=p then put (lk r v) u (rm r v u+1) else if u=p then put (lk r u) v (rm r u v - 1) else lk r p:=by
 have e:rm (put r u (put (lk r u) v (rm r u v - 1))) v u=rm r v u:=by unfold rm;rw[nE,t3 h]
 unfold RY;rw[e,nE,nE,nE,t3 h]
theorem TU(h:u≠v)(p q:Pt):rm (RY r u v) p q=rm r p q+(if p=v/\q=u then 1 else 0) - (if p=u/\q=v then 1 else 0):=by show(look (lk (RY r u v) p) q).getD 0=_;rw[OV h];by_cases y:v=p;rw[t6 y,CD,t3 (c:=p=u/\q=v) (λz=>h (z.1.symm.trans y.symm))];by_cases x:u=q;rw[t6 x,t6 #[y.symm,x.symm],<- y,<- x];show rm r v u+1=rm r v u+1 - 0;omega;rw[t3 x,t3 (λz=>x z.2.symm),y];show rm r p q=rm r p q+0 - 0;omega;rw[t3 y,t3 (c:=p=v/\q=u) (λz=>y z.1.symm)];by_cases x:u=p;rw[t6 x,CD];by_cases k:v=q;rw[t6 k,t6 #[x.symm,k.symm],<- x,<- k];show rm r u v - 1=rm r u v+0 - 1;omega;rw[t3 k,t3 (λz=>k z.2.symm),x];show rm r p q=rm r p q+0 - 0;omega;rw[t3 x,t3 (λz=>x z.1.symm)];show rm r p q=rm r p q+0 - 0;omega
theorem tB:jI r p q↔O0 r p q:=by
 unfold jI O0;constructor;rintro⟨v,h⟩;exact#[v,LG h];rintro⟨v,h⟩;generalize lk r p=l at h;induction l with
 |nil=>exact(nomatch h)
 |cons e l x =>
  by_cases c:e.1=q;exact#[e.2,t6 c];rcases QM.mp h with z|z
  ·exact Uz (by rw[<- z]) c
  let#[w,y]:=x z;exact#[w,(show look (e::l) q=look l q from t3 c).trans y]
theorem Dd(h:u≠v)(a:jI r u v)(k:jI r v u):jI (RY r u v) p q↔jI r p q:=by unfold jI;rw[OV h];by_cases y:v=p;rw[t6 y,CD];by_cases x:u=q;rw[t6 x,<- y,<- x];exact#[λ_=>k,λ_=>#[_,rfl]];rw[t3 x,y];rw[t3 y];by_cases x:u=p;rw[t6 x,CD];by_cases z:v=q;rw[t6 z,<- x,<- z];exact#[λ_=>a,λ_=>#[_,rfl]];rw[t3 z,x];rw[t3 x]
theorem Ob(h:u≠v)(nd:Hd r):Hd (RY r u v):=by
 intro p;rw[OV h];split;exact DG (nd v);split
 ·exact DG (nd u)
 exact nd p
theorem FP(h:¬ jI r p q):rm r p q=0:=by
 unfold rm;cases e:look (lk r p) q with|none=>rfl|some v=>exact Uz #[v,e] h
def Os(p q:Pt)(v:Int):Prop:=(∃n,p=tO n/\q=fR n/\v=1)∨(∃n,p=UA/\q=tO n/\v=2)∨(∃a b,a≠b/\p=fR a/\q=tO b/\v=2)∨(¬ N0 p q/\v=0)
def Um(P:Pt->Pt->Int->Prop)(r:Rm):Prop:=∀p,∀e∈lk r p,P p e.1 e.2
theorem RZ{P:Pt->Pt->Int->Prop}(a:w.1≠w.2.1)(f:P w.1 w.2.1 w.2.2)(b:P w.2.1 w.1 0)(h:Um P r):Um P (ZB r w):=by intro p e x;rw[UI a]at x;by_cases k:w.2.1=p;rw[t6 k]at x;rcases sI x with z|z;rw[z,<- k];exact b;exact h p e z;rw[t3 k]at x;by_cases y:w.1=p;rw[t6 y]at x;rcases sI x with z|z;rw[z,<- y];exact f;exact h p e z;rw[t3 y]at x;exact h p e x
theorem jS(h:(r.map (·.1)).Nodup):((sdf r p).map (·.1)).Nodup:=by
 unfold sdf;cases e:look r p with|some v=>exact h|none=>show(List.map (λe:Pt×Inn=>e.1) (r++[(p,[])])).Nodup;rw[QR];refine qj.mpr #[h,Qe.mpr #[λz=>(nomatch z),Q1],λa y b hb z=>?_];have hb:b=p:=QI.mp hb;rw[z,hb]at y;let#[x,k,f]:=QY.mp y;have:=BQ h (show(p,x.2)∈r by rw[<- f];exact k);rw[e]at this;cases this
theorem E5(x:w.1≠w.2.1)(h:Hd r):Hd (ZB r w):=by
 intro p;rw[UI x];split;exact DG (h p);split
 ·exact DG (h p)
 exact h p
theorem uB:Key r p↔p∈r.map (·.1):=by
 constructor;rintro⟨l,e⟩;exact ZQ e;intro h;induction r with
 |nil=>exact(nomatch h)
 |cons e r x =>
  by_cases c:e.1=p;exact#[e.2,t6 c];rcases QM.mp h with z|z
  ·exact Uz z.symm c
  let#[l,hl]:=x z;exact#[l,(show look (e::r) p=look r p from t3 c).trans hl]
structure Tbl0(r:Rm):Prop where
 ndk:(r.map (·.1)).Nodup
 ndi:Hd r
 cap:Um Os r
 kind:∀p,Key r p->p=UA∨∃n,p=tO n∨p=fR n
 sym:∀p q,O0 r p q->O0 r q p/\Key r p
theorem SS(h:N0 p q):(p=UA∨∃n,p=tO n∨p=fR n)/\(q=UA∨∃n,q=tO n∨q=fR n):=by
 rcases h with⟨h,n,e⟩| ⟨n,h,e⟩| ⟨a,b,_,h,e⟩
 exact#[.inl h,.inr #[n,.inl e]];exact#[.inr #[n,.inl h],.inr #[n,.inr e]];exact#[.inr #[a,.inr h],.inr #[b,.inl e]]
theorem U9(k:N0 w.1 w.2.1)(f:Os w.1 w.2.1 w.2.2)(t:Tbl0 r):Tbl0 (ZB r w):=by
 have y:=jG k;refine#[?_,E5 y t.ndi,RZ y f (.inr (.inr (.inr #[uF k,rfl]))) t.cap,λp h=>?_,λp q h=>?_];unfold ZB;exact DG (DG (jS (jS t.ndk)));rcases yG.mp h with z|z|z
 ·rw[z];exact(SS k).1
 rw[z];exact(SS k).2;exact t.kind p z;rw[MI y,yG];rcases(MI y).mp h with z|⟨x,a⟩| ⟨x,a⟩
 let#[e,b]:=t.sym p q z;exact#[.inl e,.inr (.inr b)];exact#[.inr (.inr #[a,x]),.inl x];exact#[.inr (.inl #[a,x]),.inr (.inl x)]
theorem uX:∀{ws:List Wy}{r:Rm},(∀w∈ws,N0 w.1 w.2.1/\Os w.1 w.2.1 w.2.2)->Tbl0 r->Tbl0 (ws.foldl ZB r)
 |[],_,_,t=>t|w::ws,r,h,t=>uX (ws:=ws) (λw x=>h w (QD _ x)) (U9 (h w QF).1 (h w QF).2 t)
theorem bL{p:Pt}:∀{ws:List Wy}{r:Rm},Key (ws.foldl ZB r) p↔Key r p∨∃w∈ws,p=w.1∨p=w.2.1
 |[],r=>#[.inl,λz=>z.elim id λ#[_,m,_]=>(nomatch m)]
 |w::ws,r=>by
  rw[QAH,bL (ws:=ws),yG];constructor;rintro((z|z|z)|⟨x,m,z⟩)
  ·exact .inr #[w,QF,.inl z]
  exact .inr #[w,QF,.inr z];exact .inl z;exact .inr #[x,QD _ m,z];rintro(z|⟨x,m,z⟩)
  ·exact .inl (.inr (.inr z))
  rcases QM.mp m with rfl|m
  ·rcases z with z|z
   ·exact .inl (.inl z)
   exact .inl (.inr (.inl z))
  exact .inr #[x,m,z]
def U0(es:rC)(st:LS)(g:Str):List Wy:=st.flatMap (rR g)++es.flatMap (eU g)
theorem iE:yA es st g=(U0 es st g).foldl ZB yH:=by unfold yA U0;rw[QAi]
theorem oE{v:Int}:(p,q,v)∈U0 es st g↔(∃n∈st,n≠g/\((p,q,v)=(tO n,fR n,1)∨(p,q,v)=(UA,tO n,2)))∨(∃e∈es,(e.1≠g/\e.1≠e.2)/\((p,q,v)=(tO e.1,fR e.1,1)∨(p,q,v)=(tO e.2,fR e.2,1)∨(p,q,v)=(fR e.1,tO e.2,2))):=by
 unfold U0;rw[Qg,wu,wu];constructor;rintro(⟨n,m,h⟩| ⟨e,m,h⟩)
 ·exact .inl #[n,m,Kq.mp h]
 exact .inr #[e,m,Vq.mp h];rintro(⟨n,m,h⟩| ⟨e,m,h⟩)
 ·exact .inl #[n,m,Kq.mpr h]
 exact .inr #[e,m,Vq.mpr h]
theorem kC:∀w∈U0 es st g,N0 w.1 w.2.1/\Os w.1 w.2.1 w.2.2:=by
 rintro⟨p,q,v⟩ h;rcases oE.mp h with⟨n,_,_,e|e⟩| ⟨e,_,⟨_,x⟩,z|z|z⟩
 cases e;exact#[.inr (.inl #[n,rfl,rfl]),.inl #[n,rfl,rfl,rfl]];cases e;exact#[.inl #[rfl,n,rfl],.inr (.inl #[n,rfl,rfl,rfl])];cases z;exact#[.inr (.inl #[_,rfl,rfl]),.inl #[_,rfl,rfl,rfl]];cases z;exact#[.inr (.inl #[_,rfl,rfl]),.inl #[_,rfl,rfl,rfl]];cases z;exact#[.inr (.inr #[_,_,x,rfl,rfl]),.inr (.inr (.inl #[_,_,x,rfl,rfl,rfl]))]
theorem XI(p:Pt):lk yH p=[]:=by show(if UA=p then kv [] else kf).getD []=[];split<;>rfl
theorem fo:Tbl0 yH:=by refine#[Qe.mpr #[λz=>(nomatch z),Q1],λp=>?_,λp e x=>?_,λp h=>?_,λp q h=>?_];rw[XI];exact Q1;rw[XI]at x;exact(nomatch x);exact .inl (QI.mp (uB.mp h));let#[v,h]:=h;rw[XI]at h;exact(nomatch h)
end
section
variable{es:rC}{st:LS}{g:Str}
section
variable{p q:Pt}{n:Str}
theorem pD:Tbl0 (yA es st g):=by rw[iE];exact uX kC fo
theorem c7:∀w∈U0 es st g,YG w:=λw h=>by unfold U0 at h;rcases Qg.mp h with z|z;exact NG (f:=rR g) (λ_=>mL) st w z;exact NG (f:=eU g) (λ_=>rL) es w z
theorem fC:O0 (yA es st g) p q↔(∃v,(p,q,v)∈U0 es st g)∨∃v,(q,p,v)∈U0 es st g:=by
 rw[iE,dY c7];constructor;rintro(⟨v,h⟩| h)
 ·rw[XI]at h;exact(nomatch h)
 exact h;exact .inr
theorem ZO(h:Key (yA es st g) (tO n)):O0 (yA es st g) (tO n) (fR n):=by
 rw[iE]at h;rcases bL.mp h with z|⟨⟨p,q,v⟩,m,z⟩
 exact Uz (QI.mp (uB.mp z)).symm AB;refine fC.mpr (.inl #[1,oE.mpr ?_]);have z:tO n=p∨tO n=q:=z;rcases oE.mp m with⟨k,mk,x,e|e⟩| ⟨e,u,x,y|y|y⟩
 cases e;rcases z with z|z;rw[DB z];exact .inl #[k,mk,x,.inl rfl];exact Uz z NA;cases e;rcases z with z|z;exact Uz z.symm AB;rw[DB z];exact .inl #[k,mk,x,.inl rfl];cases y;rcases z with z|z;rw[DB z];exact .inr #[e,u,x,.inl rfl];exact Uz z NA;cases y;rcases z with z|z;rw[DB z];exact .inr #[e,u,x,.inr (.inl rfl)];exact Uz z NA;cases y;rcases z with z|z;exact Uz z NA;rw[DB z];exact .inr #[e,u,x,.inr (.inl rfl)]
theorem z0:Os p q (rm (yA es st g) p q)∨(¬ jI (yA es st g) p q/\rm (yA es st g) p q=0):=by by_cases h:jI (yA es st g) p q;let#[v,e]:=h;have:=pD (es:=es) (st:=st) (g:=g) |>.cap p (q,v) (LG e);unfold rm;rw[e];exact .inl this;exact .inr #[h,FP h]
theorem aw:0<=rm (yA es st g) p q:=by rcases z0 (es:=es) (st:=st) (g:=g) (p:=p) (q:=q) with(⟨_,_,_,e⟩| ⟨_,_,_,e⟩| ⟨_,_,_,_,_,e⟩| ⟨_,e⟩)|⟨_,e⟩<;>rw[e]<;>decide
theorem jJ(h:¬ N0 p q):rm (yA es st g) p q=0:=by
 rcases z0 (es:=es) (st:=st) (g:=g) (p:=p) (q:=q) with(⟨n,y,x,_⟩| ⟨n,y,x,_⟩| ⟨a,b,z,y,x,_⟩| ⟨_,e⟩)|⟨_,e⟩
 exact Uz (.inr (.inl #[n,y,x])) h;exact Uz (.inl #[y,n,x]) h;exact Uz (.inr (.inr #[a,b,z,y,x])) h;exact e;exact e
theorem Zl(h:q≠fR n):rm (yA es st g) (tO n) q=0:=jJ λl=>by
 rcases l with⟨e,_⟩| ⟨m,y,x⟩| ⟨a,b,_,e,_⟩
 exact AB e.symm;exact h (by rw[x,DB y]);exact NA e
theorem dr:rm (yA es st g) (tO n) (fR n)<=1:=by
 rcases z0 (es:=es) (st:=st) (g:=g) (p:=tO n) (q:=fR n) with(⟨_,_,_,e⟩| ⟨m,h,_,_⟩| ⟨a,b,x,h,y,_⟩| ⟨_,e⟩)|⟨_,e⟩
 rw[e];decide;exact Uz h.symm AB;exact Uz h NA;rw[e];decide;rw[e];decide
theorem Kl(h:Key (yA es st g) (tO n)):rm (yA es st g) (tO n) (fR n)=1:=by
 have a:=tB.mpr (ZO h);rcases z0 (es:=es) (st:=st) (g:=g) (p:=tO n) (q:=fR n) with(⟨_,_,_,e⟩| ⟨m,x,_,_⟩| ⟨a,b,y,x,u,_⟩| ⟨l,e⟩)|⟨z,e⟩
 exact e;exact Uz x.symm AB;exact Uz x NA;exact Uz (.inr (.inl #[n,rfl,rfl])) l;exact Uz a z
theorem Jw(h:p≠tO n):rm (yA es st g) p (fR n)=0:=jJ λl=>by
 rcases l with⟨_,m,e⟩| ⟨m,y,x⟩| ⟨a,b,_,_,e⟩
 exact NA e.symm;exact h (by rw[y,UH x]);exact NA e.symm
theorem Yw:rm (yA es st g) p UA=0:=jJ λl=>by
 rcases l with⟨_,m,e⟩| ⟨m,x,h⟩| ⟨a,b,_,_,e⟩
 exact AB e;exact ME h;exact AB e
theorem br(h:p≠fR n):rm (yA es st g) p (tO n)=0∨rm (yA es st g) p (tO n)=2:=by
 rcases z0 (es:=es) (st:=st) (g:=g) (p:=p) (q:=tO n) with(⟨_,_,e,_⟩| ⟨m,_,_,e⟩| ⟨a,b,_,_,_,e⟩| ⟨l,e⟩)|⟨_,e⟩
 exact Uz e NA;exact .inr e;exact .inr e;exact .inl e;exact .inl e
theorem Yl{v:Int}(h:(p,tO n,v)∈U0 es st g):rm (yA es st g) p (tO n)=2:=by
 have a:jI (yA es st g) p (tO n):=tB.mpr (fC.mpr (.inl #[v,h]));have l:N0 p (tO n):=(kC _ h).1;rcases z0 (es:=es) (st:=st) (g:=g) (p:=p) (q:=tO n) with(⟨_,_,e,_⟩| ⟨m,_,_,e⟩| ⟨a,b,_,_,_,e⟩| ⟨x,e⟩)|⟨z,e⟩
 exact Uz e NA;exact e;exact e;exact Uz l x;exact Uz a z
end
end
section
variable{es:rC}{st:LS}{g:Str}
def vs0(es:rC)(st:LS)(g:Str):List Pt:=(yA es st g).map (·.1)
def fl(es:rC)(st:LS)(g:Str)(r:Rm)(p q:Pt):Int:=rm (yA es st g) p q - rm r p q
def out(es:rC)(st:LS)(g:Str)(r:Rm)(p:Pt):Int:=sm (vs0 es st g) (fl es st g r p)
structure Base(es:rC)(st:LS)(g:Str)(r:Rm):Prop where
 ndi:Hd r
 adj:∀p q,jI r p q↔jI (yA es st g) p q
 keys:r.map (·.1)=vs0 es st g
 nn:∀p q,0<=rm r p q
 anti:∀p q,fl es st g r p q=- fl es st g r q p
structure Flow(es:rC)(st:LS)(g:Str)(r:Rm):Prop extends Base es st g r where
 cons:∀x,x≠UA->x≠tO g->out es st g r x=0
theorem GF:(vs0 es st g).Nodup:=pD.ndk
theorem Zf:Flow es st g (yA es st g):=by
 have e:∀p q,fl es st g (yA es st g) p q=0:=λp q=>by unfold fl;omega
 refine#[#[pD.ndi,λp q=>wW,rfl,λp q=>aw,λp q=>by rw[e,e];rfl],λx _ _=>?_];unfold out;rw[jB (g:=λ_=>0) λq _=>e x q];exact CG _
theorem BB{p q:Pt}(h:jI (yA es st g) p q):jI (yA es st g) q p:=tB.mpr (pD.sym p q (tB.mp h)).1
theorem sB{p q:Pt}(h:jI (yA es st g) p q):p∈vs0 es st g:=uB.mp (pD.sym p q (tB.mp h)).2
theorem gR{p q:Pt}(h:jI (yA es st g) p q):p≠q:=by
 rcases fC.mp (tB.mp h) with⟨v,m⟩| ⟨v,m⟩
 exact jG (kC _ m).1;exact(jG (kC _ m).1).symm
section
variable{r:Rm}
theorem Base.dom(b:Base es st g r):u9 r:=λp q h=>by have a:=(b.adj p q).mp (tB.mpr h);rw[uB,b.keys];exact sB (BB a)
theorem Base.bg(b:Base es st g r):Key r UA:=by rw[uB,b.keys];refine uB.mp ?_;show Key (yA es st g) UA;rw[iE];exact bL.mpr (.inl #[[],t6 rfl])
theorem Base.len(b:Base es st g r):r.9=(yA es st g).length:=by have:=ak wI b.keys;unfold vs0 at this;rw[QE,QE]at this;exact this
theorem Base.adjw(b:Base es st g r){p q:Pt}(h:0<rm r p q):jI (yA es st g) p q:=(b.adj p q).mp (by
 unfold rm at h;cases e:look (lk r p) q with|none=>rw[e]at h;exact Uz h (wm 0)|some v=>exact#[v,e])
theorem aQ{u:Pt}{l:Inn}(h:u∈r.map (·.1)):(put r u l).map (·.1)=r.map (·.1):=by rw[put_keys,t6 h]
theorem Base.pushed(b:Base es st g r){u v:Pt}(h:0<rm r u v):Base es st g (RY r u v):=by
 have a:=b.adjw h;have y:=gR a;have e:=TU (r:=r) y;refine#[Ob y b.ndi,λp q=>?_,?_,λp q=>?_,λp q=>?_];rw[Dd y ((b.adj u v).mpr a) ((b.adj v u).mpr (BB a))];exact b.adj p q;have k:u∈r.map (·.1):=by rw[b.keys];exact sB a
 have f:v∈r.map (·.1):=by rw[b.keys];exact sB (BB a)
 unfold RY;rw[aQ (by rw[aQ k];exact f),aQ k];exact b.keys;rw[e];have:=b.nn p q;by_cases c:p=u/\q=v;rw[t6 c,c.1,c.2];split<;>omega;rw[t3 c];split<;>omega;unfold fl;rw[e,e];have:=b.anti p q;unfold fl at this;by_cases x:p=v/\q=u;rw[t6 x,t6 (c:=q=u/\p=v) #[x.2,x.1],t3 (c:=p=u/\q=v) (λz=>y (z.1.symm.trans x.1)),t3 (c:=q=v/\p=u) (λz=>y (z.2.symm.trans x.1))];omega;rw[t3 x,t3 (c:=q=u/\p=v) (λz=>x #[z.2,z.1])];by_cases w:p=u/\q=v;rw[t6 w,t6 (c:=q=v/\p=u) #[w.2,w.1]];omega;rw[t3 w,t3 (c:=q=v/\p=u) (λz=>w #[z.2,z.1])];omega
theorem JX(b:Base es st g r){u v:Pt}(h:0<rm r u v)(x:Pt):out es st g (RY r u v) x=out es st g r x+(if x=u then 1 else 0) - (if x=v then 1 else 0):=by
 have a:=b.adjw h;have f:=gR a;unfold out;have e:∀q,fl es st g (RY r u v) x q=fl es st g r x q+((if q=v then(if x=u then 1 else 0) else 0)+-(if q=u then(if x=v then 1 else 0) else 0)):=λq=>by unfold fl;rw[TU f];by_cases k:x=u;have w:x≠v:=λz=>f (k.symm.trans z);rw[t3 (c:=x=v/\q=u) (λz=>w z.1),t6 k,t3 w];by_cases y:q=v;rw[t6 (c:=x=u/\q=v) #[k,y],t6 y];split<;>omega;rw[t3 (c:=x=u/\q=v) (λz=>y z.2),t3 y];split<;>omega;rw[t3 (c:=x=u/\q=v) (λz=>k z.1),t3 k];by_cases w:x=v;rw[t6 w];by_cases y:q=u;rw[t6 (c:=x=v/\q=u) #[w,y],t6 y];split<;>omega;rw[t3 (c:=x=v/\q=u) (λz=>y z.2),t3 y];split<;>omega;rw[t3 (c:=x=v/\q=u) (λz=>w z.1),t3 w];split<;>split<;>omega
 rw[jB λq _=>e q,tH,tH,aJ,eJ GF (sB (BB a)),eJ GF (sB a)];omega
end
section
variable{r y:Rm}{ks:List Pt}
theorem CF.find{vs:List D}(h:CF r ks vs){q:Pt}(m:q∈ks)(b:q≠UA):∃z u p k v,CF r z u/\p∈z/\fg r p q/\q∉z/\ks=z++q::k/\vs=u++pr p::v:=by
 induction h with|bg=>exact Uz (QI.mp m) b|@add ks vs p x c i w n f=>by_cases e:q∈ks;let#[z,u,a,k,v,Z,Y,X,s,o,l]:=f e;exact#[z,u,a,k++[x],v++[pr p],Z,Y,X,s,by rw[o,Q2];rfl,by rw[l,Q2];rfl];have j:q=x:=QI.mp ((Qg.mp m).resolve_left e);subst j;exact#[ks,vs,p,[],[],c,i,w,n,rfl,rfl]
structure LC(es:rC)(st:LS)(g:Str)(y r:Rm)(here:Pt)(ks:List Pt):Prop extends Base es st g r where
 cons:∀x,x≠UA->x≠tO g->out es st g r x=if x=here then 1 else 0
 val:out es st g r UA=out es st g y UA+if here=UA then 1 else 0
 fresh:∀p,∀q∈ks,rm y p q<=rm r p q
theorem Y6(f:Flow es st g y)(ks:List Pt):LC es st g y y (tO g) ks:=by refine#[f.toBase,λx u h=>?_,?_,λp q _=>QCc _];rw[t3 h];exact f.cons x u h;rw[t3 (λz=>AB z.symm)];omega
theorem vc{h p:Pt}{u:List Pt}(nd:Hd y)(l:LC es st g y r h ks)(i:h∈ks)(hb:h≠UA)(w:fg y p h)(f:h∉u)(e:∀q∈u,q∈ks):0<rm r p h/\LC es st g y (RY r p h) p u:=by have v:0<rm r p h:=Int.lt_of_lt_of_le ((VU nd).mp w) (l.fresh p h i);have b:=gR (l.adjw v);refine#[v,l.toBase.pushed v,λx a j=>?_,?_,λx q k=>?_];rw[JX l.toBase v,l.cons x a j];split<;>split<;>omega;rw[JX l.toBase v,l.val,t3 hb,t3 (c:=UA=h) (λz=>hb z.symm)];by_cases c:p=UA;rw[t6 c,t6 c.symm];omega;rw[t3 c,t3 (λz=>c z.symm)];omega;have a:=l.fresh x q (e q k);rw[TU b,t3 (c:=x=p/\q=h) (λz=>f (z.2▸k))];split<;>omega
theorem jk(l:LC es st g y r UA ks):Flow es st g r/\out es st g r UA=out es st g y UA+1:=by refine#[#[l.toBase,λx h z=>?_],?_];rw[l.cons x h z,t3 h];rw[l.val,t6 rfl]
end
end
section
variable{es:rC}{st:LS}{g:Str}{r:Rm}
section
variable{p q y:Pt}{n a:Str}{ks:List Pt}
theorem cL(b:Base es st g r)(h:rm (yA es st g) q p=0):fl es st g r p q=rm r q p:=by have:=b.anti p q;unfold fl at this ⊢;omega
def LU(r:Rm)(n:Str):Int:=rm r (fR n) (tO n)
theorem HU(b:Base es st g r)(n:Str):fl es st g r (tO n) (fR n)=LU r n:=cL b (jJ λl=>uF (.inr (.inl #[n,rfl,rfl])) l)
theorem BL(b:Base es st g r)(n:Str):LU r n<=1:=by rw[<- HU b];have x:=dr (es:=es) (st:=st) (g:=g) (n:=n);have h:=b.nn (tO n) (fR n);unfold fl;omega
theorem P3(b:Base es st g r)(h:p∉vs0 es st g∨q∉vs0 es st g):rm r p q=0:=by refine FP λa=>?_;have a:=(b.adj p q).mp a;rcases h with h|h;exact h (sB a);exact h (sB (BB a))
theorem oe(l:List Pt)(nd:l.Nodup)(u:Pt)(k:Int)(h:u∉l->k=0):sm l (λx=>if x=u then k else 0)=k:=by by_cases m:u∈l;exact eJ nd m;rw[VP m,h m]
def inn(r:Rm)(n:Str)(y:Pt):Int:=if y=fR n then 0 else rm r (tO n) y
theorem UQ(f:Flow es st g r)(h:n≠g):sm (vs0 es st g) (inn r n)=LU r n:=by
 have c:=f.cons (tO n) (λz=>AB z.symm) (λz=>h (DB z));unfold out at c;have e:∀y,fl es st g r (tO n) y=(if y=fR n then LU r n else 0)+- inn r n y:=λy=>by unfold inn;by_cases e:y=fR n;rw[t6 e,t6 e,e,HU f.toBase];omega;rw[t3 e,t3 e];unfold fl;rw[Zl e];omega
 rw[jB λy _=>e y,tH,aJ,oe _ GF (fR n) (LU r n) (λz=>P3 f.toBase (.inl z))]at c;omega
theorem XQ(b:Base es st g r)(n:Str)(y:Pt):0<=inn r n y:=by unfold inn;split;decide;exact b.nn _ _
def Pa(r:Rm)(n:Str)(y:Pt):Int:=if y=tO n then 0 else rm r y (fR n)
theorem iX(f:Flow es st g r)(n:Str):sm (vs0 es st g) (Pa r n)=LU r n:=by
 have c:=f.cons (fR n) (λz=>ME z.symm) (λz=>NA z.symm);unfold out at c;have e:∀y,fl es st g r (fR n) y=- (if y=tO n then LU r n else 0)+Pa r n y:=λy=>by unfold Pa;by_cases e:y=tO n;rw[t6 e,t6 e,e];have:=f.anti (fR n) (tO n);rw[HU f.toBase]at this;omega;rw[t3 e,t3 e,cL f.toBase (Jw e)];omega
 rw[jB λy _=>e y,tH,aJ,oe _ GF (tO n) (LU r n) (λz=>P3 f.toBase (.inr z))]at c;omega
theorem yj(b:Base es st g r)(n:Str)(y:Pt):0<=Pa r n y:=by unfold Pa;split;decide;exact b.nn _ _
def YU(r:Rm)(n:Str):Prop:=0<rm r (tO n) UA
def k9(r:Rm)(a b:Str):Prop:=a≠b/\0<rm r (tO b) (fR a)
theorem DJ(b:Base es st g r)(h:YU r n):n∈st/\n≠g:=by
 rcases fC.mp (tB.mp (b.adjw h)) with⟨v,m⟩| ⟨v,m⟩
 exact Uz (kC _ m).1 λl=>by
  rcases l with⟨e,_⟩| ⟨_,_,e⟩| ⟨_,_,_,e,_⟩
  exact AB e.symm;exact ME e;exact NA e
 rcases oE.mp m with⟨k,mk,x,e|e⟩| ⟨e,_,_,y|y|y⟩
 ·exact Uz (ak qy e) AB
 have:=ak (λw:Wy=>w.2.1) e;rw[DB this];exact#[mk,x];exact Uz (ak qy y) AB;exact Uz (ak qy y) AB;exact Uz (ak qy y) ME
theorem Bj(b:Base es st g r){c:Str}(h:k9 r a c):(a,c)∈es/\a≠g:=by
 rcases fC.mp (tB.mp (b.adjw h.2)) with⟨v,m⟩| ⟨v,m⟩
 exact Uz (kC _ m).1 λl=>by
  rcases l with⟨e,_⟩| ⟨k,z,x⟩| ⟨_,_,_,e,_⟩
  exact AB e.symm;exact h.1 ((UH x).trans (DB z).symm);exact NA e
 rcases oE.mp m with⟨k,mk,u,e|e⟩| ⟨e,f,u,y|y|y⟩
 ·exact Uz (ak qy e).symm NA
 exact Uz (ak qy e).symm ME;exact Uz (ak qy y).symm NA;exact Uz (ak qy y).symm NA;have z:a=e.1:=UH (ak qy y);have x:c=e.2:=DB (ak (λw:Wy=>w.2.1) y);rw[z,x];exact#[f,u.1]
theorem vW:inn r n UA=rm r (tO n) UA:=by unfold inn;exact t3 ME
theorem uQ(h:a≠n):inn r n (fR a)=rm r (tO n) (fR a):=by unfold inn;exact t3 λz=>h (UH z)
theorem Hb(h:a≠n):Pa r a (tO n)=rm r (tO n) (fR a):=by unfold Pa;exact t3 λz=>h (DB z).symm
theorem iI(b:Base es st g r)(h:0<rm r p q):p∈vs0 es st g/\q∈vs0 es st g:=#[sB (b.adjw h),sB (BB (b.adjw h))]
theorem zY(f:Flow es st g r)(n:Str)(h:n≠g):rm r (tO n) UA<=1:=by by_cases c:0<rm r (tO n) UA;have z:=sH (λx _=>XQ f.toBase n x) (iI f.toBase c).2;rw[UQ f h,vW]at z;exact QAT z (BL f.toBase n);omega
theorem Fc(f:Flow es st g r)(h:YU r n):LU r n=1:=by have ng:=(DJ f.toBase h).2;have z:=sH (λx _=>XQ f.toBase n x) (iI f.toBase h).2;rw[UQ f ng,vW]at z;have:=BL f.toBase n;unfold YU at h;omega
theorem Gb(f:Flow es st g r)(h:k9 r a n)(ng:n≠g):LU r n=1:=by have z:=sH (λx _=>XQ f.toBase n x) (iI f.toBase h.2).2;rw[UQ f ng,uQ h.1]at z;have:=BL f.toBase n;have:=h.2;omega
theorem V2(f:Flow es st g r)(ng:n≠g){x:Pt}(u:0<inn r n x)(h:0<inn r n y):x=y:=by
 have w:x∈vs0 es st g:=by unfold inn at u;split at u;exact Uz u (wm 0);exact(iI f.toBase u).2
 have v:y∈vs0 es st g:=by unfold inn at h;split at h;exact Uz h (wm 0);exact(iI f.toBase h).2
 by_cases e:x=y;exact e;have k:=d3 (λz _=>XQ f.toBase n z) w v e;rw[UQ f ng]at k;have:=BL f.toBase n;omega
theorem XX(f:Flow es st g r){b:Str}(ng:n≠g)(x:k9 r a n)(h:k9 r b n):a=b :=
 UH (V2 f ng (by rw[uQ x.1];exact x.2) (by rw[uQ h.1];exact h.2))
theorem NQ(f:Flow es st g r)(x:YU r n)(h:k9 r a n):False :=
 ME (V2 f (DJ f.toBase x).2 (by rw[vW];exact x) (by rw[uQ h.1];exact h.2))
theorem L5(f:Flow es st g r)(h:LU r n=1):∃y,y≠tO n/\0<rm r y (fR n):=by let#[y,_,x]:=J3 (f:=Pa r n) (l:=vs0 es st g) (by rw[iX f,h];decide);unfold Pa at x;split at x;exact Uz x (wm 0);rename_i ne;exact#[y,ne,x]
theorem Se(b:Base es st g r)(h:jI r y (fR n)):∃m,y=tO m:=by
 rcases fC.mp (tB.mp ((b.adj _ _).mp h)) with⟨v,m⟩| ⟨v,m⟩
 rcases(kC _ m).1 with⟨_,k,e⟩| ⟨k,e,_⟩| ⟨_,k,_,_,e⟩
 ·exact Uz e.symm NA
 exact#[k,e];exact Uz e.symm NA;rcases(kC _ m).1 with⟨e,_⟩| ⟨k,e,_⟩| ⟨_,k,_,_,e⟩
 ·exact Uz e.symm ME
 exact Uz e.symm NA;exact#[k,e]
theorem j6(b:Base es st g r)(h:jI r y UA):∃m,y=tO m:=by
 rcases fC.mp (tB.mp ((b.adj _ _).mp h)) with⟨v,m⟩| ⟨v,m⟩
 rcases(kC _ m).1 with⟨_,k,e⟩| ⟨k,_,e⟩| ⟨_,k,_,_,e⟩
 ·exact Uz e AB
 exact Uz e ME;exact Uz e AB;rcases(kC _ m).1 with⟨_,k,e⟩| ⟨k,e,_⟩| ⟨_,k,_,e,_⟩
 ·exact#[k,e]
 exact Uz e AB;exact Uz e ME
theorem Uj(f:Flow es st g r)(h:LU r n=1):∃m,k9 r n m:=by let#[y,z,x]:=L5 f h;let#[m,rfl]:=Se f.toBase ((f.adj _ _).mpr (f.toBase.adjw x));exact#[m,λe=>z (by rw[e]),x]
theorem uO(f:Flow es st g r){v:Int}(m:(p,tO n,v)∈U0 es st g):0<rm r p (tO n):=by
 have c:=Yl m;have l:=(kC _ m).1;have h:fl es st g r p (tO n)=rm r (tO n) p:=cL f.toBase (jJ (uF l));unfold fl at h;rw[c]at h;have key:rm r (tO n) p<=1:=by
  rcases oE.mp m with⟨k,mk,z,e|e⟩| ⟨e,o,z,y|y|y⟩
  exact Uz (ak (λw:Wy=>w.2.1) e) NA;have b:p=UA:=ak qy e;have u:n=k:=DB (ak (λw:Wy=>w.2.1) e);rw[b];exact zY f n (by rw[u];exact z);exact Uz (ak (λw:Wy=>w.2.1) y) NA;exact Uz (ak (λw:Wy=>w.2.1) y) NA;have b:p=fR e.1:=ak qy y;have u:n=e.2:=DB (ak (λw:Wy=>w.2.1) y);rw[b];by_cases c:0<rm r (tO n) (fR e.1);have j:e.1≠n:=by rw[u];exact z.2
  have i:=sH (λx _=>yj f.toBase e.1 x) (iI f.toBase c).1;rw[iX f,Hb j]at i;exact QAT i (BL f.toBase _);omega
 omega
theorem yS{l m:List Pt}(v:l.Nodup)(u:m.Nodup)(h:∀x,x∈l↔x∈m):l.9=m.length:=by have a:=HG v λx z=>(h x).mp z;have b:=HG u λx z=>(h x).mpr z;omega
noncomputable def IG(ks:List Pt)(x:Pt):Bool:=decide (x.2="to")&&!decide (fR x.1∈ks)
theorem dE{x:Pt}:IG ks x=kd↔∃n,x=tO n/\fR n∉ks:=by unfold IG;rw[Qb,Q6,ax,decide_eq_false_iff_not];constructor;rintro⟨u,z⟩;exact#[x.1,QCU rfl u,z];rintro⟨n,rfl,h⟩;exact#[rfl,h]
theorem UP(p:Pt->Bool):∀(l:List Pt),sm l (λx=>if p x=kd then 1 else 0)=(l.filter p).9
 |[]=>rfl|x::l=>by show(if p x=kd then 1 else 0)+sm l _=_;rw[UP p l,WN];by_cases c:p x=kd;rw[t6 c,t6 c,QL];omega;rw[t3 c,t3 c];omega
theorem KT(f:Flow es st g r)(nd:ks.Nodup)(hk:∀p,p∈ks↔Rch r p)(M:tO g∉ks):out es st g r UA=(ks.filter (IG ks)).length:=by
 have sub:∀p∈ks,p∈vs0 es st g:=λp L=>by have:=uB.mp (nI f.toBase.dom f.toBase.bg ((hk p).mp L));rw[f.keys]at this;exact this
 have o:∀x∈ks,∀y,y∉ks->rm r x y=0:=λx w y u=>by have:=f.nn x y;by_cases c:0<rm r x y;exact Uz ((hk y).mpr (.go ((hk x).mp w) ((VU f.ndi).mpr c))) u;omega
 have I:sm ((vs0 es st g).filter λx=>decide (x∈ks)) (λx=>out es st g r x)=out es st g r UA:=by
  have hb:UA∈ks:=(hk UA).mpr .bg;have e:∀x∈(vs0 es st g).filter (λx=>decide (x∈ks)),out es st g r x=if x=UA then out es st g r UA else 0:=λx w=>by by_cases c:x=UA;rw[t6 c,c];rw[t3 c];exact f.cons x c λz=>M (z▸aj (QZ.mp w).2)
  rw[jB e];exact eJ (GF.sublist qB) (QZ.mpr #[sub _ hb,dT hb])
 have G:∀x∈(vs0 es st g).filter (λx=>decide (x∈ks)),sm ((vs0 es st g).filter λy=>!decide (y∈ks)) (fl es st g r x)=if IG ks x=kd then 1 else 0:=λx w=>by
  have W:x∈ks:=aj (QZ.mp w).2;have Z:=(QZ.mp w).1;have k:∀y∈(vs0 es st g).filter (λy=>!decide (y∈ks)),y∉ks/\fl es st g r x y=rm (yA es st g) x y:=λy u=>by have:=(QZ.mp u).2;rw[Q6,decide_eq_false_iff_not]at this;refine#[this,?_];unfold fl;rw[o x W y this];omega
  have B:∀y∈(vs0 es st g).filter (λy=>!decide (y∈ks)),∀n,y=tO n->fl es st g r x y=0:=λy u n e=>by
   let#[C,O]:=k y u;rw[O,e];by_cases A:x=fR n;rw[A];exact jJ λl=>uF (.inr (.inl #[n,rfl,rfl])) l;rcases br (es:=es) (st:=st) (g:=g) A with z|z
   ·exact z
   have a:jI (yA es st g) x (tO n):=by refine wX λJ=>?_;rw[FP J]at z;exact Uz z (by decide)
   rcases fC.mp (tB.mp a) with⟨v,m⟩| ⟨v,m⟩
   have:=uO f m;rw[o x W (tO n) (e▸C)]at this;exact Uz this (wm 0);rw[jJ (uF (kC _ m).1)]
  rcases pD.kind x (uB.mpr Z) with e|⟨n,e|e⟩
  have i:¬ IG ks x=true:=λz=>by let#[n,j,_]:=dE.mp z;exact AB (e.symm.trans j)
  rw[t3 i];rw[jB (g:=λ_=>0),CG];intro y u;by_cases t:∃n,y=tO n;let#[n,t]:=t;exact B y u n t;rw[(k y u).2,e];exact jJ λl=>by
   rcases l with⟨_,z⟩| ⟨n,z,_⟩| ⟨_,b,_,_,z⟩
   exact t z;exact AB z;exact t #[b,z]
  by_cases X:fR n∈ks
  ·have i:¬ IG ks x=true:=λz=>by
    let#[m,j,h]:=dE.mp z;rw[<- DB (e.symm.trans j)]at h;exact h X
   rw[t3 i,jB (g:=λ_=>0),CG];intro y u;rw[(k y u).2,e];exact Zl λz=>(k y u).1 (z▸X)
  rw[t6 (dE.mpr #[n,e,X])];have K:Key (yA es st g) (tO n):=by rw[<- e];exact uB.mpr Z
  have N:fR n∈vs0 es st g:=sB (BB (tB.mpr (ZO K)));rw[jB (g:=λy=>if y=fR n then 1 else 0)];exact eJ (GF.sublist qB) (QZ.mpr #[N,by rw[dF X];rfl]);intro y u;rw[(k y u).2,e];by_cases c:y=fR n;rw[t6 c,c,Kl K];rw[t3 c,Zl c];have i:¬ IG ks x=true:=λz=>by let#[m,j,_]:=dE.mp z;exact NA (j.symm.trans e)
  rw[t3 i,jB (g:=λ_=>0),CG];intro y u;by_cases t:∃n,y=tO n;let#[n,t]:=t;exact B y u n t;rw[(k y u).2,e];exact jJ λl=>by
   rcases l with⟨z,_⟩| ⟨n,z,_⟩| ⟨_,b,_,_,z⟩
   exact ME z.symm;exact NA z.symm;exact t #[b,z]
 have F:∀x,out es st g r x=sm ((vs0 es st g).filter λy=>decide (y∈ks)) (fl es st g r x)+sm ((vs0 es st g).filter λy=>!decide (y∈ks)) (fl es st g r x):=λx=>SR _ _;have E:sm ((vs0 es st g).filter λx=>decide (x∈ks)) (λx=>out es st g r x)=sm ((vs0 es st g).filter λx=>decide (x∈ks)) (λx=>if IG ks x=kd then 1 else 0):=by rw[jB λx _=>F x,tH,N9 _ λx _ y _=>f.anti x y,jB G];omega
 rw[<- I,E,UP];have:(((vs0 es st g).filter λx=>decide (x∈ks)).filter (IG ks)).9=(ks.filter (IG ks)).length:=by refine yS ((GF.sublist qB).sublist qB) (nd.sublist qB) λx=>?_;rw[QZ,QZ,QZ,ax];exact#[λ#[#[_,s],Y]=>#[s,Y],λ#[s,Y]=>#[#[sub x s,s],Y]]
 rw[this]
theorem Gc(f:Flow es st g r):out es st g r UA=(((lk r UA).map (·.1)).filter λy=>decide (0<rm r y UA)).length:=by
 have e:∀y∈vs0 es st g,fl es st g r UA y=if decide (0<rm r y UA)=kd then 1 else 0:=λy x=>by rw[cL f.toBase Yw];have z:=f.nn y UA;by_cases c:0<rm r y UA;rw[dT c,t6 rfl];let#[n,e]:=j6 f.toBase ((f.adj _ _).mpr (f.toBase.adjw c));rw[e]at c ⊢;have:=zY f n (DJ f.toBase c).2;omega;rw[dF c,t3 (by decide)];omega
 unfold out;rw[jB e,UP];have:((vs0 es st g).filter λy=>decide (0<rm r y UA)).9=(((lk r UA).map (·.1)).filter λy=>decide (0<rm r y UA)).length:=by refine yS (GF.sublist qB) ((f.ndi UA).sublist qB) λy=>?_;rw[QZ,QZ,ax];refine#[λ#[_,h]=>#[?_,h],λ#[_,h]=>#[(iI f.toBase h).1,h]];let#[v,hv]:=(f.adj UA y).mpr (BB (f.toBase.adjw h));exact QY.mpr #[(y,v),LG hv,rfl]
 rw[this]
theorem Sc(f:Flow es st g r)(hk:∀p,p∈ks↔Rch r p)(o:tO g∉ks){cut:LS}(hc:∀n,tO n∈ks->fR n∉ks->n∈cut):¬ ∃a,(a,g)∈es/\Led es st g cut a:=by
 have u:∀p∈ks,∀n v,(p,tO n,v)∈U0 es st g->tO n∈ks:=λp j n v m=>(hk _).mpr (.go ((hk _).mp j) ((VU f.ndi).mpr (uO f m)));have key:∀n,Led es st g cut n->fR n∈ks:=λn h=>by
  induction h with|@st s h k=>let#[w,x]:=FE.mp k;have t:=u UA ((hk _).mpr .bg) s 2 (oE.mpr (.inl #[s,h,w,.inr rfl]));exact wX λz=>x (hc s t z)|@ed a b l m k i=>let#[w,x]:=FE.mp k;by_cases e:a=b;rw[<- e];exact i;have t:=u (fR a) i b 2 (oE.mpr (.inr #[(a,b),m,#[(XM l).1,e],.inr (.inr rfl)]));exact wX λz=>x (hc b t z)
 rintro⟨a,m,l⟩;exact o (u (fR a) (key a l) g 2 (oE.mpr (.inr #[(a,g),m,#[(XM l).1,(XM l).1],.inr (.inr rfl)])))
end
end
inductive Run(r:Rm)(g f:Str):LS->Str->Prop
 |nil:Run r g f [] f
 |go {c:LS}{n m:Str}:Run r g f c n->n≠g->k9 r n m->Run r g f (c++[n]) m
inductive Chn(es:rC)(st:LS)(g:Str):LS->Str->Prop
 |st {f:Str}:f∈st->f≠g->Chn es st g [] f
 |go {c:LS}{n m:Str}:Chn es st g c n->n≠g->(n,m)∈es->Chn es st g (c++[n]) m
section
variable{es:rC}{st:LS}{g:Str}{r:Rm}
section
variable{s n:Str}{c:LS}
theorem Run.chn(f:Flow es st g r)(x:YU r s)(h:Run r g s c n):Chn es st g c n:=by
 induction h with|nil=>exact .st (DJ f.toBase x).1 (DJ f.toBase x).2|go _ ng y z=>exact .go z ng (Bj f.toBase y).1
theorem Run.thr1(f:Flow es st g r)(y:YU r s)(h:Run r g s c n)(ng:n≠g):LU r n=1:=by
 cases h with|nil=>exact Fc f y|go _ _ x=>exact Gb f x ng
theorem Run.pred(h:Run r g s c n):∀x,x∈c∨x=n->x=s∨∃y∈c,k9 r y x:=by
 induction h with
 |nil=>intro x u;exact u.elim (λz=>(nomatch z)) .inl
 |@go c n m _ _ v w =>
  intro x u;rcases u with u|rfl;have:x∈c∨x=n:=(Qg.mp u).imp_right QI.mp;rcases w x this with z|⟨y,k,z⟩
  exact .inl z;exact .inr #[y,Qp _ k,z];exact .inr #[n,Qa _ QF,v]
theorem Run.ng(h:Run r g s c n):∀x∈c,x≠g:=by
 induction h with
 |nil=>exact λx y=>(nomatch y)
 |go _ k _ u=>intro x y;rcases Qg.mp y with z|z;exact u x z;rw[QI.mp z];exact k
theorem Run.nd(f:Flow es st g r)(w:YU r s)(h:Run r g s c n):c.Nodup/\n∉c:=by
 induction h with
 |nil=>exact#[Q1,λz=>(nomatch z)]
 |@go c n m h k x u =>
  have nd:(c++[n]).Nodup:=qj.mpr #[u.1,Qe.mpr #[λz=>(nomatch z),Q1],λa i b hb z=>by rw[QI.mp hb]at z;exact u.2 (z▸i)];refine#[nd,λz=>?_];rcases Qg.mp z with z|z;rcases h.pred m (.inl z) with e|⟨y,v,e⟩
  ·rw[e]at x;exact NQ f w x
  rw[XX f (h.ng m z) e x]at v;exact u.2 v;exact x.1 (QI.mp z).symm
theorem Run.apart(f:Flow es st g r){s':Str}(q:YU r s)(b:YU r s'){l:LS}{p:Str}(h:Run r g s c n)(h':Run r g s' l p):∀x∈c,x∈l->s=s':=by
 induction h with
 |nil=>exact λx a=>(nomatch a)
 |@go c n m h k X i =>
  intro x a v;rcases Qg.mp a with z|z;exact i x z v;have z:=QI.mp z;subst z;rcases h.pred x (.inr rfl) with e|⟨y,j,e⟩<;>rcases h'.pred x (.inl v) with u|⟨o,w,u⟩
  exact e.symm.trans u;rw[e]at u;exact(NQ f q u).elim;rw[u]at e;exact(NQ f b e).elim;rw[XX f k e u]at j;exact i o j w
end
end
section
variable{es:rC}{st:LS}{g:Str}
theorem Ec{cut:LS}{c:LS}{n:Str}(h:Chn es st g c n)(hc:∀x∈c,x∉cut)(ng:n≠g)(y:n∉cut):Led es st g cut n:=by
 induction h with|st h _=>exact .st h (FE.mpr #[ng,y])|@go c n m _ k e z=>exact .ed (z (λx u=>hc x (Qp _ u)) k (hc n (Qa _ QF))) e (FE.mpr #[ng,y])
theorem T7{cut:LS}{c:LS}(h:Chn es st g c g)(hl:¬ ∃a,(a,g)∈es/\Led es st g cut a):∃x∈c,x∈cut:=by
 refine wX λz=>?_;have hc:∀x∈c,x∉cut:=λx y m=>z #[x,y,m];cases h with|st _ e=>exact e rfl|@go c n _ h k e=>exact hl #[n,e,Ec h (λx y=>hc x (Qp _ y)) k (hc n (Qa _ QF))]
def pJ:List (LS)->Prop
 |[]=>True|c::cs=>(∀d∈cs,∀x∈c,x∉d)/\pJ cs
theorem Xe{cut:LS}:∀{cs:List (LS)},pJ cs->(∀c∈cs,∃x∈c,x∈cut)->∃u:LS,u.9=cs.9/\u.Nodup/\(∀p∈u,p∈cut)/\∀p∈u,∃c∈cs,p∈c
 |[],_,_=>#[[],rfl,Q1,λ_ z=>(nomatch z),λ_ z=>(nomatch z)]
 |c::cs,a,h=>by
  let#[u,f,e,b,k]:=Xe (cs:=cs) a.2 λd v=>h d (QD _ v);let#[x,w,hc]:=h c QF;refine#[x::u,by rw[QL,QL,f],Qe.mpr #[λz=>?_,e],λp y=>?_,λp y=>?_];let#[d,v,y]:=k x z;exact a.1 d v x w y;rcases QM.mp y with z|z
  ·rw[z];exact hc
  exact b p z;rcases QM.mp y with z|z
  ·exact#[c,QF,by rw[z];exact w]
  let#[d,v,y]:=k p z;exact#[d,QD _ v,y]
theorem TZ{cut:LS}{cs:List (LS)}(a:pJ cs)(h:∀c∈cs,Chn es st g c g)(hl:¬ ∃a,(a,g)∈es/\Led es st g cut a):cs.9<=cut.length:=by let#[u,z,y,x,_]:=Xe a λc hc=>T7 (h c hc) hl;rw[<- z];exact mQ y x
end
section
variable{ks:List Pt}{vs:List D}{p:Pt}
noncomputable def IC(ks:List Pt)(vs:List D):List (D×D):=(ks.map pr).zip vs
theorem Jl(ks:List Pt)(vs:List D):(ud ks vs).er=.dict (IC ks vs):=by show PyData.dict ((ks.map pr).zip (ersT (vs.map T.d)))=_;rw[DA];rfl
theorem fL(h:vs.9=ks.9):(IC ks vs).map (·.1)=ks.map pr:=Ww (by rw[QE];omega)
theorem vd(h:vs.9=ks.9):(IC ks vs).map (·.2)=vs:=WM (by rw[QE];omega)
theorem EI(h:vs.9=ks.9)(m:p∈ks):DD (IC ks vs)=kv true:=by
 cases ks with
 |nil=>exact(nomatch m)
 |cons x ks=>cases vs with|nil=>cases h|cons y vs=>rfl
theorem iT{q:Pt}{u:List Pt}:∀{y:List Pt},q∉y->fA ((y++q::u).map pr) (pr q)=kv y.9
 |[],_=>Kf rfl|x::y,h=>by show fA (pr x::(y++q::u).map pr) (pr q)=_;rw[Z7 (λz=>h (by rw[OP z];exact QF)),iT λz=>h (QD _ z)];rfl
theorem On{h z:List Pt}{y x:List D}{q:Pt}{n m:Bool}{R:T->Prop}(u:y.9=h.9)(w:x.9=z.9)(v:q∉h)(k:R (.d (pr p))):BA (.d (.dict (IC (h++q::z) (y++pr p::x)))) n (.d (pr q)) m R:=by
 have hl:(y++pr p::x).9=(h++q::z).length:=by rw[QJ,QJ,QL,QL,u,w]
 refine Mn (EI hl (p:=q) (Qa _ QF)) (IB q) (by rw[fL hl];exact iT v) ?_ k;rw[vd hl,<- u,qH (QT _),Nat.sub_self];rfl
theorem pW(a b:Pt):Qw (pr a) (pr b)=decide (a=b):=by
 rw[qF,ax];have e:Qw (pr a) (pr b)=(Qw (.str a.1) (.str b.1)&&(Qw (.str a.2) (.str b.2)&&kd)):=by simp[pr,Qw,PyData.eqvAll]
 rw[e,SQ,SQ,QBe,Qb,ax,ax];exact#[λh=>QCU h.1 h.2,λh=>by rw[h];exact#[rfl,rfl]]
def jK(es:rC)(st:LS):Prop:=(∀s∈st,qW s=kd)/\∀e∈es,qW e.1=kd/\qW e.2=kd
theorem vE{a b:Str}(x:qW a=kd)(h:qW b=kd):ZD (pr (a,b)):=by refine#[?_,?_];simp only[pr,QAZ,qk,x,h,Bool.and_self];simp only[pr,QA6,wb];decide
theorem PR:qW "to"=true:=by decide +kernel
theorem bX:qW "from"=true:=by decide +kernel
theorem gO:qW ""=kd/\qW "begin"=true:=by decide +kernel
theorem F6{es:rC}{st:LS}{g:Str}(h:jK es st)(k:p∈vs0 es st g):ZD (pr p):=by
 have k:Key (yA es st g) p:=uB.mpr k;rw[iE]at k;rcases bL.mp k with z|⟨⟨u,v,c⟩,m,z⟩
 rw[QI.mp (uB.mp z)];exact vE gO.1 gO.2;have z:p=u∨p=v:=z;rcases oE.mp m with⟨n,w,_,e|e⟩| ⟨e,x,_,y|y|y⟩
 cases e;rcases z with z|z<;>subst z;exact vE (h.1 n w) PR;exact vE (h.1 n w) bX;cases e;rcases z with z|z<;>subst z;exact vE gO.1 gO.2;exact vE (h.1 n w) PR;cases y;rcases z with z|z<;>subst z;exact vE (h.2 e x).1 PR;exact vE (h.2 e x).1 bX;cases y;rcases z with z|z<;>subst z;exact vE (h.2 e x).2 PR;exact vE (h.2 e x).2 bX;cases y;rcases z with z|z<;>subst z;exact vE (h.2 e x).1 bX;exact vE (h.2 e x).2 PR
def aR(r:Rm)(x:List (D×D))(last:D)(h:Pt)(o4:Option Sl):kA:=[oW (gB r),bD (.dict x),bD last,bD (pr h),o4]
end
section
variable{Ψ:PEv}{Z:PEnds}{q:PT}{r:Rm}{h:List (D×D)}{last:D}{u v:Pt}
theorem Kv(hk:Key r u)(w:jI r u v)(hl:(lk r u).9<kt)(k:pF Ψ q Z (aR (put r u (put (lk r u) v (rm r u v - 1))) h last v (bD (pr u)))) :
  pF Ψ (.seq (.six (.idx (.var 0) (.var 4)) (.var 3) (.bin .Sub (.idx (.idx (.var 0) (.var 4)) (.var 3)) (.int 1))) q) Z (aR r h last v (bD (pr u))):=by
 let#[x,y]:=w;have e:rm r u v=x:=by unfold rm;rw[y];rfl
 rw[e]at k;delta aR at k ⊢;simp![↓AH];refine EE hk ?_;simp![↓aY];refine mP y ?_;simp![↓vA];refine vI (DE hk) λf z=>sP hl ?_;rw[z];exact k
theorem Zv(hk:Key r v)(w:jI r v u)(hl:(lk r v).9<kt)(k:pF Ψ q Z (aR (put r v (put (lk r v) u (rm r v u+1))) h last v (bD (pr u)))) :
  pF Ψ (.seq (.six (.idx (.var 0) (.var 3)) (.var 4) (.bin .Add (.idx (.idx (.var 0) (.var 3)) (.var 4)) (.int 1))) q) Z (aR r h last v (bD (pr u))):=by
 let#[x,y]:=w;have e:rm r v u=x:=by unfold rm;rw[y];rfl
 rw[e]at k;delta aR at k ⊢;simp![↓AH];refine EE hk ?_;simp![↓aY];refine mP y ?_;simp![↓vA];refine vI (DE hk) λf z=>sP hl ?_;rw[z];exact k
end
theorem Base.inn{es:rC}{st:LS}{g:Str}{r:Rm}(b:Base es st g r)(p:Pt):(lk r p).9<=(yA es st g).length:=by
 have:=HG (ns:=vs0 es st g) (b.ndi p) λq h=>by let#[e,x,z]:=QY.mp h;have a:jI r p q:=tB.mpr #[e.2,by rw[<- z];exact x];exact sB (BB ((b.adj p q).mp a))
 unfold vs0 at this;rw[QE,QE]at this;exact this
section
variable{Ψ:PEv}{Z:PEnds}{es:rC}{st:LS}{g:Str}
theorem Ib{m r:Rm}{ks:List Pt}{vs:List D}{x:Pt}{last:D}{o4:Option Sl}{z v:List Pt}{b u:List D}(hsz:(yA es st g).9<=1000)(R:Hd m)(I:CF m z b)(S:ks=z++v)(ev:vs=b++u)(h9:u.9=v.9)(F:x∈z)(hb:x≠UA)(i:LC es st g m r x z)
  (k:∀h y n l p A,CF m h y->ks=h++n->vs=y++l->l.9=n.9->h.9<z.9->p∈h->LC es st g m A p h->Z.nx (aR A (IC ks vs) last p (bD (pr p)))) :
  pF Ψ sE Z (aR r (IC ks vs) last x o4):=by
 let#[h,y,p,j,e,J,Q,w,B,X,G]:=I.find F hb;have M:=I.len;have L:=J.len;have H:e.9=j.length:=by rw[X,G,QJ,QJ,QL,QL]at M;omega
 have s:ks=h++x::(j++v):=by rw[S,X,Q2];rfl
 have o:vs=y++pr p::(e++u):=by rw[ev,G,Q2];rfl
 let#[W,K]:=vc R i F hb w B λq P=>by rw[X];exact Qp _ P
 have a:=i.adjw W;have C:=gR a;have O:Key r p:=by rw[uB,i.keys];exact sB a
 have N:Key r x:=by rw[uB,i.keys];exact sB (BB a)
 have E:=i.toBase.inn;have Y:pF Ψ %[.set 3 (.var 4)|2] Z (aR (RY r p x) (IC ks vs) last x (bD (pr p))):=by have:=k h y (x::(j++v)) (pr p::(e++u)) p (RY r p x) J s o (by rw[QL,QL,QJ,QJ];omega) (by rw[X,QJ,QL];omega) Q K;unfold aR at this;delta aR;simp![↓vA];exact this
 have f:pF Ψ %[.six (.idx (.var 0) (.var 4)) (.var 3) (.bin .Sub (.idx (.idx (.var 0) (.var 4)) (.var 3)) (.int 1)),.six (.idx (.var 0) (.var 3)) (.var 4) (.bin .Add (.idx (.idx (.var 0) (.var 3)) (.var 4)) (.int 1)),.set 3 (.var 4)|2] Z (aR r (IC ks vs) last x (bD (pr p))):=by have i1:=E p;have i2:=E x;refine Kv O ((i.adj _ _).mpr a) () (Zv ?_ ?_ ?_ Y);exact DI.mpr (.inr N);show jI _ x p;have:=(i.adj x p).mpr (BB a);unfold jI at this ⊢;rw[nE,t3 C];exact this;rw[nE,t3 C];omega
 unfold aR at f;delta aR;delta sE;simp![↓vA];rw[s,o]at f ⊢;refine On L (by rw[QJ,QJ];omega) B ?_;simp![↓vA];exact f
end
section
variable{Ψ:PEv}{W:LT->Prop}{n m:Bool}{E:XE}{ρ:kA}{R:T->Prop}{a g f:Str}{es:rC}{st c:LS}{r:Rm}{Z:PEnds}{ks:List Pt}{vs:List D}{L:Bool->Prop}{Q:T->Bool->Prop}{i:Nat}{cs:List (LS)}
def iP:PSp where
 md:=[.chg]
 run:=λy Q _=>∃(es:rC) (st:LS) (g:Str) (h:Rm) (ks:List Pt) (vs:List D),y=[gB h,.d (.dict (IC ks vs)),.d (pr (tO g))]/\((yA es st g).9<=1000/\jK es st/\Flow es st g h/\CF h ks vs/\tO g∈ks)/\∀x,Flow es st g x->out es st g x UA=out es st g h UA+1->Q (.d .none) [gB x]
theorem Yj(B:Ψ.va "BEGIN"=kv (pr UA)):EH Ψ lG iP DK tI:=by
 rintro _ Q _ ⟨es,st,g,k,ks,vs,rfl,⟨N,M,fl,H,I⟩,q⟩;refine NJ [oW (gB k),bD (.dict (IC ks vs)),bD (pr (tO g)),kf,kf] ?_;delta lG;simp![↓vA];refine yI (λm ρ=>∃r h x v u y o4,m=h.9/\CF k h x/\ks=h++v/\vs=x++u/\u.9=v.9/\y∈h/\LC es st g k r y h/\ρ=aR r (IC ks vs) (pr (tO g)) y o4) ks.9 #[k,ks,vs,[],[],tO g,_,rfl,H,by rw[qE],by rw[qE],rfl,I,Y6 fl ks,rfl] ?_;rintro m ρ ⟨r,h,x,v,u,y,o4,em,C,S,ev,J,K,Y,rfl⟩;have o:ZD (pr y):=F6 M (by have:=nI fl.toBase.dom fl.toBase.bg (C.rch y K);rw[uB,fl.keys]at this;exact this);have s:ZD (pr UA):=vE gO.1 gO.2;have z:∀L:Bool->Prop,L (!decide (y=UA))->JB .NotEq (.d (pr y)) (.d (pr UA)) L:=λL l=>by show ZD (pr y)/\ZD (pr UA)/\L (!PyData.eqv (pr y) (pr UA));rw[pW];exact#[o,s,l]
 by_cases e:y=UA;subst e;delta aR;simp![↓nH B];refine z _ ?_;rw[dT rfl];let#[P,O]:=jk Y;exact q r P O;have A:=λ(Z:PEnds) G=>Ib (Ψ:=Ψ) (Z:=Z) (last:=pr (tO g)) (o4:=o4) N fl.ndi C S ev J K e Y G;unfold aR at A;delta aR;simp![↓nH B];refine z _ ?_;rw[dF e];refine A _ λw j X b p F a1 a2 a3 a4 a5 a6 a7=>#[w.9,(),F,w,j,X,b,p,_,rfl,a1,a2,a3,a4,a6,a7,rfl]
theorem O1{l:Inn}:JK .val [(FD l,kb)] W=W ((l.map λe=>pr e.1).map T.d):=jT _ _
theorem Gh{kvs:List (D×D)}(h:DD kvs=kv kd):JK .val [(.d (.dict kvs),n)] W=W ((kvs.map (·.1)).map T.d):=by unfold JK CB;rw[aA];show KB .val [xC kvs] W=_;unfold xC;rw[h];exact jT _ _
theorem dg{a b h:PX}{t:Str}{x:T}{R:Option T->Prop}:dH Ψ E [] [t] (.nm 0) (.and a b) h ρ x R=oK Ψ (.and a b) E (kv (.bor x)::lockA ρ) λk z=>if k=kd then mB Ψ h E z λy n _=>EC y n (R (kv y)) else R none:=rfl
theorem iR{p:Pt}:BA (.d (pr p)) n (.d (.int 0)) m R=R (.d (.str p.1)):=by delta pr;rw[U1,jm,EB]
theorem Fn{p:Pt}:BA (.d (pr p)) n (.d (.int 1)) m R=R (.d (.str p.2)):=by delta pr;rw[U1,Dw,EB]
theorem Ve:(T.d (.tuple [.str a,.str "from"]))=.d (pr (fR a)):=rfl
theorem V4:(T.d (.tuple [.str a,.str "to"]))=.d (pr (tO a)):=rfl
def UG:PSp where
 md:=[.bor]
 run:=λh Q _=>∃(es:rC) (st:LS) (g:Str) (r:Rm) (n:Str),h=[gB r,.d (.str n)]/\((yA es st g).9<=1000/\Flow es st g r/\LU r n=1)/\∀m,k9 r n m->Q (.d (.str m)) []
theorem kZ:EH Ψ rE UG gH OF:=by
 rintro _ Q _ ⟨es,st,g,r,n,rfl,⟨M,fl,A⟩,q⟩;have J:=fl.toBase.inn (fR n);let#[b,k]:=Uj fl A;have o:jI r (fR n) (tO b):=(fl.adj _ _).mpr (BB (fl.toBase.adjw k.2));have X:Key r (fR n):=by rw[uB,fl.keys];exact sB ((fl.adj _ _).mp o)
 refine nA [kv (.bor (gB r)),bD (.str n),kf] ?_;delta rE;simp![Ve,↓AH];refine#[(),EE X ?_];simp![↓G8,↓O1];have F:((lk r (fR n)).map λe=>pr e.1).map T.d=((lk r (fR n)).map (·.1)).map λp=>T.d (pr p):=by rw[QX,QX];rfl
 rw[F];refine rA (λp=>T.d (pr p)) (λ(p:Pt)=>T.d (.str p.1)) (λp=>!decide (p.1=n)&&decide (0<rm r p (fR n))) ((lk r (fR n)).map (·.1)) [] _ (λx K R u=>?_) (by show 0+((lk r (fR n)).map (·.1)).9<=_;rw[QE];omega) ?_;let#[e,B,C]:=QY.mp K;have G:jI r (fR n) x:=tB.mpr #[e.2,by rw[<- C];exact B];have w:jI r x (fR n):=(fl.adj _ _).mpr (BB ((fl.adj _ _).mp G));have s:Key r x:=by rw[uB,fl.keys];exact sB ((fl.adj _ _).mp w)
 let#[v,hv]:=w;have ev:rm r x (fR n)=v:=by unfold rm;rw[hv];rfl
 rw[ev]at u;simp![↓dg,↓iR,↓AH];by_cases c:x.1=n;rw[dT c]at u ⊢;exact u;rw[dF c]at u ⊢;simp only[WI,↓reduceIte];refine EE s ?_;simp![↓aY];refine mP hv ?_;simp![↓iR];by_cases d:0<v;rw[dT d]at u ⊢;exact u;rw[dF d]at u ⊢;exact u;have j:tO b∈((lk r (fR n)).map (·.1)).filter λp=>!decide (p.1=n)&&decide (0<rm r p (fR n)):=by let#[v,hv]:=o;refine QZ.mpr #[QY.mpr #[_,LG hv,rfl],?_];rw[dF (show ¬ (tO b).1=n from λz=>k.1 z.symm),dT k.2];rfl
 cases l:((lk r (fR n)).map (·.1)).filter λp=>!decide (p.1=n)&&decide (0<rm r p (fR n)) with
 |nil=>rw[l]at j;exact(nomatch j)
 |cons y I =>
  have Y:y∈((lk r (fR n)).map (·.1)).filter λp=>!decide (p.1=n)&&decide (0<rm r p (fR n)):=by rw[l];exact QF
  have h:=(QZ.mp Y).2;rw[Qb,Q6,decide_eq_false_iff_not,ax]at h;let#[m,rfl]:=Se fl.toBase ((fl.adj _ _).mpr (fl.toBase.adjw h.2));rw[Qh,JA (λp:Pt=>j3 p.1)];simp![↓vA];rw[QU,jm];simp![↓vA];exact q m #[λz=>h.1 z.symm,h.2]
def bI:PSp where
 md:=[.bor]
 run:=λh Q _=>∃(es:rC) (st:LS) (g:Str) (r:Rm) (f:Str),h=[gB r,.d (.str f),.d (.str g)]/\((yA es st g).9<=1000/\Flow es st g r/\YU r f)/\∀c,Run r g f c g->Q (.lst ((c.map j3).map T.d)) []
theorem Ji(fl:Flow es st g r)(w:YU r f){n:Str}(h:Run r g f c n):(∀x∈c,tO x∈vs0 es st g)/\tO n∈vs0 es st g:=by
 induction h with
 |nil=>exact#[λx y=>(nomatch y),(iI fl.toBase w).1]
 |go _ _ v u=>refine#[λx y=>?_,(iI fl.toBase v.2).1];rcases Qg.mp y with z|z;exact u.1 x z;rw[QI.mp z];exact u.2
theorem hX(fl:Flow es st g r)(y:YU r f){n:Str}(h:Run r g f c n):c.9<=(yA es st g).length:=by
 have nd:=(h.nd fl y).1;have:=HG (ks:=c.map tO) (ns:=vs0 es st g) (Wk tO (λa b u z=>u (DB z)) nd) λp w=>by let#[x,v,e]:=QY.mp w;rw[<- e];exact(Ji fl y h).1 x v
 unfold vs0 at this;rw[QE,QE]at this;exact this
def ol(r:Rm)(f g:Str)(c:LS)(n:Str):kA:=[kv (.bor (gB r)),bD (.str f),bD (.str g),oW (.lst ((c.map j3).map T.d)),bD (.str n)]
theorem Ic(y:Ψ.sp "name_behind"=UG){n:Str}(x:(yA es st g).9<=1000)(fl:Flow es st g r)(h:LU r n=1)(hl:c.9<=1000)(k:∀m,k9 r n m->Z.nx (ol r f g (c++[n]) m)) :
  pF Ψ PD Z (ol r f g c n):=by
 delta ol at k ⊢;delta PD;simp![↓lR,↓xA (md:=[.bor]) y rfl rfl];refine#[by rw[QE,QE];omega,#[_,_,_,_,_,rfl,#[x,fl,h],λm nx=>?_]];have:=k m nx;rw[QR,QR]at this;simp![↓vA];exact this
theorem C5(j:Ψ.sp "name_behind"=UG):EH Ψ iF bI mJ cH:=by
 rintro _ Q _ ⟨es,st,g,r,f,rfl,⟨b,fl,z⟩,q⟩;have u:kt=16777216:=Q5;refine nA [kv (.bor (gB r)),bD (.str f),bD (.str g),kf,kf] ?_;delta iF
 simp![↓vA];refine#[Qs _,yI (λm ρ=>∃c n,m+c.9=1001/\Run r g f c n/\ρ=ol r f g c n) 1001 #[[],f,rfl,.nil,rfl] ?_];rintro m ρ ⟨c,n,l,x,rfl⟩;have hl:=hX fl z x;by_cases e:n=g;subst e;delta ol;simp![↓vA];exact q c x;have v:=λ(Z:PEnds) u=>Ic (Ψ:=Ψ) (Z:=Z) (f:=f) (g:=g) (c:=c) j b fl (x.thr1 fl z e) () u;unfold ol at v;delta ol;simp![↓vA];rw[dF e];refine v _ λk w=>?_;have h:=x.go e w;have y:=hX fl z h;rw[QJ,Q8]at y;exact#[m - 1,(),c++[n],k,by rw[QJ,Q8];omega,h,rfl]
theorem Xl{q:Pt}(hv:vs.9=ks.9)(hb:UA∈ks):JB .NotIn (.d (pr q)) (.d (.dict (IC ks vs))) L=L (!decide (q∈ks)):=by show(∃b,DD (IC ks vs)=kv b/\ED b (pr q)/\L (!(fA ((IC ks vs).map (·.1)) (pr q)).isSome))=_;rw[EI hv hb,fL hv,LI];exact Az #[λ#[_,_,_,h]=>h,λh=>#[kd,rfl,IB q,h]]
theorem Tf{q:Pt}(hv:vs.9=ks.9)(hb:UA∈ks):JB .In (.d (pr q)) (.d (.dict (IC ks vs))) L=L (decide (q∈ks)):=by show(∃b,DD (IC ks vs)=kv b/\ED b (pr q)/\L (fA ((IC ks vs).map (·.1)) (pr q)).isSome)=_;rw[EI hv hb,fL hv,LI];exact Az #[λ#[_,_,_,h]=>h,λh=>#[kd,rfl,IB q,h]]
theorem Tp{x:LS}(y:x.9<64)(q:∀h:LS,h.Perm x->Tz h=kd->Q (.lst ((h.map j3).map T.d)) kd):LH .sorted [(.lst ((x.map j3).map T.d),n)] Q:=by unfold LH CB;rw[BD];exact .inl #[_,x,rfl,YA _,y,q]
theorem Ap{ls:List (LS)}(x:ls.9<64)(q:∀h:List (LS),h.Perm ls->Q (.lst ((h.map ID).map T.d)) kd):LH .sorted [(.d (.list (ls.map ID)),n)] Q:=by unfold LH CB;rw[aA];exact .inr (.inl #[_,ls,rfl,YA _,x,q])
def PM(ks:List Pt):LS:=(ks.filter (IG ks)).map λp=>p.1
def JP:PSp where
 run:=λh Q _=>∃(ks:List Pt) (vs:List D),h=[.d (.dict (IC ks vs))]/\(vs.9=ks.9/\UA∈ks/\ks.9<=1000/\(ks.filter (IG ks)).9<64)/\∀cut:LS,cut.Perm (PM ks)->Tz cut=kd->Q (.lst ((cut.map j3).map T.d)) []
theorem Ub:EH Ψ eF JP lJ bH:=by rintro _ Q _ ⟨ks,vs,rfl,⟨hv,hb,k,v⟩,q⟩;refine nA [bD (.dict (IC ks vs))] ?_;delta eF;simp![↓Gh (EI hv hb),fL hv];rw[<- JA];refine rA (λp=>T.d (pr p)) (λ(p:Pt)=>T.d (.str p.1)) (IG ks) ks [] _ (λx w R h=>?_) (by show 0+ks.9<=_;omega) ?_;have h:R (if(decide (x.2="to")&&!decide (fR x.1∈ks))=kd then kv (T.d (.str x.1)) else kf):=h;simp![↓dg,↓iR,↓Fn,Ve,↓Xl hv hb];by_cases c:x.2="to";rw[dT c]at h ⊢;refine#[(),?_];by_cases d:fR x.1∈ks;rw[dT d]at h ⊢;exact h;rw[dF d]at h ⊢;exact h;rw[dF c]at h ⊢;exact h;rw[Qh,JA (λp:Pt=>j3 p.1),show((ks.filter (IG ks)).map λp=>j3 p.1)=(PM ks).map j3 by unfold PM;rw[QX];rfl];refine Tp (by unfold PM;rw[QE];exact v) λy u z=>?_;simp![↓vA];exact q y u z
theorem NZ(f:Flow es st g r):(((lk r UA).map (·.1)).filter λy=>decide (0<rm r y UA)).9<=st.length:=by
 have u:∀y∈((lk r UA).map (·.1)).filter (λy=>decide (0<rm r y UA)),y=tO y.1/\YU r y.1:=λy x=>by have h:=aj (QZ.mp x).2;let#[n,rfl]:=j6 f.toBase ((f.adj _ _).mpr (f.toBase.adjw h));exact#[rfl,h]
 have nd:(((lk r UA).map (·.1)).filter λy=>decide (0<rm r y UA)).Nodup:=(f.ndi UA).sublist qB;have:=mQ (ks:=(((lk r UA).map (·.1)).filter λy=>decide (0<rm r y UA)).map (·.1)) (ns:=st) (by
  refine Wk _ (λa b h=>h) (wf (λ{a b} k hb v z=>?_) nd);exact v (by rw[(u a k).1,(u b hb).1,z])) λs w=>by
  let#[y,x,e]:=QY.mp w;rw[<- e];exact(DJ f.toBase (u y x).2).1
 rw[QE]at this;exact this
theorem MO{α v:Type}{body:T->(Option T->Prop)->Prop}(P:α->v->Prop)(g:α->T)(f:v->T):∀(l:List α) (h:LT) (Q:LT->Prop),(∀x∈l,∀R:Option T->Prop,(∀y,P x y->R (kv (f y)))->body (g x) R)->h.9+l.9<=kt->(∀u,y0 P l u->Q (h++u.map f))->GD body (l.map g) h Q
 |[],h,Q,_,hl,q=>by have:=q [] .nil;rw[WR,qE]at this;exact#[by rw[qY]at hl;omega,this]|x::r,h,Q,hb,hl,q=>by
  rw[QL]at hl;refine hb x QF _ λy k=>#[(),?_]
  refine MO P g f r _ Q (λz w=>hb z (QD _ w)) (by rw[QJ,Q8];omega) λu b=>?_;have:=q (y::u) (.cons k b);rw[QU]at this;rw[Q2];exact this
theorem zh{r:PT}:FK Ψ E r Z i (ud ks vs) kd ρ=xB Ψ E r Z (ρ.set i (bD (.dict (IC ks vs)))):=by unfold FK;rw[Jl];exact Az #[λh=>h.2,λh=>#[rfl,h]]
def ur(c:LS):T:=.lst ((c.map j3).map T.d)
theorem ul(cs:List (LS)):ersT (cs.map ur)=cs.map ID:=by rw[PQ,QX];congr 1;funext c;show PyData.list (ersT ((c.map j3).map T.d))=_;rw[DA];rfl
theorem ux{r:PT}:FK Ψ E r Z i (.lst (cs.map ur)) kd ρ=xB Ψ E r Z (ρ.set i (bD (.list (cs.map ID)))):=by
 have e:(T.lst (cs.map ur)).er=.list (cs.map ID):=by show PyData.list (ersT (cs.map ur))=_;rw[ul]
 unfold FK;rw[e];exact Az #[λh=>h.2,λh=>#[rfl,h]]
theorem cq{a b:LT}:UE [.lst a,.lst b]=.tup [.lst a,.lst b]:=rfl
theorem EJ:∀{cs:List (LS)},pJ cs↔cs.Pairwise λc d=>∀x∈c,x∉d
 |[]=>#[λ_=>.nil,λ_=>trivial]|c::cs=>by rw[QAU,<- EJ];exact wW
theorem MW{ds:List (LS)}(h:ds.Perm cs)(a:pJ cs):pJ ds:=EJ.mpr ((h.pairwise_iff (λ{a b} z x u y=>z x y u)).mpr (EJ.mp a))
structure Good(es:rC)(st:LS)(g:Str)(cs:List (LS))(cut:LS):Prop where
 chn:∀c∈cs,Chn es st g c g/\c.Nodup/\∀x∈c,x≠g
 apart:pJ cs
 len:cs.9=cut.9
 few:cut.9<=11
 nd:cut.Nodup
 srt:Tz cut=kd
 ng:g∉cut
 led:¬ ∃a,(a,g)∈es/\Led es st g cut a
 okn:∀s∈cut,qW s=kd
end
section
variable{es:rC}{st:LS}{g:Str}{r:Rm}
theorem NL(f:Flow es st g r):∀{fs:LS}{cs:List (LS)},fs.Nodup->(∀s∈fs,YU r s)->y0 (λs c=>Run r g s c g) fs cs->pJ cs/\(∀c∈cs,∃s∈fs,Run r g s c g)
 |_,_,_,_,.nil=>#[trivial,λ_ h=>(nomatch h)]
 |s::fs,c::cs,nd,hf,.cons h t=>by
  let#[b,a]:=Qe.mp nd;let#[l,k]:=NL f a (λs j=>hf s (QD _ j)) t;refine#[#[λd w x i e=>?_,l],λd w=>?_];let#[u,y,v]:=k d w;have:=Run.apart f (hf s QF) (hf u (QD _ y)) h v x i e;exact b (this▸y);rcases QM.mp w with z|z
  ·rw[z];exact#[s,QF,h]
  let#[u,y,v]:=k d z;exact#[u,QD _ y,v]
def bt(r:Rm):List Pt:=((lk r UA).map λe=>e.1).filter λy=>decide (0<rm r y UA)
def uW(r:Rm):LS:=(bt r).map λp=>p.1
theorem t7(f:Flow es st g r):∀y∈bt r,y=tO y.1/\YU r y.1:=λy x=>by have h:=aj (QZ.mp x).2;let#[n,rfl]:=j6 f.toBase ((f.adj _ _).mpr (f.toBase.adjw h));exact#[rfl,h]
theorem Mq(f:Flow es st g r):(uW r).Nodup:=by have nd:(bt r).Nodup:=(f.ndi UA).sublist qB;refine Wk _ (λa b h=>h) (wf (λ{a b} y hb x z=>?_) nd);exact x (by rw[(t7 f a y).1,(t7 f b hb).1,z])
theorem xW(f:Flow es st g r):∀s∈uW r,YU r s:=λs x=>by let#[y,h,e]:=QY.mp x;rw[<- e];exact(t7 f y h).2
theorem FJ(f:Flow es st g r):out es st g r UA=(uW r).9/\(uW r).9<=st.length:=by have x:=Gc f;have h:=NZ f;unfold uW;rw[QE];exact#[x,h]
theorem fM{α x:Type}{P:α->x->Prop}{l:List α}{m:List x}(h:y0 P l m):l.9=m.length:=qC h
theorem Uc(f:Flow es st g r)(C:jK es st)(F:st.9<=11){ks:List Pt}{vs:List D}(W:CF r ks vs)(hk:∀p,p∈ks↔Rch r p)(q:tO g∉ks){cs ds:List (LS)}(Y:y0 (λs c=>Run r g s c g) (uW r) cs)(j:ds.Perm cs){cut:LS}(w:cut.Perm (PM ks))(sc:Tz cut=kd):Good es st g ds cut:=by
 let#[J,I]:=NL f (Mq f) (xW f) Y;let#[P,O]:=FJ f;have N:=KT f W.nd hk q;have M:(PM ks).9=(ks.filter (IG ks)).length:=by unfold PM;rw[QE]
 have L:=fM Y;have u:∀s,s∈PM ks↔tO s∈ks/\fR s∉ks:=λs=>by unfold PM;rw[QY];constructor;rintro⟨y,B,e⟩;let#[v,x]:=QZ.mp B;let#[n,X,k]:=dE.mp x;subst X;have e:n=s:=e;subst e;exact#[v,k];rintro⟨v,x⟩;exact#[tO s,QZ.mpr #[v,dE.mpr #[s,rfl,x]],rfl]
 have l:(PM ks).Nodup:=by unfold PM;refine Wk _ (λa b h=>h) (wf (λ{a b} E hb A z=>?_) (W.nd.sublist (qB (p:=IG ks))));let#[n,G,_]:=dE.mp (QZ.mp E).2;let#[m,X,_]:=dE.mp (QZ.mp hb).2;subst G X;have z:n=m:=z;exact A (by rw[z])
 have K:=w.length_eq;refine#[λc hc=>?_,MW j J,by rw[j.length_eq,K];omega,(),w.nodup_iff.mpr l,sc,λz=>q ((u g).mp (w.mem_iff.mp z)).1,?_,λs o=>?_];let#[s,o,i]:=I c (j.mem_iff.mp hc);have Z:=xW f s o;exact#[i.chn f Z,(i.nd f Z).1,i.ng];exact Sc f hk q λn v x=>w.mem_iff.mpr ((u n).mpr #[v,x]);have v:=((u s).mp (w.mem_iff.mp o)).1;have x:=uB.mp (nI f.toBase.dom f.toBase.bg ((hk _).mp v));rw[f.keys]at x;have k:=(F6 C x).1;simp only[pr,tO,QAZ,qk,Qb]at k;exact k.1
end
def bR(es:rC)(st:LS)(g:Str)(r:Rm)(h:List (D×D))(o5 o6:Option Sl):kA:=[bD (.list (es.map pr)),bD (.tuple (st.map j3)),bD (.str g),oW (gB r),bD (.dict h),o5,o6]
section
variable{Ψ:PEv}{Z:PEnds}{es:rC}{st:LS}{g:Str}{r:Rm}
section
variable{q:PT}{h:List (D×D)}{o6:Option Sl}
theorem Lw(u:Ψ.sp "rooms_of"=uI)(z:Ψ.sp "points_reached"=LF)(y:es.9<=126)(x:st.9<=11)(k:∀ks vs,CF (yA es st g) ks vs->(∀p,p∈ks↔Rch (yA es st g) p)->pF Ψ q Z (bR es st g (yA es st g) (IC ks vs) kf kf)) :
  pF Ψ (.seq (.own 3 (.call "rooms_of" %[.var 0,.var 1,.var 2|1])) (.seq (.set 4 (.call "points_reached" %[.var 3|1])) q)) Z [bD (.list (es.map pr)),bD (.tuple (st.map j3)),bD (.str g),kf,kf,kf,kf]:=by
 have ok:=pS (g:=g) y x;delta bR at k;simp![↓xA (md:=[]) u rfl rfl,↓xA (md:=[.bor]) z rfl rfl];refine#[_,_,_,rfl,#[y,x],?_];simp![↓lR,↓xA (md:=[.bor]) z rfl rfl];refine#[_,_,rfl,#[(.inl rfl),ok.dom,ok.bg,ok.sz.1],λks vs hc hk=>?_];simp![↓zh];exact k ks vs hc hk
theorem Hw(w:Ψ.sp "points_reached"=LF)(i:Ψ.sp "lay_chain"=iP){ks:List Pt}{vs:List D}(v:(yA es st g).9<=1000)(a:jK es st)(f:Flow es st g r)(j:CF r ks vs)(b:tO g∈ks)
  (k:∀z x y,Flow es st g z->out es st g z UA=out es st g r UA+1->CF z x y->(∀p,p∈x↔Rch z p)->Z.nx (bR es st g z (IC x y) kf kf)) :
  pF Ψ VC Z (bR es st g r (IC ks vs) kf kf):=by
 delta bR at k ⊢;delta VC;simp![V4,↓RG (md:=[]) i rfl rfl,↓xA (md:=[.bor]) w rfl rfl];refine#[(),#[_,_,_,_,_,_,rfl,#[v,a,f,j,b],λz u e=>#[_,rfl,?_]]];simp![↓lR,↓xA (md:=[.bor]) w rfl rfl];refine#[_,_,rfl,#[(.inl rfl),u.toBase.dom,u.toBase.bg,(by rw[u.toBase.len];exact v)],λx y hc hk=>?_];simp![↓zh];exact k z x y u e hc hk
theorem Gw(w:Ψ.va "BEGIN"=kv (pr UA)){o5:Option Sl}(o:(yA es st g).9<=1000)(f:Flow es st g r)(k:pF Ψ q Z (bR es st g r h (bD (.list ((uW r).map j3))) o6)) :
  pF Ψ (.seq (.set 5 (.comp [] ["point"] (.nm 0) .val %[.idx (.var 3) (.glo "BEGIN")|1] (.cmp .Gt (.idx (.idx (.var 4) (.var 0)) (.glo "BEGIN")) (.int 0)) (.idx (.var 0) (.int 0)))) q) Z (bR es st g r h o5 o6):=by
 have s:=f.toBase.inn UA;delta bR at k ⊢;simp![↓AH,↓nH w];refine EE f.toBase.bg ?_;simp![↓G8,↓O1];have m:((lk r UA).map λe=>pr e.1).map T.d=((lk r UA).map λe=>e.1).map λp=>T.d (pr p):=by rw[QX,QX];rfl
 rw[m];refine rA (λp=>T.d (pr p)) (λ(p:Pt)=>T.d (.str p.1)) (λy=>decide (0<rm r y UA)) ((lk r UA).map λe=>e.1) [] _ (λx b R z=>?_) (by show 0+((lk r UA).map λe=>e.1).9<=_;rw[QE];omega) ?_;let#[e,i,j]:=QY.mp b;have n:jI r UA x:=tB.mpr #[e.2,by rw[<- j];exact i];have u:jI r x UA:=(f.adj _ _).mpr (BB ((f.adj _ _).mp n));have a:Key r x:=by rw[uB,f.keys];exact sB ((f.adj _ _).mp u)
 let#[v,hv]:=u;have ev:rm r x UA=v:=by unfold rm;rw[hv];rfl
 rw[ev]at z;simp![↓AH,↓nH w];refine EE a ?_;simp![↓aY,↓nH w];refine mP hv ?_;simp![↓iR];by_cases d:0<v;rw[dT d]at z ⊢;exact z;rw[dF d]at z ⊢;exact z;rw[Qh,JA (λp:Pt=>j3 p.1)];have l:((((lk r UA).map λe=>e.1).filter λy=>decide (0<rm r y UA)).map λp=>j3 p.1)=(uW r).map j3:=by unfold uW bt;rw[QX];rfl
 rw[l];simp![↓vA];exact k
theorem Fw(a:Ψ.sp "chain_from"=bI)(u:(yA es st g).9<=1000)(b:st.9<=11)(f:Flow es st g r)(k:∀cs,y0 (λs c=>Run r g s c g) (uW r) cs->pF Ψ q Z (bR es st g r h (bD (.list ((uW r).map j3))) (bD (.list (cs.map ID))))) :
  pF Ψ (.seq (.set 6 (.comp [] ["first"] (.nm 0) .val %[.var 5|1] .nop (.call "chain_from" %[.var 4,.var 0,.var 3|1]))) q) Z (bR es st g r h (bD (.list ((uW r).map j3))) o6):=by
 have hl:=(FJ f).2;delta bR at k ⊢;simp![↓vA];rw[<- JA j3 (uW r)];refine MO (λs c=>Run r g s c g) (λs=>T.d (.str s)) ur (uW r) [] _ (λx z R w=>?_) (by show 0+(uW r).9<=_;omega) λcs v=>?_;simp![↓lR,↓xA (md:=[.bor]) a rfl rfl];refine#[_,_,_,_,_,rfl,#[u,f,(xW f x z)],λc y=>?_];simp![↓vA];exact w c y;rw[Qh];simp![↓ux];exact k cs v
end
end
section
variable{es u:rC}{F sr z:LS}{x:Str}{n:Int}
noncomputable def cI:PSp where
 run:=λy Q _=>∃(es:rC) (st:LS) (g:Str),y=[.d (.list (es.map pr)),.d (.tuple (st.map j3)),.d (.str g)]/\(es.9<=126/\st.9<=11/\jK es st)/\∀h cut,Good es st g h cut->Q (.tup [.lst ((h.map ID).map T.d),.lst ((cut.map j3).map T.d)]) []
theorem D5{Ψ:PEv}(S:Ψ.sp "rooms_of"=uI)(G:Ψ.sp "points_reached"=LF)(R:Ψ.sp "lay_chain"=iP)(P:Ψ.sp "chain_from"=bI)(C:Ψ.sp "full_names"=JP)(O:Ψ.va "BEGIN"=kv (pr UA))(ds Q E)(h:cI.run ds Q E):xy Ψ sG cI eG ZF ds Q:=by
 let#[es,st,g,rfl,#[W,i,B],q]:=h;have K:kt=16777216:=Q5;have j:(yA es st g).9<=1000:=(pS (g:=g) W i).sz.1;refine nA [bD (.list (es.map pr)),bD (.tuple (st.map j3)),bD (.str g),kf,kf,kf,kf] ?_;refine Lw S G W i λo w H M=>?_;have b0:=FJ (Zf (es:=es) (st:=st) (g:=g));delta bR;simp![↓vA];refine yI (λm Y=>∃r v b,(m:Int)+out es st g r UA=12/\Flow es st g r/\CF r v b/\(∀p,p∈v↔Rch r p)/\Y=bR es st g r (IC v b) kf kf) (12 - out es st g (yA es st g) UA).toNat #[yA es st g,o,w,(),Zf,H,M,rfl] ?_;rintro m Y ⟨r,v,b,em,f,y,hk,rfl⟩;have bd:=FJ f;by_cases a:tO g∈v;have k:=λ(Z:PEnds) K=>Hw (Ψ:=Ψ) (Z:=Z) G R j B f y a K;unfold bR at k;delta bR;simp![V4,↓Tf y.len y.hb];refine#[(),?_];rw[dT a];refine k _ λI s l X e c' N=>#[m - 1,?_,I,s,l,?_,X,c',N,rfl]
 have:=FJ X;omega;have:=FJ X;omega;have A:pF Ψ %[.set 5 (.comp [] ["point"] (.nm 0) .val %[.idx (.var 3) (.glo "BEGIN")|1] (.cmp .Gt (.idx (.idx (.var 4) (.var 0)) (.glo "BEGIN")) (.int 0)) (.idx (.var 0) (.int 0))),.set 6 (.comp [] ["first"] (.nm 0) .val %[.var 5|1] .nop (.call "chain_from" %[.var 4,.var 0,.var 3|1])),.ret (.tup %[.bi .sorted %[.var 6|1],.call "full_names" %[.var 4|1]|1])|2] (eZ Q) (bR es st g r (IC v b) kf kf):=by refine Gw O j f (Fw P j i f λcs k=>?_);have lc:=fM k;have l3:=KT f y.nd hk a;delta bR;simp![↓xA (md:=[]) C rfl rfl];refine Ap () λds J=>?_;simp![↓xA (md:=[]) C rfl rfl];refine#[_,_,rfl,#[y.len,y.hb,(QW (y.le f.toBase.dom f.toBase.bg) (by rw[f.toBase.len];exact j)),()],λcut L sc=>?_];simp![cq];exact#[(),q ds cut (Uc f B i y hk a k J L sc)]
 unfold bR at A;delta bR;simp![V4,↓Tf y.len y.hb];refine#[(),?_];rw[dF a];exact A
def nW(es:rC)(F:LS):rC:=es.filter λe=>decide (e.1∈F)
theorem CQ{e:Str×Str}:e∈nW es F↔e∈es/\e.1∈F:=by unfold nW;rw[QZ,ax]
def jL(es:rC)(sr:LS)(x:Str)(F:LS)(n:Int):Prop:=∃h:List (LS),pJ h/\(∀c∈h,Chn (nW es F) sr x c x)/\n<=(h.9:Int)
theorem Chn.sub{g:Str}(w:∀e∈es,e∈u)(v:∀s∈sr,s∈z){c:LS}{n:Str}(h:Chn es sr g c n):Chn u z g c n:=by
 induction h with|st a b=>exact .st (v _ a) b|go _ b c y=>exact .go y b (w _ c)
theorem jL.sub{F':LS}{v:Int}(i:∀e∈es,e∈u)(g:∀s∈sr,s∈z)(f:∀y∈F,y∈F')(w:v<=n)(h:jL es sr x F n):jL u z x F' v:=by let#[o,a,c,l]:=h;refine#[o,a,λd b=>Chn.sub (λe k=>?_) g (c d b),QAT w l];let#[m,j]:=CQ.mp k;exact CQ.mpr #[i e m,f _ j]
theorem i6{cs:List (LS)}{cut:LS}(h:Good (nW es F) sr x cs cut):jL es sr x F n↔n<=(cs.9:Int):=by constructor;rintro⟨y,a,c,l⟩;have:=TZ a c h.led;rw[<- h.len]at this;exact QAT l (QBD.mpr this);exact λl=>#[cs,h.apart,λc hc=>(h.chn c hc).1,l]
inductive Held(es:rC)(sr:LS)(nd:List (Str×Int)):Str->Prop
 |see {x:Str}{n:Int}:(x,n)∈nd->x∈sr->Held es sr nd x
 |tell {x:Str}{n:Int}(F:LS):(x,n)∈nd->(∀y∈F,Held es sr nd y)->jL es sr x F n->Held es sr nd x
end
section
variable{es v:rC}{sr y:LS}{nd u:List (Str×Int)}
theorem k7{S:LS}(f:∀x∈S,Held es sr nd x)(e:∀x n,(x,n)∈nd->x∈sr->x∈S)(k:∀x n,(x,n)∈nd->x∉S->¬ jL es sr x S n)(x:Str):x∈S↔Held es sr nd x:=by
 refine#[f x,λh=>?_];induction h with|see a b=>exact e _ _ a b|@tell x n F a _ m w=>by_cases z:x∈S;exact z;exact Uz (m.sub (λ_ h=>h) (λ_ h=>h) w (QCc _)) (k x n a z)
theorem Zc{x:Str}(h:Held es sr nd x):∃n,(x,n)∈nd:=by
 cases h with|see a _=>exact#[_,a]|tell _ a=>exact#[_,a]
end
noncomputable def xI:PSp where
 md:=[.fro,.fro,.shal]
 run:=λz Q _=>∃(x:rC) (h F:LS) (g:Str),z=[.d (.tuple (x.map pr)),.d (.tuple (h.map j3)),.lst ((F.map j3).map T.d),.d (.str g)]/\(x.9<=126/\h.9<=11/\jK x h)/\∀y cut,Good (nW x F) h g y cut->Q (.tup [.lst ((y.map ID).map T.d),.lst ((cut.map j3).map T.d)]) []
theorem cb{Ψ:PEv}(w:Ψ.sp "apart_chains"=cI):EH Ψ HD xI tG JF:=by
 rintro _ Q _ ⟨h,u,F,g,rfl,⟨b,a,v⟩,q⟩;have k:(nW h F).9<=126:=QW (Q9 _ _) b;have z:jK (nW h F) u:=#[v.1,λe f=>v.2 e (CQ.mp f).1]
 refine nA [bD (.tuple (h.map pr)),bD (.tuple (u.map j3)),kv (.bor (.lst ((F.map j3).map T.d))),bD (.str g)] ?_;delta HD;simp![↓xA (md:=[]) w rfl rfl];rw[<- JA pr h];refine rA (λp=>T.d (pr p)) (λ(p:Str×Str)=>T.d (pr p)) (λp=>decide (p.1∈F)) h [] _ (λx l R y=>?_) (by show 0+h.9<=_;omega) ?_;simp![↓iR,gL,HI,TB,true_or];by_cases d:x.1∈F;rw[dT d]at y ⊢;exact y;rw[dF d]at y ⊢;exact y;rw[Qh,JA pr];simp![↓xA (md:=[]) w rfl rfl];refine#[_,_,_,rfl,#[k,a,z],λj cut i=>?_];simp![↓vA];exact q j cut i
section
variable{Ψ:PEv}{E:XE}{ρ:kA}{K:TK}{a b c h:PX}{ds:List D}{n m:Bool}{L:Bool->Prop}
def Lo(x:T)(n:Bool)(Ψ:PEv)(b:PX)(E:XE)(ρ:kA)(K:TK):Prop:=sq (α:=Option Int) (lA x n) ρ (λρ R=>(pe Ψ b E).e ρ λu _ y=>RF u.er λo=>R o y) λu y=>EG (lA x n).vw kf u λz k=>K z k y
def cM(x:T)(Q:Option Int->Prop):Prop:=RF x.er Q
theorem u4{i:Int}{Q:Option Int->Prop}:cM (.d (.int i)) Q=Q (kv i):=rfl
theorem ji{x:T}{R:Option Int->kA->Prop}:sq (α:=Option Int) x ρ (λρ (R:Option Int->kA->Prop)=>R kf ρ) R=R kf ρ:=by unfold sq;split<;>rfl
theorem Bm{j:Nat}:mB Ψ (.slc a .nop (.var j)) E ρ K=mB Ψ a E ρ λx n v=>Lo x n Ψ (.var j) E v K:=by show(pe Ψ a E).e ρ (λx n v=>sq (α:=Option Int) (lA x n) v (λρ (R:Option Int->kA->Prop)=>R kf ρ) λl w=>sq (α:=Option Int) (lA x n) w (λρ R=>(pe Ψ (.var j) E).e ρ λu _ y=>RF u.er λo=>R o y) λu y=>EG (lA x n).vw l u λz k=>K z k y)=_;simp only[ji];rfl
theorem lx{x:D}:Lo (.d x) n Ψ b E ρ K=mB Ψ b E ρ λu _ y=>cM u λo=>lI (.d x) n kf o λz k=>K z k y:=by cases n<;>rfl
theorem Mc(a b:List D):(T.tup [.lst (a.map T.d),.lst (b.map T.d)]).er=.tuple [.list a,.list b]:=by show PyData.tuple [.list (ersT (a.map T.d)),.list (ersT (b.map T.d))]=_;rw[DA,DA]
theorem Ct{a b:List D}{m:Bool}{t:T}{R:T->Prop}:BA (.tup [.lst (a.map T.d),.lst (b.map T.d)]) kd t m R=BA (.d (.tuple [.list a,.list b])) kb t m R:=by
 have e:lA (.tup [.lst (a.map T.d),.lst (b.map T.d)]) kd=.d (.tuple [.list a,.list b]):=by show T.d (T.tup [.lst (a.map T.d),.lst (b.map T.d)]).er=_;rw[Mc]
 unfold BA;rw[e];rfl
end
section
variable{Ψ:PEv}{E:XE}{ρ:kA}{a c h:PX}{W:LT->Prop}{R:Option T->Prop}{C:LT->Prop}{xs:List (T×Bool)}{ds:List D}{n m:Bool}
section
variable{md:List Md}{ts:LT}{b:Bool}{t u:Str}
theorem sC{v:PX}{M:List (T×Bool)->kA->Prop}:vL Ψ (.acons a v) E (.fro::md) ρ M=mB Ψ a E ρ λx n z=>A8 x n Ψ v E md z λxs y=>M ((x,n)::xs) y:=rfl
theorem Fd{d:D}:VB (.fro::md) ((.d d,n)::xs) C=VB md xs λts=>C (.d d::ts):=by
 have e:CA (.fro::md) ((.d d,n)::xs) []=(CA md xs []).map (.d d::·):=by cases n<;>rfl
 unfold VB;rw[e,SF]
theorem En:JK .val [(.lst ts,kb)] W=W ts:=by unfold JK CB;exact zG ts
theorem Hr{m:List Bool}{x y:D}{op:h7}:dH Ψ E (b::m) [t,u] (.tp [0,1]) (.cmp op a c) h ρ (.d (.tuple [x,y])) R=oK Ψ (.cmp op a c) E (bD x::bD y::aC (b::m) (lockA ρ)) λk z=>if k=kd then mB Ψ h E z λy n _=>EC y n (R (kv y)) else R none:=EB
theorem Nw{m:List Bool}{x y:T}:dH Ψ E (b::m) [t,u] (.tp [0,1]) .nop h ρ (.tup [x,y]) R=mB Ψ h E (kv (.bor x)::kv (.bor y)::aC (b::m) (lockA ρ)) λy n _=>EC y n (R (kv y)):=EB
theorem tz:ZM ((.lst [],kd)::xs) C=ZM xs λts=>C (.lst []::ts):=zx (ds:=[])
theorem bq{d:D}:UE [.d d,.lst ts]=.tup [.d d,.lst ts]:=rfl
theorem Kr{i j:Int}{L:Bool->Prop}:JB .GtE (.d (.int i)) (.d (.int j)) L=L (decide (j<=i)):=rfl
end
end
noncomputable abbrev Rw:=Str×List (LS)
noncomputable def JJ(r:Rw):T:=.tup [.d (.str r.1),.lst ((r.2.map ID).map T.d)]
def tR(p:Str×Int):D:=.tuple [.str p.1,.int p.2]
def MZ(es:rC)(sr:LS)(nd:List (Str×Int))(h:List Rw)(F:LS)(b:Bool)(o6 o7 o8:Option Sl):kA:=[bD (.tuple (es.map pr)),bD (.tuple (sr.map j3)),bD (.list (nd.map tR)),oW (.lst (h.map JJ)),oW (.lst ((F.map j3).map T.d)),bD (.bool b),o6,o7,o8]
section
variable{Ψ:PEv}{Z:PEnds}{es:rC}{sr:LS}{nd:List (Str×Int)}{q:PT}
section
variable{o5 o6 o7 o8:Option Sl}{h:List Rw}
noncomputable def IR(sr:LS)(nd:List (Str×Int)):List Rw:=(nd.filter λp=>decide (p.1∈sr)).map λp=>(p.1,[])
theorem zw(hl:nd.9<=100){o4:Option Sl}(k:pF Ψ q Z [bD (.tuple (es.map pr)),bD (.tuple (sr.map j3)),bD (.list (nd.map tR)),oW (.lst ((IR sr nd).map JJ)),o4,o5,o6,o7,o8]) :
  pF Ψ (.seq (.own 3 (.comp [kb,kb,kb,kb,kb,kb,kd,kd] ["name","number"] (.tp [0,1]) .val %[.var 2|1] (.cmp .In (.var 0) (.var 3)) (.tup %[.var 0,.lst .anil|1]))) q) Z [bD (.tuple (es.map pr)),bD (.tuple (sr.map j3)),bD (.list (nd.map tR)),kf,o4,o5,o6,o7,o8]:=by
 simp![↓vA];rw[<- JA tR nd];refine rA (λp=>T.d (tR p)) (λ(p:Str×Int)=>JJ (p.1,[])) (λp=>decide (p.1∈sr)) nd [] _ (λx z R y=>?_) (by show 0+nd.9<=_;omega) ?_;let#[x,n]:=x;delta tR;simp![↓Hr,gL,HI,TB,true_or];by_cases d:x∈sr;rw[dT d]at y ⊢;simp![↓tz,↓bq];exact#[(),(),y];rw[dF d]at y ⊢;exact y;rw[Qh];have e:(nd.filter λp=>decide (p.1∈sr)).map (λp=>JJ (p.1,[]))=(IR sr nd).map JJ:=by unfold IR;rw[QX];rfl
 rw[e];exact k
theorem yw(hl:h.9<=100)(k:pF Ψ q Z [bD (.tuple (es.map pr)),bD (.tuple (sr.map j3)),bD (.list (nd.map tR)),oW (.lst (h.map JJ)),oW (.lst (((h.map λr=>r.1).map j3).map T.d)),o5,o6,o7,o8]) :
  pF Ψ (.seq (.own 4 (.comp [kb,kb,kb,kb,kb,kb,kd,kb,kd] ["name","chains"] (.tp [0,1]) .val %[.var 3|1] .nop (.var 0))) q) Z [bD (.tuple (es.map pr)),bD (.tuple (sr.map j3)),bD (.list (nd.map tR)),oW (.lst (h.map JJ)),kf,o5,o6,o7,o8]:=by
 simp![↓En];refine dB JJ (λr=>T.d (.str r.1)) h [] _ (λx z R y=>?_) (by show 0+h.9<=_;omega) ?_;delta JJ;simp![↓Nw];exact y;rw[Qh,JA (λr:Rw=>j3 r.1)];have e:(h.map λr=>j3 r.1)=(h.map λr=>r.1).map j3:=by rw[QX];rfl
 rw[e];exact k
theorem jw(f:Ψ.sp "told_through"=xI){F:LS}{b:Bool}{x:Str}{n:Int}(a:es.9<=126)(k:sr.9<=11)(e:jK es sr)(j:h.9<=100)(i:F.9<=100)
  (w:x∈F->∀o8,Z.nx (MZ es sr nd h F b (bD (.str x)) (bD (.int n)) o8))
  (v:x∉F->¬ jL es sr x F n->∀o8,Z.nx (MZ es sr nd h F b (bD (.str x)) (bD (.int n)) o8))
  (u:x∉F->jL es sr x F n->∀cs o8,Z.nx (MZ es sr nd (h++[(x,cs)]) (F++[x]) kd (bD (.str x)) (bD (.int n)) o8)) :
  pF Ψ KC Z (MZ es sr nd h F b (bD (.str x)) (bD (.int n)) o8):=by
 delta MZ at w v u ⊢;delta KC;simp![gL,HI,TB,true_or];by_cases d:x∈F;rw[dT d];exact w d _;rw[dF d];simp![↓sC,↓Fd,↓xA (md:=[.fro,.fro,.shal]) f rfl rfl];refine#[_,_,_,_,rfl,#[a,k,e],λcs cut g=>?_];have y:=i6 (n:=n) g;simp![↓Ct,↓jm,↓Kr,QE];by_cases c:n<=(cs.9:Int);rw[dT c];simp![↓Bm,↓lx,↓u4,↓bq];rw[AQ];refine#[(),(),by rw[QE,QE];omega,?_];have:=u d (y.mpr c) (mD cs kf (kv n)) (bD (.list (cs.map ID)));rw[QR,QR,QR]at this;exact this;rw[dF c];exact v d (λz=>c (y.mp z)) _
end
end
structure GI(es:rC)(sr:LS)(nd:List (Str×Int))(rs:List Rw)(F:LS):Prop where
 e:F=rs.map λr=>r.1
 ndp:F.Nodup
 held:∀x∈F,Held es sr nd x
 see:∀x n,(x,n)∈nd->x∈sr->x∈F
 non:∀r∈rs,r.1∈sr->r.2=[]
section
variable{es:rC}{sr:LS}{nd:List (Str×Int)}{u:List Rw}{F:LS}
theorem GI.len(g:GI es sr nd u F):F.9<=nd.length:=by
 have:=mQ (ns:=nd.map λp=>p.1) g.ndp λs x=>by let#[n,h]:=Zc (g.held s x);exact QY.mpr #[_,h,rfl]
 rw[QE]at this;exact this
theorem GI.rlen(g:GI es sr nd u F):u.9=F.length:=by rw[g.e,QE]
theorem Tv(h:(nd.map λp=>p.1).Nodup):GI es sr nd (IR sr nd) ((IR sr nd).map λr=>r.1):=by
 have e:((IR sr nd).map λr=>r.1)=(nd.filter λp=>decide (p.1∈sr)).map λp=>p.1:=by unfold IR;rw[QX];rfl
 refine#[rfl,?_,λx y=>?_,λx n y v=>?_,λr z _=>?_];rw[e];exact h.sublist (qB.map _);rw[e]at y;let#[p,w,rfl]:=QY.mp y;let#[a,k]:=QZ.mp w;exact .see (n:=p.2) a (aj k);rw[e];exact QY.mpr #[(x,n),QZ.mpr #[y,dT v],rfl];unfold IR at z;let#[p,_,rfl]:=QY.mp z;rfl
theorem GI.add(g:GI es sr nd u F){x:Str}{n:Int}(w:(x,n)∈nd)(f:x∉F)(m:jL es sr x F n)(cs:List (LS)):GI es sr nd (u++[(x,cs)]) (F++[x]):=by
 refine#[by rw[QR,<- g.e];rfl,qj.mpr #[g.ndp,Qe.mpr #[λz=>(nomatch z),Q1],λa j b hb e=>?_],λy v=>?_,λy k v h=>Qp _ (g.see y k v h),λr i h=>?_];rw[QI.mp hb]at e;exact f (e▸j);rcases Qg.mp v with z|z
 ·exact g.held y z
 rw[QI.mp z];exact .tell F w g.held m;rcases Qg.mp i with z|z
 ·exact g.non r z h
 rw[QI.mp z]at h;exact Uz (g.see x n w h) f
end
def dI:PSp where
 run:=λu Q _=>∃(y:rC) (h:LS) (nd:List (Str×Int)),u=[.d (.tuple (y.map pr)),.d (.tuple (h.map j3)),.d (.list (nd.map tR))]/\(y.9<=126/\h.9<=11/\jK y h/\nd.9<=90/\(nd.map λp=>p.1).Nodup)/\∀z F,GI y h nd z F->(∀x,x∈F↔Held y h nd x)->Q (.lst (z.map JJ)) []
theorem LY{es:rC}{sr:LS}{nd:List (Str×Int)}{K:T->LT->Prop}{E:XE}(l:es.9<=126/\sr.9<=11/\jK es sr/\nd.9<=90/\(nd.map λp=>p.1).Nodup)(q:∀h F,GI es sr nd h F->(∀x,x∈F↔Held es sr nd x)->K (.lst (h.map JJ)) []):OL dI [.d (.tuple (es.map pr)),.d (.tuple (sr.map j3)),.d (.list (nd.map tR))] K E:=#[es,sr,nd,rfl,l,q]
section
variable{Ψ:PEv}{Z:PEnds}{es:rC}{sr:LS}{nd:List (Str×Int)}{u:List Rw}{F:LS}
theorem Iv(J:Ψ.sp "told_through"=xI)(E:es.9<=126)(C:sr.9<=11)(I:jK es sr)(M:nd.9<=90){b:Bool}{o6 o7 o8:Option Sl}(g:GI es sr nd u F)
  (k:∀v F' w o6 o7 o8,GI es sr nd v F'->F.9<=F'.9->(w=kd->F.9<F'.9)->(w=kb->∀x n,(x,n)∈nd->x∉F'->¬ jL es sr x F' n)->Z.nx (MZ es sr nd v F' w o6 o7 o8)) :
  pF Ψ ZC Z (MZ es sr nd u F b o6 o7 o8):=by
 delta MZ;delta ZC;simp![↓vA];rw[<- JA tR nd];refine rB (λ(p:Str×Int)=>T.d (tR p)) (λl q=>∃v F' w o6 o7 o8,GI es sr nd v F'/\(∀p∈l,p∈nd)/\F.9<=F'.9/\(w=kd->F.9<F'.9)/\(w=kb->∀x n,(x,n)∈nd->(x,n)∈l∨x∈F'∨¬ jL es sr x F' n)/\q=MZ es sr nd v F' w o6 o7 o8) ?_ ?_ _ _ #[u,F,kb,_,_,_,g,λ_ z=>z,QT _,λz=>(nomatch z),λ_ x n h=>.inl h,rfl];rintro q ⟨v,F',w,A,K,W,a,_,o,j,i,rfl⟩;exact k v F' w _ _ _ a o j λhb x n X f=>((i hb x n X).resolve_left λz=>(nomatch z)).resolve_left f;rintro⟨x,n⟩ l q N Y ⟨v,F',w,A,K,W,a,m,o,j,i,rfl⟩;have X:=m _ QF;have r:∀p∈l,p∈nd:=λp G=>m p (QD _ G);have P:=a.len;have O:=a.rlen;refine FF.mk rfl ?_;refine jw (x:=x) (n:=n) J E C I () () (λf o8=>Y _ #[v,F',w,_,_,_,a,r,o,j,λhb y k s=>?_,rfl]) (λf nm o8=>Y _ #[v,F',w,_,_,_,a,r,o,j,λhb y k s=>?_,rfl]) λf B L o8=>Y _ #[_,_,kd,_,_,_,a.add X f B L,r,?_,λ_=>?_,λz=>(nomatch z),rfl];rcases i hb y k s with z|z
 ·rcases QM.mp z with e|z
  ·cases e
   exact .inr (.inl f)
  exact .inl z
 exact .inr z;rcases i hb y k s with z|z
 ·rcases QM.mp z with e|z
  ·cases e
   exact .inr (.inr nm)
  exact .inl z
 exact .inr z;rw[QJ,Q8];omega;rw[QJ,Q8];omega
end
theorem G5{Ψ:PEv}(p:Ψ.sp "told_through"=xI):EH Ψ rG dI aG YF:=by
 rintro _ Q _ ⟨es,sr,nd,rfl,⟨i,f,l,e,o⟩,q⟩;refine nA [bD (.tuple (es.map pr)),bD (.tuple (sr.map j3)),bD (.list (nd.map tR)),kf,kf,kf,kf,kf,kf] ?_;have g0:=Tv (es:=es) (sr:=sr) o;have K:=g0.len;have W:=g0.rlen;refine zw () (yw () ?_);simp![↓vA];refine yI (λm u=>∃h F b o6 o7 o8,m=2 * (nd.9 - F.9)+(if b=kd then 1 else 0)/\GI es sr nd h F/\(b=kb->∀x n,(x,n)∈nd->x∉F->¬ jL es sr x F n)/\u=MZ es sr nd h F b o6 o7 o8) _ #[_,_,kd,kf,kf,kf,rfl,g0,λz=>(nomatch z),rfl] ?_;rintro m u ⟨h,F,b,o6,o7,o8,k,g,r,rfl⟩;cases b with
 |true =>
  have v:=λ(Z:PEnds) j=>Iv (Ψ:=Ψ) (Z:=Z) (b:=kd) (o6:=o6) (o7:=o7) (o8:=o8) p i f l e g j;unfold MZ at v;delta MZ;simp![↓vA];refine v _ λy Y a o6 o7 o8 w A X s=>#[_,?_,y,Y,a,o6,o7,o8,rfl,w,s,rfl]
  have:=w.len;cases a with|true=>have:=X rfl;rw[k,t6 rfl];omega|false=>rw[k,t6 rfl,t3 QG];omega
 |false=>delta MZ;simp![↓vA];exact q h F g λx=>k7 g.held g.see (r rfl) x
noncomputable def VJ(p:Str×Int×Int×Int):D:=.tuple [.str p.1,.int p.2.1,.int p.2.2.1,.int p.2.2.2]
inductive Evt where
 |see (t:Int) (p m w:Str)|tell (t:Int) (a b m w:Str) (by_:LS)
noncomputable def rD:Evt->D
 | .see t p m w=>.tuple [.str "see",.int t,.str p,.str m,.str w]|.tell t a b m w q=>.tuple [.str "tell",.int t,.str a,.str b,.str m,.str w,.tuple (q.map j3)]
structure Wd where
 ps:List (Str×Int×Int×Int)
 ms:LS
 ag:rC
 es:List Evt
def wD(w:Wd):D:=.tuple [.list (w.ps.map VJ),.list (w.ms.map j3),.list (w.ag.map pr),.list (w.es.map rD)]
section
variable{w:Wd}{p:Str×Int×Int×Int}{n m:Bool}{R:T->Prop}
theorem FA{ds:List D}{i:Nat}{d:D}(h:ds[i]?=kv d):BA (.d (.tuple ds)) n (.d (.int (i:Int))) m R=R (.d d):=by rw[U1,show fE ds (i:Int)=kv d from MC h,EB]
theorem J1:BA (.d (wD w)) n (.d (.int 0)) m R=R (.d (.list (w.ps.map VJ))):=FA (i:=0) rfl
theorem Xh:BA (.d (wD w)) n (.d (.int 1)) m R=R (.d (.list (w.ms.map j3))):=FA (i:=1) rfl
theorem Ut:BA (.d (wD w)) n (.d (.int 2)) m R=R (.d (.list (w.ag.map pr))):=FA (i:=2) rfl
theorem eR:BA (.d (wD w)) n (.d (.int 3)) m R=R (.d (.list (w.es.map rD))):=FA (i:=3) rfl
theorem ZN:BA (.d (VJ p)) n (.d (.int 0)) m R=R (.d (.str p.1)):=FA (i:=0) rfl
theorem At:BA (.d (VJ p)) n (.d (.int 1)) m R=R (.d (.int p.2.1)):=FA (i:=1) rfl
theorem Tt:BA (.d (VJ p)) n (.d (.int 2)) m R=R (.d (.int p.2.2.1)):=FA (i:=2) rfl
theorem Ot:BA (.d (VJ p)) n (.d (.int 3)) m R=R (.d (.int p.2.2.2)):=FA (i:=3) rfl
end
def XN(w:Wd):List (Str×Int):=w.ps.map λp=>(p.1,p.2.2.2)
def PU:PSp where
 run:=λh Q _=>∃w:Wd,h=[.d (wD w)]/\w.ps.9<=90/\Q (.lst (((XN w).map tR).map T.d)) []
theorem ij{Ψ:PEv}:EH Ψ NH PU nN bK:=by
 rintro _ Q _ ⟨w,rfl,l,q⟩;refine nA [bD (wD w)] ?_;delta NH;simp![↓J1];rw[<- JA VJ];refine dB (λp=>T.d (VJ p)) (λp=>T.d (tR (p.1,p.2.2.2))) w.ps [] _ (λx y R h=>?_) (by show 0+w.ps.9<=_;omega) ?_;simp![↓ZN,↓Ot];exact#[(),h];rw[Qh,JA λp:Str×Int×Int×Int=>tR (p.1,p.2.2.2)];have e:(w.ps.map λp=>tR (p.1,p.2.2.2))=(XN w).map tR:=by unfold XN;rw[QX];rfl
 rw[e];exact q
noncomputable def eE(es:rC)(sr:LS):D:=.tuple [.tuple (sr.map j3),.tuple (es.map pr)]
section
variable{es:rC}{sr:LS}{n m:Bool}{R:T->Prop}
theorem zu:BA (.d (eE es sr)) n (.d (.int 0)) m R=R (.d (.tuple (sr.map j3))):=FA (i:=0) rfl
theorem yu:BA (.d (eE es sr)) n (.d (.int 1)) m R=R (.d (.tuple (es.map pr))):=FA (i:=1) rfl
end
def zL:PSp where
 run:=λz Q _=>∃(w:Wd) (y:rC) (h:LS),z=[.d (wD w),.d (eE y h)]/\(y.9<=126/\h.9<=11/\jK y h/\w.ps.9<=90/\(w.ps.map λp=>p.1).Nodup)/\∀l:LS,(∀x,x∈l↔Held y h (XN w) x)->l.9<=90->Q (.lst ((l.map j3).map T.d)) []
theorem An{ts:LT}{W:LT->Prop}:JK .val [(.lst ts,kd)] W=W ((ersT ts).map T.d):=zG _
theorem Rk(r:Rw):(JJ r).er=.tuple [.str r.1,.list (ersT ((r.2.map ID).map T.d))]:=rfl
theorem Kb{Ψ:PEv}(l:Ψ.sp "ground_alone"=dI)(j:Ψ.sp "needs_of"=PU):EH Ψ tF zL fJ xH:=by
 rintro _ Q _ ⟨w,m,z,rfl,⟨a,k,b,y,nd⟩,q⟩;have v:(XN w).9<=90:=by unfold XN;rw[QE];exact y
 have u:((XN w).map λp=>p.1).Nodup:=by unfold XN;rw[QX];exact nd
 refine nA [bD (wD w),bD (eE m z)] ?_;delta tF;simp![↓zu,↓yu,↓xA (md:=[]) l rfl rfl,↓xA (md:=[]) j rfl rfl];refine#[_,rfl,y,?_];simp![↓vA];refine LY #[a,k,b,v,u] λh F g i=>?_;rw[An];have fl:=g.len;have rl:h.9=F.length:=by rw[g.e,QE]
 rw[PQ,QX,QX];refine#[rfl,?_];refine dB (λr=>T.d (JJ r).er) (λr=>T.d (.str r.1)) h [] _ (λx n R f=>?_) (by show 0+h.9<=_;omega) ?_;rw[Rk];simp![↓vA];exact f;rw[Qh,JA (λr:Rw=>j3 r.1)];have e:(h.map λr=>j3 r.1)=F.map j3:=by rw[g.e,QX];rfl
 rw[e];exact q F i ()
noncomputable def HA(h:List Evt)(n:Nat):Evt:=(h[n]?).getD (.see 0 "" "" "")
def TD(e:Evt):Prop:=∃t a b m w q,e=.tell t a b m w q
def lq:Evt->Str
 | .see _ _ m _=>m|.tell _ _ _ m _ _=>m
noncomputable def bJ:Evt->Str×Str
 | .see _ p m _=>(p,m)|.tell _ a b _ _ _=>(a,b)
def nD(n:Nat):D:=.int (n:Int)
theorem YR{x:List Evt}{i:Nat}{n m:Bool}{R:T->Prop}(h:i<x.9):BA (.d (.list (x.map rD))) n (.d (nD i)) m R=R (.d (rD (HA x i))):=by delta nD;rw[Bh,show fE (x.map rD) (i:Int)=kv (rD (HA x i)) from MC (by rw[Qd,Qr h];unfold HA;rw[Qr h];rfl),EB]
section
variable{e:Evt}{n m:Bool}{R:T->Prop}
theorem Sd(h:TD e):BA (.d (rD e)) n (.d (.int 2)) m R=R (.d (.str (bJ e).1)):=by let#[t,a,b,x,w,q,rfl]:=h;exact FA (i:=2) rfl
theorem Pd(h:TD e):BA (.d (rD e)) n (.d (.int 3)) m R=R (.d (.str (bJ e).2)):=by let#[t,a,b,x,w,q,rfl]:=h;exact FA (i:=3) rfl
theorem Yn(h:TD e):BA (.d (rD e)) n (.d (.int 4)) m R=R (.d (.str (lq e))):=by let#[t,a,b,x,w,q,rfl]:=h;exact FA (i:=4) rfl
end
section
variable{Ψ:PEv}{ks:List Pt}{L:Bool->Prop}
theorem Te{ds:List D}{Q:T->Bool->Prop}:LH .tuple [(.lst (ds.map T.d),kd)] Q=Q (.d (.tuple ds)) false:=by unfold LH CB;show GW .tuple [.ls ((ersT (ds.map T.d)).map T.d)] Q=_;rw[DA,zg];exact Az #[λ#[_,e,q]=>by rw[YA]at e;cases e;exact q,λq=>#[_,YA _,q]]
def FH(h:List Evt)(x:LN)(m:Str):rC:=(x.filter λn=>decide (lq (HA h n)=m)).map λn=>bJ (HA h n)
def ZP:PSp where
 md:=[.fro,.shal]
 run:=λy Q _=>∃(h:List Evt) (x:LN) (m:Str),y=[.d (.list (h.map rD)),.lst ((x.map nD).map T.d),.d (.str m)]/\x.9<=100/\(∀n∈x,n<h.9/\TD (HA h n))/\Q (.d (.tuple ((FH h x m).map pr))) []
theorem Vj:EH Ψ SH ZP aN mK:=by
 rintro _ Q _ ⟨h,y,m,rfl,l,a,q⟩;refine nA [bD (.list (h.map rD)),kv (.bor (.lst ((y.map nD).map T.d))),bD (.str m),kf] ?_;delta SH;simp![↓vA];rw[<- JA nD];refine rA (λn=>T.d (nD n)) (λn=>T.d (rD (HA h n))) (λn=>decide (lq (HA h n)=m)) y [] _ (λx v R u=>?_) (by show 0+y.9<=_;omega) ?_;simp![↓YR (a x v).1,↓Yn (a x v).2];split at u;rename_i c;rw[t6 c];exact u;rename_i c;rw[t3 c];exact u;rw[Qh,JA λn=>rD (HA h n)];simp![↓vA];rw[<- JA λn=>rD (HA h n)];refine dB (λn=>T.d (rD (HA h n))) (λn=>T.d (pr (bJ (HA h n)))) _ [] _ (λx v R u=>?_) (by show 0+(List.filter _ y).9<=_;have:=Q9 (λn=>decide (lq (HA h n)=m)) y;omega) ?_;have z:=(QZ.mp v).1;simp![↓Sd (a x z).2,↓Pd (a x z).2];exact#[(),u];rw[Qh,JA λn=>pr (bJ (HA h n)),Te];have e:((y.filter λn=>decide (lq (HA h n)=m)).map λn=>pr (bJ (HA h n)))=(FH h y m).map pr:=by unfold FH;rw[QX];rfl
 rw[e];simp![↓vA];exact q
noncomputable def vK(w:Wd)(x:Str):LJ:=(w.ps.filter λp=>decide (p.1=x)).map λp=>p.2.1
def eP:PSp where
 run:=λh Q _=>∃(w:Wd) (x:Str) (r:Int),h=[.d (wD w),.d (.str x)]/\w.ps.9<=90/\(vK w x)[0]?=kv r/\Q (.d (.int r)) []
theorem Jb:EH Ψ OJ eP bP jM:=by
 rintro _ Q _ ⟨w,x,r,rfl,l,a,q⟩;refine nA [bD (wD w),bD (.str x)] ?_;delta OJ;simp![↓J1];rw[<- JA VJ];refine rA (λp=>T.d (VJ p)) (λp=>T.d (.int p.2.1)) (λp=>decide (p.1=x)) w.ps [] _ (λp z R h=>?_) (by show 0+w.ps.9<=_;omega) ?_;simp![↓ZN,↓At];split at h;rename_i c;rw[t6 c];exact h;rename_i c;rw[t3 c];exact h;rw[Qh,JA λp:Str×Int×Int×Int=>j5 p.2.1];have e:((w.ps.filter λp=>decide (p.1=x)).map λp=>j5 p.2.1)=(vK w x).map j5:=by unfold vK;rw[QX];rfl
 rw[e];have y:fE ((vK w x).map j5) 0=kv (.int r):=MC (j:=0) (by rw[Qd,a];rfl);simp![y];exact q
noncomputable def xG(w:Wd)(x:Str):LJ:=(w.ps.filter λp=>decide (p.1=x)).map λp=>p.2.2.1
def FL:PSp where
 run:=λh Q _=>∃(w:Wd) (x:Str) (r:Int),h=[.d (wD w),.d (.str x)]/\w.ps.9<=90/\(xG w x)[0]?=kv r/\Q (.d (.int r)) []
theorem U5:EH Ψ RH FL tN lK:=by
 rintro _ Q _ ⟨w,x,r,rfl,l,a,q⟩;refine nA [bD (wD w),bD (.str x)] ?_;delta RH;simp![↓J1];rw[<- JA VJ];refine rA (λp=>T.d (VJ p)) (λp=>T.d (.int p.2.2.1)) (λp=>decide (p.1=x)) w.ps [] _ (λp z R h=>?_) (by show 0+w.ps.9<=_;omega) ?_;simp![↓ZN,↓Tt];split at h;rename_i c;rw[t6 c];exact h;rename_i c;rw[t3 c];exact h;rw[Qh,JA λp:Str×Int×Int×Int=>j5 p.2.2.1];have e:((w.ps.filter λp=>decide (p.1=x)).map λp=>j5 p.2.2.1)=(xG w x).map j5:=by unfold xG;rw[QX];rfl
 rw[e];have y:fE ((xG w x).map j5) 0=kv (.int r):=MC (j:=0) (by rw[Qd,a];rfl);simp![y];exact q
noncomputable def tK(ks:List Pt):T:=.dct kd (ks.map pr) (ks.map λ_=>T.d (.bool kd))
noncomputable def dU(ks:List Pt)(p:Pt):List Pt:=if p∈ks then ks else ks++[p]
theorem cU(ks:List Pt)(p:Pt):(dU ks p).9<=ks.9+1:=by unfold dU;split;omega;simp
theorem mO{α h:Type}(c:h):∀(l:List α) (n:Nat),(l.map λ_=>c).set n c=l.map λ_=>c
 |[],_=>rfl|_::_,0=>rfl|x::l,n+1=>by show c::(l.map λ_=>c).set n c=_;rw[mO c l n];rfl
theorem de{p:Pt}{Q:T->Prop}(hl:ks.9<kt)(q:Q (tK (dU ks p))):ge (tK ks) (.d (pr p)) (.d (.bool kd)) Q:=by
 refine#[IB p,by rw[QE];exact hl,?_];show Q (KJ kd (ks.map pr) (ks.map λ_=>T.d (.bool kd)) (pr p) (.d (.bool kd)));unfold dU at q;unfold KJ;by_cases c:p∈ks;rw[t6 c]at q;cases e:fA (ks.map pr) (pr p) with|none=>exact Uz (NP.mpr c) (kB.mp e)|some n=>show Q (.dct kd (ks.map pr) ((ks.map λ_=>T.d (.bool kd)).set n (.d (.bool kd))));rw[mO];exact q
 rw[t3 c]at q;rw[kB.mpr λz=>c (NP.mp z)];unfold tK at q;rw[QR,QR]at q;exact q
theorem lr{q:Pt}:JB .In (.d (pr q)) (tK ks) L=L (decide (q∈ks)):=by unfold tK;rw[k8,LI];exact Az #[λh=>h.2,λh=>#[IB q,h]]
theorem Vl{q:Pt}:JB .NotIn (.d (pr q)) (tK ks) L=L (!decide (q∈ks)):=by unfold tK;rw[jN,LI];exact Az #[λh=>h.2,λh=>#[IB q,h]]
def MF(h:List Evt)(ks:List Pt)(n:Nat):List Pt:=match HA h n with
 | .see _ p m _=>dU ks (p,m)|_=>ks
def FB(h:List Evt)(l:LN):List Pt:=l.foldl (MF h) []
noncomputable def y9:Evt->Str
 | .see _ _ _ _=>"see"|.tell _ _ _ _ _ _=>"tell"
end
section
variable{e:Evt}{n m:Bool}{R:T->Prop}{t:Int}{p h w:Str}
theorem JR:BA (.d (rD e)) n (.d (.int 0)) m R=R (.d (.str (y9 e))):=by cases e;exact FA (i:=0) rfl;exact FA (i:=0) rfl
theorem Td:BA (.d (rD (.see t p h w))) n (.d (.int 2)) m R=R (.d (.str p)):=FA (i:=2) rfl
theorem C1:BA (.d (rD (.see t p h w))) n (.d (.int 3)) m R=R (.d (.str h)):=FA (i:=3) rfl
end
section
variable{Ψ:PEv}{ks z:List Pt}{a b:Str}{L:Bool->Prop}{ns:LJ}
theorem kG{c a b:Prop}[Decidable c](h:¬ c)(q:b):if c then a else b:=by rw[t3 h];exact q
def Gu(h:List Evt)(l:LN)(ks:List Pt)(o3:Option Sl):kA:=[bD (.list (h.map rD)),kv (.bor (.lst (l.map λn=>T.d (nD n)))),oW (tK ks),o3]
def yL:PSp where
 md:=[.fro,.shal]
 run:=λx Q _=>∃(h:List Evt) (l:LN),x=[.d (.list (h.map rD)),.lst ((l.map nD).map T.d)]/\l.9<=100/\(∀n∈l,n<h.9)/\Q (tK (FB h l)) []
theorem gb:EH Ψ gF yL cJ kH:=by
 rintro _ Q _ ⟨h,l,rfl,hl,j,q⟩;refine nA [bD (.list (h.map rD)),kv (.bor (.lst ((l.map nD).map T.d))),kf,kf] ?_;delta gF;simp![↓vA];rw[<- JA nD];refine rB (λn=>T.d (nD n)) (λr y=>∃ks u,r.foldl (MF h) ks=FB h l/\ks.9+r.9<=100/\(∀n∈r,n<h.9)/\y=Gu h l ks u) ?_ ?_ l _ #[[],kf,rfl,by simpa using hl,j,rfl];rintro y ⟨ks,u,e,_,_,rfl⟩;have e:ks=FB h l:=e;subst e;delta Gu;simp![↓vA];exact q;rintro n r y N i ⟨ks,u,e,hk,k,rfl⟩;have g:ks.9+(r.9+1)<=100:=hk;have f:=k n QF;delta Gu;delta hG;simp![↓YR f,↓JR];have e:r.foldl (MF h) (MF h ks n)=FB h l:=e;unfold MF at e;cases ev:HA h n with|see t p m w=>rw[ev]at e;simp![y9,↓Td,↓C1];rw[YR f,ev];simp![↓C1];exact#[(),de (p:=(p,m)) () (i _ #[dU ks (p,m),_,e,by have:=cU ks (p,m);omega,λx v=>k x (QD _ v),rfl])]|tell t a b m w o=>rw[ev]at e;refine kG (show decide ((QS "tell")=(QS "see"))≠kd by decide) ?_;exact i _ #[ks,_,e,(),λx v=>k x (QD _ v),rfl]
theorem DW:JB .In (.d (.tuple [.str a,.str b])) (tK ks) L=L (decide ((a,b)∈ks)):=lr (q:=(a,b))
theorem oY:JB .NotIn (.d (.tuple [.str a,.str b])) (tK ks) L=L (!decide ((a,b)∈ks)):=Vl (q:=(a,b))
noncomputable def rH(w:Wd)(ks:List Pt)(m:Str):LS:=(w.ps.filter λp=>decide ((p.1,m)∈ks)).map λp=>p.1
def aP:PSp where
 md:=[.fro,.bor]
 run:=λh Q _=>∃(w:Wd) (ks:List Pt) (m:Str),h=[.d (wD w),tK ks,.d (.str m)]/\w.ps.9<=90/\Q (.d (.tuple ((rH w ks m).map j3))) []
theorem pj:EH Ψ MH aP lN xK:=by
 rintro _ Q _ ⟨w,ks,m,rfl,l,q⟩;refine nA [bD (wD w),kv (.bor (tK ks)),bD (.str m)] ?_;delta MH;simp![↓J1];rw[<- JA VJ];refine rA (λp=>T.d (VJ p)) (λp=>T.d (.str p.1)) (λp=>decide ((p.1,m)∈ks)) w.ps [] _ (λp x R h=>?_) (by show 0+w.ps.9<=_;omega) ?_;simp![↓ZN,↓DW];refine#[(),?_];split at h;rename_i c;rw[t6 c];exact h;rename_i c;rw[t3 c];exact h;rw[Qh,JA λp:Str×Int×Int×Int=>j3 p.1,Te];have e:((w.ps.filter λp=>decide ((p.1,m)∈ks)).map λp=>j3 p.1)=(rH w ks m).map j3:=by unfold rH;rw[QX];rfl
 rw[e];simp![↓vA];exact q
theorem Lr{E:XE}{ρ:kA}{a c h:PX}{t u:Str}{x y:D}{op:h7}{R:Option T->Prop}:dH Ψ E [] [t,u] (.tp [0,1]) (.cmp op a c) h ρ (.d (.tuple [x,y])) R=oK Ψ (.cmp op a c) E (bD x::bD y::lockA ρ) λk v=>if k=kd then mB Ψ h E v λy n _=>EC y n (R (kv y)) else R none:=EB
theorem MX:∀{l:List D},(∀x∈l,x.canLay0=kd/\x.depth<=1)->qk l=kd/\wb l<=1
 |[],_=>by simp[qk,wb]|x::l,h=>by let#[w,e]:=h x QF;let#[u,k]:=MX (l:=l) λy v=>h y (QD _ v);simp only[qk,wb,w,u,Bool.and_self,true_and];omega
theorem Jj{l:List D}(h:∀x∈l,x.canLay0=kd/\x.depth<=1):ZD (.list l):=by let#[y,u]:=MX h;refine#[?_,?_];simp only[QAZ];exact y;simp only[QA6];omega
noncomputable def HK(w:Wd)(m:Str):LS:=(w.ag.filter λp=>decide (p.1=m)).map λp=>p.2
noncomputable def GK(w:Wd)(m:Str):LS:=(w.ag.filter λp=>decide (p.2=m)).map λp=>p.1
def OkS(a:Str):Prop:=qW a=kd
def Xm(h:T)(f:Pt->Bool):Prop:=∀a b (L:Bool->Prop),OkS a->OkS b->L (f (a,b))->JB .In (.d (.tuple [.str a,.str b])) h L
theorem Zq(ks:List Pt):Xm (tK ks) λq=>decide (q∈ks):=λa b L _ _ h=>by rw[DW];exact h
theorem rj(h:∀p∈z,OkS p.1/\OkS p.2):ZD (.list (z.map pr)):=Jj λx u=>by let#[p,y,rfl]:=QY.mp u;have q:=vE (h p y).1 (h p y).2;exact#[q.1,by simp[pr,QA6,wb]]
theorem A6(h:∀p∈z,OkS p.1/\OkS p.2):Xm (.d (.list (z.map pr))) λq=>decide (q∈z):=λa b L u hb q=>by
 refine#[.inr #[vE u hb,rj h],?_];have e:((z.map pr).any λy=>Qw y (.tuple [.str a,.str b]))=decide ((a,b)∈z):=by rw[QCM,qF,Wx,ax];constructor;rintro⟨p,x,e⟩;have e:Qw (pr p) (pr (a,b))=true:=e;rw[pW,ax]at e;exact e▸x;intro x;refine#[(a,b),x,?_];show Qw (pr (a,b)) (pr (a,b))=kd;rw[pW];exact dT rfl
 show L ((z.map pr).any λy=>Qw y (.tuple [.str a,.str b]));rw[e];exact q
def KP:PSp where
 md:=[.fro,.bor]
 run:=λy Q _=>∃(w:Wd) (h:T) (f:Pt->Bool) (x m:Str),y=[.d (wD w),h,.d (.str x),.d (.str m)]/\(Xm h f/\OkS x/\∀p∈w.ag,OkS p.1/\OkS p.2)/\w.ag.9<=100/\Q (.d (.bool ((HK w m++GK w m).any λr=>f (x,r)))) []
theorem Xj:EH Ψ tE KP lH PF:=by
 rintro _ Q _ ⟨w,v,f,x,m,rfl,⟨i,k,u⟩,l,q⟩;have Y:=Q9 (λp:Str×Str=>decide (p.1=m)) w.ag;have X:=Q9 (λp:Str×Str=>decide (p.2=m)) w.ag;have s:(HK w m).9<=100:=by unfold HK;rw[QE];omega
 have o:(GK w m).9<=100:=by unfold GK;rw[QE];omega
 refine nA [bD (wD w),kv (.bor v),bD (.str x),bD (.str m),kf] ?_;delta tE;simp![↓Ut];rw[<- JA pr w.ag];refine rA (λp=>T.d (pr p)) (λ(p:Str×Str)=>T.d (.str p.2)) (λp=>decide (p.1=m)) w.ag [] _ (λp e R y=>?_) (by show 0+w.ag.9<=_;omega) ?_;delta pr;simp![↓Lr];split at y;rename_i c;rw[t6 c];exact y;rename_i c;rw[t3 c];exact y;rw[Qh,JA λp:Str×Str=>j3 p.2];have n:((w.ag.filter λp=>decide (p.1=m)).map λp=>j3 p.2)=(HK w m).map j3:=by unfold HK;rw[QX];rfl
 rw[n];refine rA (λp=>T.d (pr p)) (λ(p:Str×Str)=>T.d (.str p.1)) (λp=>decide (p.2=m)) w.ag [] _ (λp e R y=>?_) (by show 0+w.ag.9<=_;omega) ?_;delta pr;simp![↓Lr];split at y;rename_i c;rw[t6 c];exact y;rename_i c;rw[t3 c];exact y;rw[Qh,JA λp:Str×Str=>j3 p.1];have j:((w.ag.filter λp=>decide (p.2=m)).map λp=>j3 p.1)=(GK w m).map j3:=by unfold GK;rw[QX];rfl
 rw[j,<- QR,<- QR];refine#[by rw[QE,QE,QE,QE];omega,?_];simp![↓vA];rw[<- JA j3];refine dB (λr=>T.d (.str r)) (λr=>T.d (.bool (f (x,r)))) (HK w m++GK w m) [] _ (λr e R y=>?_) (by show 0+(HK w m++GK w m).9<=_;rw[QJ];omega) ?_;simp![↓vA];refine#[(),i _ _ _ k ?_ y];rcases Qg.mp e with h|h;let#[p,g,rfl]:=QY.mp h;exact(u p (QZ.mp g).1).2;let#[p,g,rfl]:=QY.mp h;exact(u p (QZ.mp g).1).1;rw[Qh,JA λr=>PyData.bool (f (x,r)),yq];refine#[(HK w m++GK w m).map λr=>f (x,r),by rw[QX];rfl,?_];rw[QCM];simp![↓vA];exact q
theorem Ae{n:Bool}{Q:T->Bool->Prop}(x:ns.9<64)(q:∀h:LJ,h.Perm ns->h.Pairwise (·<=·)->Q (.lst ((h.map j5).map T.d)) kd):LH .sorted [(.lst ((ns.map j5).map T.d),n)] Q:=by unfold LH CB;rw[BD];exact .inr (.inr #[_,ns,rfl,YA _,x,q])
theorem FX{l:LN}(h:ns.Perm (l.map λ(n:Nat)=>(n:Int)))(u:ns.Pairwise (·<=·)):∃y:LN,ns=y.map (λ(n:Nat)=>(n:Int))/\y.Perm l/\y.Pairwise (·<=·):=by
 have e:ns=(ns.map QCj).map λ(n:Nat)=>(n:Int):=by rw[QX];refine(QCb ns).symm.trans (wL λx v=>?_);let#[n,_,rfl]:=QY.mp (h.mem_iff.mp v);rfl
 refine#[ns.map QCj,e,?_,?_];have:=h.map QCj;rw[QX]at this;refine this.trans (QCi.of_eq ?_);exact(wL λn _=>rfl).trans (QCb l);rw[e]at u;exact(QCA.mp u).imp λh=>()
def VI(h:List Evt)(x:LN)(ks:List Pt):LN:=x.filter λn=>!decide (((bJ (HA h n)).1,(bJ (HA h n)).2)∈ks)
def jE:PSp where
 md:=[.fro,.shal,.bor]
 run:=λu Q _=>∃(h:List Evt) (x:LN) (ks:List Pt),u=[.d (.list (h.map rD)),.lst ((x.map nD).map T.d),tK ks]/\x.9<64/\(∀n∈x,n<h.9/\TD (HA h n))/\∀y:LN,y.Perm (VI h x ks)->y.Pairwise (·<=·)->Q (.lst ((y.map nD).map T.d)) []
theorem Yb:EH Ψ nF jE dJ vH:=by
 rintro _ Q _ ⟨h,x,ks,rfl,l,a,q⟩;refine nA [bD (.list (h.map rD)),kv (.bor (.lst ((x.map nD).map T.d))),kv (.bor (tK ks))] ?_;delta nF;simp![↓vA];rw[<- JA nD];refine rA (λn=>T.d (nD n)) (λn=>T.d (nD n)) (λn=>!decide (((bJ (HA h n)).1,(bJ (HA h n)).2)∈ks)) x [] _ (λn u R v=>?_) (by show 0+x.9<=_;omega) ?_;simp![↓YR (a n u).1,↓Sd (a n u).2,↓Pd (a n u).2,↓oY];refine#[(),?_];split at v;rename_i c;rw[t6 c];exact v;rename_i c;rw[t3 c];exact v;rw[Qh,JA nD];have e:(VI h x ks).map nD=((VI h x ks).map λ(n:Nat)=>(n:Int)).map j5:=by rw[QX];rfl
 have fl:=Q9 (λn=>!decide (((bJ (HA h n)).1,(bJ (HA h n)).2)∈ks)) x;show LH .sorted [(.lst (((VI h x ks).map nD).map T.d),kd)] _;rw[e];refine Ae (by rw[QE];unfold VI;omega) λf k w=>?_;let#[y,rfl,i,g]:=FX k w;have j:(y.map λ(n:Nat)=>(n:Int)).map j5=y.map nD:=by rw[QX];rfl
 rw[j];simp![↓vA];exact q y i g
def D1(w:Wd)(h:List Pt)(b m:Str):Bool:=!decide ((b,m)∈h)&&(HK w m++GK w m).any λr=>decide ((b,r)∈h)
def tL(w:Wd)(h ks:List Pt)(n:Nat):List Pt:=match HA w.es n with
 | .tell _ a b m _ _=>if D1 w h b m=kd then dU ks (a,b) else ks|_=>ks
def JN(w:Wd)(l:LN):List Pt:=l.foldl (tL w (FB w.es l)) []
def Vm(w:Wd)(x:Str):Prop:=∃p∈w.ps,p.1=x
def Od(w:Wd):Evt->Prop
 | .see _ p m h=>Vm w p/\m∈w.ms/\OkS h|.tell _ a b m h q=>Vm w a/\Vm w b/\m∈w.ms/\a≠b/\OkS h/\∀x∈q,Vm w x
structure WOk(w:Wd):Prop where
 ag:∀p∈w.ag,OkS p.1/\OkS p.2
 al:w.ag.9<=100
 pl:w.ps.9<=11
 pn:(w.ps.map λp=>p.1).Nodup
 po:∀p∈w.ps,OkS p.1
 ml:w.ms.9<=10
 mo:∀m∈w.ms,OkS m
 mn:w.ms.Nodup
 el:w.es.9<=60
 eo:∀e∈w.es,Od w e
theorem WOk.ev{w:Wd}(h:WOk w){n:Nat}(x:n<w.es.9):Od w (HA w.es n):=by unfold HA;rw[Qr x];exact h.eo _ (qz x)
theorem WOk.nm{w:Wd}(h:WOk w){x:Str}(y:Vm w x):OkS x:=by let#[p,u,rfl]:=y;exact h.po p u
end
section
variable{Ψ:PEv}{E:XE}{ρ:kA}{M:List (T×Bool)->kA->Prop}{a z:PX}{md:List Md}{d:D}{n m:Bool}{xs:List (T×Bool)}{C:LT->Prop}{R:T->Prop}{t:Int}{x b h y:Str}{q:LS}
theorem Xs{ks:List Pt}:A8 (tK ks) kb Ψ z E md ρ M=vL Ψ z E md (lockA ρ) λxs _=>M xs ρ:=rfl
theorem V1:BA (.d (rD (.tell t x b h y q))) n (.d (.int 2)) m R=R (.d (.str x)):=FA (i:=2) rfl
theorem K1:BA (.d (rD (.tell t x b h y q))) n (.d (.int 3)) m R=R (.d (.str b)):=FA (i:=3) rfl
theorem Y1:BA (.d (rD (.tell t x b h y q))) n (.d (.int 4)) m R=R (.d (.str h)):=FA (i:=4) rfl
end
section
variable{Ψ:PEv}{x:Str}{es:List Pt}{sr:LS}{u:Kn}
def fu(w:Wd)(l:LN)(ks:List Pt)(o4 o5:Option Sl):kA:=[bD (wD w),kv (.bor (.lst (l.map λn=>T.d (nD n)))),oW (tK (FB w.es l)),oW (tK ks),o4,o5]
def eD:PSp where
 md:=[.fro,.shal]
 run:=λh Q _=>∃(w:Wd) (l:LN),h=[.d (wD w),.lst ((l.map nD).map T.d)]/\WOk w/\l.9<=100/\(∀n∈l,n<w.es.9)/\Q (tK (JN w l)) []
theorem Y5(K:Ψ.sp "seen_among"=yL)(W:Ψ.sp "has_against"=KP):EH Ψ pE eD fH NF:=by
 rintro _ Q _ ⟨w,l,rfl,k,hl,X,q⟩;refine nA [bD (wD w),kv (.bor (.lst ((l.map nD).map T.d))),kf,kf,kf,kf] ?_;delta pE;simp![↓eR,↓xA (md:=[.fro,.shal]) K rfl rfl,↓sC,↓Fd];refine#[_,_,rfl,hl,X,?_];simp![↓vA];rw[<- JA nD];refine rB (λn=>T.d (nD n)) (λr i=>∃h o j,r.foldl (tL w (FB w.es l)) h=JN w l/\h.9+r.9<=100/\(∀n∈r,n<w.es.9)/\i=fu w l h o j) ?_ ?_ l _ #[[],kf,kf,rfl,by simpa using hl,X,rfl];rintro i ⟨h,o,j,e,_,_,rfl⟩;have e:h=JN w l:=e;subst e;delta fu;simp![↓vA];exact q;rintro n r i N f ⟨h,o,j,e,hk,z,rfl⟩;have Y:h.9+(r.9+1)<=100:=hk;have s:=z n QF;have v:=k.ev s;have e:r.foldl (tL w (FB w.es l)) (tL w (FB w.es l) h n)=JN w l:=e;unfold tL at e;delta fu;delta VF;simp![↓eR,↓YR s,↓JR];cases ev:HA w.es n with|see t p m Z=>rw[ev]at e;refine kG (show decide ((QS "see")=(QS "tell"))≠kd by decide) ?_;exact f _ #[h,_,_,e,(),λx y=>z x (QD _ y),rfl]|tell t a b m Z A=>rw[ev]at e v;let#[C,hb,B,_]:=v;simp![y9,↓V1,↓K1,↓Y1,↓oY,↓xA (md:=[.fro,.bor]) W rfl rfl,↓sC,↓Fd,↓Xs];refine#[(),?_];unfold D1 at e;by_cases c:(b,m)∈FB w.es l;simp![dT c];simp only[dT c,W6,QAV,Qu,if_false]at e;exact f _ #[h,_,_,e,(),λx y=>z x (QD _ y),rfl];simp![dF c];refine#[_,_,_,_,_,rfl,#[Zq _,k.nm hb,k.ag],k.al,?_];simp![↓vA];by_cases g:((HK w m++GK w m).any λr=>decide ((b,r)∈FB w.es l))=kd;simp![g];simp only[dF c,g,WI,WV,if_true]at e;exact#[(),de (p:=(a,b)) () (f _ #[dU h (a,b),_,_,e,by have:=cU h (a,b);omega,λx y=>z x (QD _ y),rfl])];rw[t3 g];simp only[dF c,WI,WV]at e;rw[t3 g]at e;exact f _ #[h,_,_,e,(),λx y=>z x (QD _ y),rfl]
theorem Nb{y:List Pt}(h:∀p∈y,OkS p.1/\OkS p.2){a b:Str}{L:Bool->Prop}(z:OkS a)(hb:OkS b)(q:L (!decide ((a,b)∈y))):JB .NotIn (.d (.tuple [.str a,.str b])) (.d (.list (y.map pr))) L:=A6 h a b (λc=>L (!c)) z hb q
def xS(w:Wd)(x:Str):Int:=((vK w x)[0]?).getD 0
def HM(w:Wd)(x:Str):Int:=((xG w x)[0]?).getD 0
theorem A9{w:Wd}(h:Vm w x):(vK w x)[0]?=kv (xS w x):=by
 let#[p,z,rfl]:=h;have y:p.2.1∈vK w p.1:=QY.mpr #[p,QZ.mpr #[z,dT rfl],rfl];unfold xS;cases e:vK w p.1 with|nil=>rw[e]at y;cases y|cons x r=>rfl
theorem J7{w:Wd}(h:Vm w x):(xG w x)[0]?=kv (HM w x):=by
 let#[p,z,rfl]:=h;have y:p.2.2.1∈xG w p.1:=QY.mpr #[p,QZ.mpr #[z,dT rfl],rfl];unfold HM;cases e:xG w p.1 with|nil=>rw[e]at y;cases y|cons x r=>rfl
def Vx(w:Wd)(wr h:List Pt):Evt->Bool
 | .see _ _ _ _=>kd|.tell _ a b m _ _=>decide ((a,m)∈h)&&!decide ((a,b)∈wr)&&decide (HM w b<=xS w a)&&!((HK w m++GK w m).any λr=>decide ((b,r)∈h))
def Nd(h:List Pt):Prop:=∀p∈h,OkS p.1/\OkS p.2
def OR:PSp where
 md:=[.fro,.fro,.bor,.fro]
 run:=λz Q _=>∃(w:Wd) (e:Evt) (y h:List Pt),z=[.d (wD w),.d (rD e),tK y,.d (.list (h.map pr))]/\WOk w/\Od w e/\Nd h/\Q (.d (.bool (Vx w y h e))) []
theorem Mp(Y:Ψ.sp "rank_of"=eP)(X:Ψ.sp "floor_of"=FL)(s:Ψ.sp "has_against"=KP):EH Ψ sF OR sN gK:=by
 rintro _ Q _ ⟨w,e,f,y,rfl,h,o,i,q⟩;refine nA [bD (wD w),bD (rD e),kv (.bor (tK f)),bD (.list (y.map pr)),kf,kf,kf] ?_;cases e with|see t p m l=>delta sF;simp![↓JR,y9];exact q|tell t a b m l Z=>let#[j,hb,n,_]:=o;delta sF;simp![↓JR,y9];refine kG (show decide ((QS "tell")=(QS "see"))≠kd by decide) ?_;simp![↓V1,↓K1,↓Y1,↓fU];refine#[(),Nb i (h.nm j) (h.mo _ n) ?_];have q:Q (.d (.bool (decide ((a,m)∈y)&&!decide ((a,b)∈f)&&decide (HM w b<=xS w a)&&!((HK w m++GK w m).any λr=>decide ((b,r)∈y))))) []:=q;by_cases k:(a,m)∈y;simp![dT k,↓DW];rw[dT k]at q;refine#[(),?_];by_cases v:(a,b)∈f;simp![dT v];rw[dT v]at q;exact q;simp![dF v,↓xA (md:=[]) Y rfl rfl,↓xA (md:=[]) X rfl rfl];rw[dF v]at q;have g:w.ps.9<=90:=QW h.pl (by decide);refine#[_,_,_,rfl,g,(A9 j),?_];simp![↓vA];refine#[_,_,_,rfl,g,(J7 hb),?_];simp![↓Kr];by_cases z:HM w b<=xS w a;simp![dT z,↓xA (md:=[.fro,.bor]) s rfl rfl,↓sC,↓Fd];rw[dT z]at q;refine#[_,_,_,_,_,rfl,#[A6 i,h.nm hb,h.ag],h.al,?_];simp![↓vA];exact q;simp![dF z];rw[dF z]at q;exact q;simp![dF k];rw[dF k]at q;exact q
noncomputable abbrev Kn:=List ((List Pt×LS)×LS)
def YZ(u:Kn):List D:=u.map λx=>eE x.1.1 x.1.2
def gk(u:Kn):LT:=u.map λx=>T.d (.list (x.2.map j3))
def JZ(u:Kn):T:=.dct kd (YZ u) (gk u)
def yK(w:Wd)(u:Kn):Prop:=∀x∈u,∀y,y∈x.2↔Held x.1.1 x.1.2 (XN w) y
theorem ke:∀l:LS,tDs (l.map NK.s)=l.map j3
 |[]=>rfl|x::l=>by show j3 x::tDs (l.map NK.s)=_;rw[ke l];rfl
theorem ve:∀l:List Pt,tDs (l.map λp=>NK.t [.s p.1,.s p.2])=l.map pr
 |[]=>rfl|x::l=>by show pr x::tDs (l.map λp=>NK.t [.s p.1,.s p.2])=_;rw[ve l];rfl
theorem Op:∀l:LS,nkds (l.map NK.s)=0
 |[]=>rfl|x::l=>by show max 0 (nkds (l.map NK.s))=0;rw[Op l];rfl
theorem Pp:∀l:List Pt,nkds (l.map λp=>NK.t [.s p.1,.s p.2])<=1
 |[]=>Qs _|x::l=>by show max 1 (nkds (l.map λp=>NK.t [.s p.1,.s p.2]))<=1;have:=Pp l;omega
theorem JQ(es:List Pt)(sr:LS):ED kd (eE es sr):=by refine#[[.t (sr.map NK.s),.t (es.map λp=>NK.t [.s p.1,.s p.2])],?_,?_];show _=PyData.tuple [.tuple (tDs (sr.map NK.s)),.tuple (tDs (es.map λp=>NK.t [.s p.1,.s p.2]))];rw[ke,ve];rfl;show max (nkds (sr.map NK.s)+1) (max (nkds (es.map λp=>NK.t [.s p.1,.s p.2])+1) 0)+1<=6;rw[Op];have:=Pp es;omega
theorem n9{v:List Pt}{z:LS}(h:eE es sr=eE v z):es=v/\sr=z:=by injection h with h;injection h with h1 h2;injection h2 with h2 _;injection h1 with h1;injection h2 with h2;refine#[(wP λx y e=>?_).mp h2,(wP λx y e=>?_).mp h1];injection e with e;injection e with e1 e2;injection e2 with e2 _;injection e1 with e1;injection e2 with e2;exact QCU e1 e2;injection e
theorem ck{v:LS}{Q:T->Prop}(hl:u.9<kt)(h:fA (YZ u) (eE es sr)=kf)(q:Q (JZ (u++[((es,sr),v)]))):ge (JZ u) (.d (eE es sr)) (.lst ((v.map j3).map T.d)) Q:=by refine#[JQ es sr,by unfold YZ;rw[QE];exact hl,?_];show Q (KJ kd (YZ u) (gk u) (eE es sr) (.d (.list (ersT ((v.map j3).map T.d)))));unfold KJ;rw[h,DA];unfold JZ YZ gk at q;rw[QR,QR]at q;exact q
theorem mf{k:Nat}(h:fA (YZ u) (eE es sr)=kv k):∃v,((es,sr),v)∈u/\(gk u)[k]?=kv (T.d (.list (v.map j3))):=by
 have e:=AC h;unfold YZ at e;unfold gk;rw[Qd]at e ⊢;cases z:u[k]? with|none=>rw[z]at e;cases e|some x=>rw[z]at e;let#[w,y]:=n9 (Qi e);let#[#[a,b],v]:=x;cases w;cases y;exact#[v,qQ z,rfl]
end
section
variable{Ψ:PEv}{E:XE}{ρ:kA}{K:TK}{M:List (T×Bool)->kA->Prop}{a b c i g:PX}{md:List Md}{m:Bool}{f:Kn}{es:List Pt}{sr:LS}{L:Bool->Prop}{R:T->Prop}
section
variable{u:List (Str×LS)}{w:Str}
theorem td:JB .NotIn (.d (.tuple [.tuple (sr.map j3),.tuple (es.map pr)])) (JZ f) L=L (!(fA (YZ f) (eE es sr)).isSome):=by unfold JZ;rw[jN];exact Az #[λh=>h.2,λh=>#[JQ es sr,h]]
theorem ju{v:LS}{k:Nat}(h:fA (YZ f) (eE es sr)=kv k)(hv:(gk f)[k]?=kv (T.d (.list (v.map j3))))(q:R (.d (.list (v.map j3)))):BA (JZ f) kb (.d (.tuple [.tuple (sr.map j3),.tuple (es.map pr)])) m R:=.inr #[kd,_,_,k,_,rfl,JQ es sr,h,hv,q]
theorem oz:x3 (JZ f) kb Ψ b E ρ K=mB Ψ b E (lockA ρ) λy m _=>K y m ρ:=rfl
noncomputable def FZ(u:List (Str×LS)):T:=.dct kb (u.map λx=>.str x.1) (u.map λx=>T.d (.list (x.2.map j3)))
theorem Dq{v:LS}{Q:T->Prop}(hl:u.9<kt)(h:w∉u.map λx=>x.1)(q:Q (FZ (u++[(w,v)]))):ge (FZ u) (.d (.str w)) (.d (.list (v.map j3))) Q:=by refine#[#[w,rfl],by rw[QE];exact hl,?_];show Q (KJ kb (u.map λx=>.str x.1) (u.map λx=>T.d (.list (x.2.map j3))) (.str w) (.d (.list (v.map j3))));unfold KJ;rw[kB.mpr λz=>h (by let#[x,y,e]:=QY.mp z;injection e with e;exact QY.mpr #[x,y,e])];unfold FZ at q;rw[QR,QR]at q;exact q
theorem Fq(h:w∈u.map λx=>x.1)(q:∀v,(w,v)∈u->R (.d (.list (v.map j3)))):BA (FZ u) kb (.d (.str w)) m R:=by
 cases e:fA (u.map λx=>j3 x.1) (.str w) with
 |none=>let#[x,l,j]:=QY.mp h;exact Uz (QY.mpr #[x,l,ak j3 j]) (kB.mp e)|some k =>
  have j:=AC e;rw[Qd]at j;cases z:u[k]? with|none=>rw[z]at j;cases j|some x=>rw[z]at j;have j:j3 x.1=.str w:=Qi j;injection j with j;let#[y,v]:=x;cases j;exact .inr #[kb,_,_,k,T.d (.list (v.map j3)),rfl,#[_,rfl],e,by rw[Qd,z];rfl,q v (qQ z)]
theorem pz:x3 (FZ u) kb Ψ b E ρ K=mB Ψ b E (lockA ρ) λy m _=>K y m ρ:=rfl
theorem Mw{z:Bool}{mk:List Bool}{t:Str}{x:T}{op:h7}{R:Option T->Prop}:dH Ψ E (z::mk) [t] (.nm 0) (.cmp op a c) g ρ x R=oK Ψ (.cmp op a c) E (kv (.bor x)::aC (z::mk) (lockA ρ)) λk h=>if k=kd then mB Ψ g E h λy n _=>EC y n (R (kv y)) else R none:=rfl
end
end
theorem AX{c a b:Prop}[Decidable c](h:c)(q:a):if c then a else b:=by rw[t6 h];exact q
def mU(w:Wd)(l h:LN)(m x:Str):Prop:=Held (FH w.es h m) (rH w (FB w.es l) m) (XN w) x
open Classical in
def Am(w:Wd)(l h:LN)(x m:Str):Bool:=decide (mU w l h m x)
open Classical in
section
variable{Ψ:PEv}{Z:PEnds}{w:Wd}{l u:LN}{f:Kn}{g:List (Str×LS)}{m:Str}{o8 o9 o7:Option Sl}
theorem Vc(w:Wd)(l u:LN)(x m:Str):Am w l u x m=kd↔mU w l u m x:=by unfold Am;exact ax
noncomputable def Kc(w:Wd)(l u:LN)(x:Str):List Pt:=(w.ms.filter (Am w l u x)).map λm=>(x,m)
def YK(w:Wd)(l u:LN):List Pt:=w.ps.flatMap λp=>Kc w l u p.1
def Ld(w:Wd)(u:LN):Prop:=u.9<=100/\∀n∈u,n<w.es.9/\TD (HA w.es n)
def Ox(Q:T->LT->Prop):PEnds:={ nx:=λh=>vV (LA [3] h) (Q (.d .none)),rt:=λt h=>vV (LA [3] h) (Q t) }
def HZ(w:Wd)(l u:LN)(f:Kn)(g:List (Str×LS))(o6 o7 o8 o9:Option Sl):kA:=[bD (wD w),kv (.bor (.lst ((l.map nD).map T.d))),kv (.bor (.lst ((u.map nD).map T.d))),oW (JZ f),oW (tK (FB w.es l)),oW (FZ g),o6,o7,o8,o9]
def t9(w:Wd)(l u:LN)(m:Str):T:=.d (eE (FH w.es u m) (rH w (FB w.es l) m))
theorem af{k:Nat}{v:LS}(hl:g.9<kt)(y:m∉g.map λx=>x.1)(h:fA (YZ f) (eE (FH w.es u m) (rH w (FB w.es l) m))=kv k)(hv:(gk f)[k]?=kv (T.d (.list (v.map j3))))(q:Z.nx (HZ w l u f (g++[(m,v)]) (bD (.str m)) (kv (.bor (t9 w l u m))) o8 o9)):pF Ψ vD Z (HZ w l u f g (bD (.str m)) (kv (.bor (t9 w l u m))) o8 o9):=by delta HZ t9 eE;delta vD;simp![↓oz];refine ju h hv ?_;simp![↓vA];exact Dq hl y q
theorem Ih(w:Wd)(ks:List Pt)(m:Str):(rH w ks m).9<=w.ps.length:=by unfold rH;rw[QE];exact Q9 _ _
theorem Tk(h:List Evt)(u:LN)(m:Str):(FH h u m).9<=u.length:=by unfold FH;rw[QE];exact Q9 _ _
theorem Ch(h:WOk w)(hv:Ld w u)(m:Str):jK (FH w.es u m) (rH w (FB w.es l) m):=by constructor;intro s z;let#[p,v,rfl]:=QY.mp z;exact h.po p (QZ.mp v).1;intro e k;let#[n,y,rfl]:=QY.mp k;have y:=(QZ.mp y).1;let#[a,t,x,b,j,i,q,e]:=hv.2 n y;have:=h.ev a;rw[e]at this ⊢;exact#[h.nm this.1,h.nm this.2.1]
theorem Ov(E:Ψ.sp "seers_of"=aP)(C:Ψ.sp "edges_of"=ZP)(p:Ψ.sp "holders_in"=zL)(b:WOk w)(hv:Ld w u)(hk:yK w f)(B:f.9<=20000)(hl:g.9<1000)(o:m∉g.map λx=>x.1)(q:∀h v,yK w h->h.9<=f.9+1->(∀y,y∈v↔mU w l u m y)->Z.nx (HZ w l u h (g++[(m,v)]) (bD (.str m)) (kv (.bor (t9 w l u m))) o8 o9)):pF Ψ ND Z (HZ w l u f g (bD (.str m)) o7 o8 o9):=by
 have J:=b.pl;have I:=Ih w (FB w.es l) m;have G:=Tk w.es u m;have F:=hv.1;delta HZ;delta ND;simp![↓eR,↓xA (md:=[.fro,.bor]) E rfl rfl,↓xA (md:=[.fro,.shal]) C rfl rfl,↓xA (md:=[]) p rfl rfl,↓sC,↓Fd,↓Xs];refine#[_,_,_,rfl,(),?_];simp![↓vA];refine#[_,_,_,rfl,hv.1,hv.2,?_];simp![↓td];refine#[(),?_];cases e:fA (YZ f) (eE (FH w.es u m) (rH w (FB w.es l) m)) with
 |some k=>let#[v,s,r]:=mf e;refine kG (λz=>by cases z) ?_;exact af () o e r (q f v hk () (hk _ s))|none =>
  refine AX rfl ?_;simp![↓xA (md:=[]) p rfl rfl];refine#[_,_,_,rfl,#[(),(),Ch b hv m,(),b.pn],λv i A=>?_];simp![↓vA];refine ck () e ?_;have K:fA (YZ (f++[((FH w.es u m,rH w (FB w.es l) m),v)])) (eE (FH w.es u m) (rH w (FB w.es l) m))≠none:=λz=>kB.mp z (QY.mpr #[_,Qa _ (QI.mpr rfl),rfl]);have n:yK w (f++[((FH w.es u m,rH w (FB w.es l) m),v)]):=λx a=>by rcases Qg.mp a with a|a;exact hk x a;rw[QI.mp a];exact i
  cases j:fA (YZ (f++[((FH w.es u m,rH w (FB w.es l) m),v)])) (eE (FH w.es u m) (rH w (FB w.es l) m)) with|none=>exact Uz j K|some k=>let#[X,W,Y]:=mf j;exact af () o j Y (q _ X n (by rw[QJ];exact QT _) (n _ W))
theorem i0{b:PT}{p:PSp}{N x:LS}{ds:LT}{Q:T->LT->Prop}(ρ:kA)(h:pF Ψ b (Ox Q) ρ)(hl:ds.9=x.length:=by rfl)(hc:UB 0 p.md x.9=[3]:=by rfl)(y:oB N p.md ds=ρ:=by rfl):ds.9=x.9/\pF Ψ b (cD p x.9 Q) (oB N p.md ds):=by
 have e:cD p x.9 Q=Ox Q:=by unfold cD;rw[hc];rfl
 rw[e,y];exact#[hl,h]
def UC:PSp where
 md:=[.fro,.shal,.shal,.chg]
 run:=λx Q _=>∃(w:Wd) (l u:LN) (f:Kn),x=[.d (wD w),.lst ((l.map nD).map T.d),.lst ((u.map nD).map T.d),JZ f]/\(WOk w/\l.9<=100/\∀n∈l,n<w.es.9)/\Ld w u/\(yK w f/\f.9<=10000)/\∀h,yK w h->h.9<=f.9+10->Q (.lst (((YK w l u).map pr).map T.d)) [JZ h]
theorem FQ(h:WOk w)(l u:LN)(x:Str):(Kc w l u x).9<=10:=by unfold Kc;rw[QE];exact QW (Q9 _ _) h.ml
theorem Nv{h:List Pt}{o6:Option Sl}{p:Str×Int×Int×Int}(k:WOk w)(j:g.map (λx=>x.1)=w.ms)(i:∀x∈g,∀y,y∈x.2↔mU w l u x.1 y)(hl:h.9<=1000)(q:Z.nx (HZ w l u f g o6 o7 (oW (.lst (((h++Kc w l u p.1).map pr).map T.d))) (bD (VJ p)))):pF Ψ MD Z (HZ w l u f g o6 o7 (oW (.lst ((h.map pr).map T.d))) (bD (VJ p))):=by
 have n:=k.ml;have a:=FQ k l u p.1;delta HZ;delta MD;simp![↓Xh];rw[<- JA j3];refine rA (λm=>T.d (.str m)) (λm=>T.d (pr (p.1,m))) (Am w l u p.1) w.ms [] _ (λm b R z=>?_) (by show 0+w.ms.9<=_;omega) ?_;simp![↓Mw,↓ZN,↓pz];refine Fq (j▸b) λv hv=>?_;have e:decide (p.1∈v)=Am w l u p.1 m:=by rw[qF,ax];exact(i _ hv p.1).trans (Vc w l u p.1 m).symm
 simp![gL,HI,TB,true_or,e];split at z;rename_i c;rw[t6 c];exact#[(),z];rename_i c;rw[t3 c];exact z;rw[Qh,JA λm=>pr (p.1,m)];have e:((w.ms.filter (Am w l u p.1)).map λm=>pr (p.1,m))=(Kc w l u p.1).map pr:=by unfold Kc;rw[QX];rfl
 rw[e,<- QR,<- QR];exact#[by rw[QE,QE,QE,QE];omega,q]
theorem Vb(J:Ψ.sp "seen_among"=yL)(I:Ψ.sp "seers_of"=aP)(G:Ψ.sp "edges_of"=ZP)(F:Ψ.sp "holders_in"=zL):EH Ψ aF UC gJ uH:=by
 rintro _ Q _ ⟨w,l,u,f,rfl,⟨j,hl,C⟩,hv,⟨hk,E⟩,q⟩;have P:=j.ml;have O:=j.pl;refine i0 [bD (wD w),kv (.bor (.lst ((l.map nD).map T.d))),kv (.bor (.lst ((u.map nD).map T.d))),oW (JZ f),kf,kf,kf,kf,kf,kf] ?_;delta aF;simp![↓eR,↓Xh,↓xA (md:=[.fro,.shal]) J rfl rfl,↓sC,↓Fd];refine#[_,_,rfl,hl,C,?_];simp![↓Xh];rw[<- JA j3];refine rB (λm=>T.d (.str m)) (λr b=>∃h g a o7,g.map (λx=>x.1)++r=w.ms/\(yK w h/\h.9+r.9<=f.9+w.ms.9)/\(∀x∈g,∀y,y∈x.2↔mU w l u x.1 y)/\b=HZ w l u h g a o7 kf kf) ?_ ?_ w.ms _ #[f,[],kf,kf,rfl,#[hk,QT _],(λx i=>by cases i),rfl];rintro b ⟨h,g,a,o7,e,⟨X,n⟩,W,rfl⟩;have e:g.map (λx=>x.1)=w.ms:=by rw[<- e,qE]
 have n:h.9<=f.9+w.ms.length:=n;delta HZ;simp![↓J1];rw[<- JA VJ];refine#[(),?_];refine rB (λp=>T.d (VJ p)) (λr b=>∃k a o7 o9,k++r.flatMap (λp=>Kc w l u p.1)=YK w l u/\k.9+10 * r.9<=200/\b=HZ w l u h g a o7 (oW (.lst ((k.map pr).map T.d))) o9) ?_ ?_ w.ps _ #[[],_,_,kf,rfl,by show 0+10 * w.ps.9<=200;omega,rfl];rintro b ⟨k,a,o7,o9,o,_,rfl⟩;have o:k=YK w l u:=by rw[<- o];exact(qE k).symm
 subst o;delta HZ;simp![↓vA];exact q h X ();rintro p r b N Y ⟨k,a,o7,o9,o,K,rfl⟩;have K:k.9+10 * (r.9+1)<=200:=K;have A:=FQ j l u p.1;refine Nv j e W () (Y _ #[k++Kc w l u p.1,a,o7,_,?_,by rw[QJ];omega,rfl]);rw[Q2];exact o;rintro m r b N Y ⟨h,g,a,o7,e,⟨X,n⟩,W,rfl⟩;have n:h.9+(r.9+1)<=f.9+w.ms.length:=n;have B:g.9+(r.9+1)=w.ms.length:=by rw[<- e,QJ,QE];rfl
 have nd:=j.mn;rw[<- e]at nd;refine Ov I G F j hv X () () (λz=>(qj.mp nd).2.2 m z m QF rfl) λs v M R L=>Y _ #[s,g++[(m,v)],_,_,?_,#[M,()],?_,rfl];rw[QR,Q2];exact e;intro x i;rcases Qg.mp i with i|i;exact W x i;rw[QI.mp i];exact L
end
end L2.L3.K30
namespace L2.L3
open PySem PySem.Spec PyProof.Rows PySem.W
def IH{α:Type}(n:Nat)(lt:Nat->Nat->Bool)(P:α->Prop):KasT α->Prop
 | .ret a=>P a|.ask i j k=>(i<n/\j<n/\i≠j)/\IH n lt P (k (lt i j))
theorem IH.bnd{α x:Type}{n:Nat}{lt:Nat->Nat->Bool}{P:α->Prop}{R:x->Prop}{f:α->KasT x}(y:∀a,P a->IH n lt R (f a)):∀{t:KasT α},IH n lt P t->IH n lt R (t.bind f)
 | .ret a,h=>y a h|.ask _ _ _,#[h1,h]=>#[h1,IH.bnd y h]
theorem IH.imp{α:Type}{n:Nat}{lt:Nat->Nat->Bool}{P R:α->Prop}(x:∀a,P a->R a):∀{t:KasT α},IH n lt P t->IH n lt R t
 | .ret a,h=>x a h|.ask _ _ _,#[h1,h]=>#[h1,IH.imp x h]
theorem IH.wp{α:Type}{n:Nat}{lt:Nat->Nat->Bool}{P:α->Prop}{x:Nat->Nat->(Bool->ku->Prop)->ku->Prop}{Q:α->ku->Prop}{s:ku}(y:∀i j,i<n->j<n->i≠j->∀C:Bool->ku->Prop,C (lt i j) s->x i j C s)(z:∀a,P a->Q a s):∀{t:KasT α},IH n lt P t->t.kasWp x Q s
 | .ret a,h=>z a h|.ask i j _,#[#[h1,h2,h3],h]=>y i j h1 h2 h3 _ (IH.wp y z h)
def BI(lt:Nat->Nat->Bool)(a b:Nat):Prop:=lt b a=kb
structure Ord(lt:Nat->Nat->Bool):Prop where
 asy:∀a b,lt a b=kd->lt b a=kb
 tr:∀a b c,BI lt a b->BI lt b c->BI lt a c
def gD(p:Array Nat)(i:Nat):Nat:=p.getD i 0
theorem mT{p q:Array Nat}{i j:Nat}(h:p[i]?=q[j]?):gD p i=gD q j:=by unfold gD;rw[QAI,QAI,h]
def Up(lt:Nat->Nat->Bool)(p:Array Nat)(k:Nat):Prop:=∀i j,i<=j->j<k->BI lt (gD p i) (gD p j)
def Dn(lt:Nat->Nat->Bool)(p:Array Nat)(k:Nat):Prop:=∀i j,i<=j->j<k->BI lt (gD p j) (gD p i)
theorem Pm.two{n:Nat}{p:Array Nat}(h:Pm n p){a b:Nat}(w:a<n)(hb:b<n)(z:a≠b):p.getD a 0<n/\p.getD b 0<n/\p.getD a 0≠p.getD b 0:=by
 have u:p.size=n:=by have:=h.size_eq;simpa using this
 have x:0<n:=()
 refine#[h.lt x a,h.lt x b,λe=>?_];have nd:p.toList.Nodup:=(qI.mp h).nodup_iff.mpr (by simpa using QAw);have y:∀i,i<n->p.toList[i]?=kv (p.getD i 0):=λi v=>by rw[wN,Array.getElem?_eq_getElem ()];simp[QB6,u,v]
 exact z ((QCB (by rw[Qn];omega) nd).mp ((y a w).trans ((ak kv e).trans (y b hb).symm)))
section
variable{lt:Nat->Nat->Bool}{p:Array Nat}
theorem GP{i j:Nat}(h:j<=p.size)(k:Nat):gD (kas_rev p i j) k=if i<=k/\k<j then gD p (i+j - 1 - k) else gD p k:=by have:=getElem?_mirror_all (xs:=p) (i:=i) h k;split;rename_i c;rw[t6 c]at this;exact mT this;rename_i c;rw[t3 c]at this;exact mT this
theorem sW{a b k:Nat}(hb:b<=p.size)(hk:Dn lt p k)(e:∀x y,a<=x->x<b->a<=y->y<b->BI lt (gD p x) (gD p y))(w:b<=k):Dn lt (kas_rev p a b) k:=λi j v z=>by rw[GP hb,GP hb];by_cases u:a<=i/\i<b;rw[t6 u];by_cases h:a<=j/\j<b;rw[t6 h];exact e _ _ () () () ();rw[t3 h];exact hk _ _ () z;rw[t3 u];by_cases h:a<=j/\j<b;rw[t6 h];exact hk _ _ () ();rw[t3 h];exact hk _ _ v z
theorem Mh{k:Nat}(hk:k<=p.size)(h:Dn lt p k):Up lt (kas_rev p 0 k) k:=λi j y x=>by rw[GP hk,GP hk,t6 (),t6 ()];exact h _ _ () ()
theorem u8{k d:Nat}(h:k<p.size)(x:d<=k)(i:Nat):gD (bubble p k d) i=if i=k - d then gD p k else if k - d<i/\i<=k then gD p (i - 1) else gD p i:=by have:=getElem?_bubble h d x i;split;rename_i c;rw[t6 c]at this;exact mT this;rename_i c;rw[t3 c]at this;split;rename_i c2;rw[t6 c2]at this;exact mT this;rename_i c2;rw[t3 c2]at this;exact mT this
end
section
variable{n:Nat}{lt:Nat->Nat->Bool}(o:Ord lt){p:Array Nat}
include o
theorem Ord.re(a:Nat):BI lt a a:=by
 unfold BI;cases h:lt a a with|false=>rfl|true=>exact(o.asy a a h).symm.trans h |>.symm▸rfl
theorem Ord.le{a b:Nat}(h:lt a b=kd):BI lt a b:=o.asy a b h
theorem Y2:Up lt p 1:=λi j x h=>by
 obtain rfl:i=j:=()
 exact o.re _
theorem V9{k:Nat}(z:1<=k)(h:Up lt p k)(l:BI lt (gD p (k - 1)) (gD p k)):Up lt p (k+1):=λi j x y=>by
 by_cases e:j<k;exact h i j x e;obtain rfl:j=k:=()
 by_cases e:i=j;subst e;exact o.re _;exact o.tr _ _ _ (h i (j - 1) () ()) l
theorem OI{k:Nat}(z:1<=k)(h:Dn lt p k)(l:BI lt (gD p k) (gD p (k - 1))):Dn lt p (k+1):=λi j x y=>by
 by_cases e:j<k;exact h i j x e;obtain rfl:j=k:=()
 by_cases e:i=j;subst e;exact o.re _;exact o.tr _ _ _ l (h i (j - 1) () ())
theorem rV(h:Pm n p)(v:0<n):∀(f m:Nat),1<=m->m+f<=n->Up lt p m->IH n lt (λr=>m<=r/\r<=m+f/\Up lt p r/\(r<m+f->lt (gD p r) (gD p (r - 1))=kd)) (kas_asc p f m)
 |0,m,h1,h2,u=>#[QT _,QT _,u,λz=>Uz z ()]|f+1,m,h1,h2,u=>by
  refine#[h.two () () (),?_];cases c:lt (p.getD m 0) (p.getD (m - 1) 0) with|true=>exact#[QT _,(),u,λ_=>c]|false=>have y:=rV h v f (m+1) () () (V9 o h1 u c);show IH n lt _ (kas_asc p f (m+1));rw[show m+1+f=m+(f+1) by omega]at y;exact IH.imp (λr x=>#[(),x.2.1,x.2.2.1,x.2.2.2]) y
theorem xL(w:0<n):∀(f:Nat) {p:Array Nat}(m q:Nat),Pm n p->q+1<=m->m+f<=n->Dn lt p m->(∀x y,m - (q+1)<=x->x<m->m - (q+1)<=y->y<m->BI lt (gD p x) (gD p y)) ->
  IH n lt (λr=>Pm n r.1/\r.2.2+1<=r.2.1/\r.2.1<=n/\Dn lt r.1 r.2.1/\∀x y,r.2.1 - (r.2.2+1)<=x->x<r.2.1->r.2.1 - (r.2.2+1)<=y->y<r.2.1->BI lt (gD r.1 x) (gD r.1 y)) (kas_desc f p m q)
 |0,p,m,q,h,hq,hm,d,al=>#[h,hq,(),d,al]|f+1,p,m,q,h,hq,hm,d,al=>by
  have s:p.size=n:=by have:=h.size_eq;simpa using this
  refine#[h.two () () (),?_];cases c:lt (p.getD m 0) (p.getD (m - 1) 0) with
  |true =>
   have l:BI lt (gD p m) (gD p (m - 1)):=o.le c;show IH n lt _ (if q > 0 then kas_desc f (kas_rev p (m - (q+1)) m) (m+1) 0 else kas_desc f p (m+1) 0);have one:∀{p:Array Nat}(x y:Nat),m+1 - (0+1)<=x->x<m+1->m+1 - (0+1)<=y->y<m+1->BI lt (gD p x) (gD p y):=λx y a v k u=>by
    obtain rfl:x=y:=()
    exact o.re _
   split;refine xL w f (m+1) 0 (h.rev _ _) () () ?_ one;exact sW () (OI o () d l) (λx y a v k u=>al x y a v k u) ();exact xL w f (m+1) 0 h () () (OI o () d l) one
  |false =>
   refine#[h.two () () (),?_];cases e:lt (p.getD (m - 1) 0) (p.getD m 0) with
   |true=>exact#[h,hq,show m<=n by omega,d,al]|false =>
    have j:BI lt (gD p (m - 1)) (gD p m):=c;have g:BI lt (gD p m) (gD p (m - 1)):=e;refine xL w f (m+1) (q+1) h () () (OI o () d g) λx y a v k u=>?_;have b:∀x,m - (q+1)<=x->x<m+1->BI lt (gD p x) (gD p m)/\BI lt (gD p m) (gD p x):=λx i X=>by by_cases z:x=m;subst z;exact#[o.re _,o.re _];exact#[o.tr _ _ _ (al x (m - 1) i () () ()) j,o.tr _ _ _ g (al (m - 1) x () () i ())]
    exact o.tr _ _ _ (b x () v).1 (b y () u).2
theorem oS(h:Pm n p)(z:0<n){a:Nat}(y:1<=a)(v:a<=n)(d:Dn lt p a):IH n lt (λr=>Pm n r.2/\r.1<=n/\Up lt r.2 r.1) (kas_tail3 a n p):=by
 have u:p.size=n:=by have:=h.size_eq;simpa using this
 refine IH.bnd (f:=λm=>.ret (m,kas_rev p 0 a)) (λm x=>?_) (rV o (h.rev 0 a) z (n - a) a y () (Mh () d));exact#[h.rev _ _,(),x.2.2.1]
theorem sK(h:Pm n p)(z:0<n){a:Nat}(g:1<=a)(f:a+1<=n)(d:Dn lt p (a+1)):IH n lt (λr=>Pm n r.2/\r.1<=n/\Up lt r.2 r.1) (kas_descPart a n p):=by
 refine IH.bnd (λr k=>?_) (xL o z (n - (a+1)) (a+1) 0 h () () d λx y q m l j=>?_);let#[u,i,w,v,b]:=k;have e:r.1.size=n:=by have:=u.size_eq;simpa using this
 split;exact oS o (u.rev _ _) z () w (sW () v b (QT _));exact oS o u z () w v;obtain rfl:x=y:=()
 exact o.re _
theorem B5(h:Pm n p)(z:0<n):IH n lt (λr=>Pm n r.2/\r.1<=n/\Up lt r.2 r.1) (kas_count n p):=by
 have Y:p.size=n:=by have:=h.size_eq;simpa using this
 refine IH.bnd (λm f=>?_) (rV o h z (n - 1) 1 (QT _) () (Y2 o));let#[w,s,u,st]:=f;split;exact#[h,(),u];rename_i v;have v:m≠n:=λe=>v (by rw[e];exact beq_self_eq_true _);have st:=st ();have l:BI lt (gD p m) (gD p (m - 1)):=o.le st;split;rename_i g1;refine#[h.two () () (),?_];cases c:lt (p.getD 0 0) (p.getD (m - 1) 0) with|true=>exact#[h,(),u]|false=>have c:BI lt (gD p (m - 1)) (gD p 0):=c;have a:∀x y,x<m->y<m->BI lt (gD p x) (gD p y):=λx y X b=>o.tr _ _ _ (u x (m - 1) () ()) (o.tr _ _ _ c (u 0 y () b));refine sK o (h.rev _ _) z w () (sW () (OI o w (λi j _ k=>a j i k ()) l) (λx y _ q _ g=>a x y q g) ())
 obtain rfl:m=1:=()
 refine sK o h z (QT _) () (OI o (QT _) (λi j Z k=>?_) l);obtain rfl:i=j:=()
 exact o.re _
theorem oM(h:Pm n p){k:Nat}(hk:k<n)(u:Up lt p k):∀(f l r:Nat),l<=r->r<=k->r - l<=f->(∀i,i<l->BI lt (gD p i) (gD p k))->(∀i,r<=i->i<k->BI lt (gD p k) (gD p i))->IH n lt (λl=>l<=k/\(∀i,i<l->BI lt (gD p i) (gD p k))/\∀i,l<=i->i<k->BI lt (gD p k) (gD p i)) (kas_place p k f l r)
 |0,l,r,h1,h2,h3,h4,h5=>#[(),h4,λi x hk=>h5 i () hk]|f+1,l,r,h1,h2,h3,h4,h5=>by
  show IH n lt _ (if l ≥ r then _ else _);split;exact#[(),h4,λi x hk=>h5 i () hk];refine#[h.two hk () (),?_];cases c:lt (p.getD k 0) (p.getD ((l+r) / 2) 0) with|true=>exact oM h hk u f _ _ () () () h4 λi x hk=>o.tr _ _ _ (o.le c) (u _ _ x hk)|false=>exact oM h hk u f _ _ () () () (λi x=>o.tr _ _ _ (u i ((l+r) / 2) () ()) c) h5
theorem pV(e:0<n):∀(f:Nat) {p:Array Nat}(k:Nat),Pm n p->k+f=n->Up lt p k->IH n lt (λr=>Pm n r/\Up lt r n) (kas_bin f p k)
 |0,p,k,h,hk,u=>#[h,by rw[<- hk];exact u]|f+1,p,k,h,hk,u=>by
  have m:p.size=n:=by have:=h.size_eq;simpa using this
  refine IH.bnd (λl hl=>?_) (oM o h () u k 0 k (Qs _) (QT _) () (λi y=>Uz y ()) λi y hk=>Uz hk ());let#[g,b,a]:=hl;refine pV e f (k+1) ((bubble_perm _ _ _).trans h) () λi j y q=>?_;rw[u8 () (),u8 () (),show k - (k - l)=l by omega];by_cases w:i=l;rw[t6 w];by_cases x:j=l;rw[t6 x];exact o.re _;rw[t3 x,t6 ()];exact a _ () ();rw[t3 w];by_cases x:j=l;rw[t6 x,t3 ()];exact b _ ();rw[t3 x];by_cases v:l<i/\i<=k;rw[t6 v,t6 ()];exact u _ _ () ();rw[t3 v];by_cases z:l<j/\j<=k;rw[t6 z];exact u _ _ () ();rw[t3 z];exact u _ _ y ()
theorem db(y:0<n):IH n lt (λr=>Pm n r/\Up lt r n) (kas_sort n):=by
 refine IH.bnd (λr z=>?_) (B5 o (QBA _) y);let#[x,u,h]:=z;split;by_cases c:1<=r.1
 ·rw[Nat.max_eq_left c]
  exact pV o y _ _ x () h
 rw[Nat.max_eq_right ()];exact pV o y _ _ x () (Y2 o);rw[show r.1=n by omega]at h;exact#[x,h]
end
open PySem.SeqAt
noncomputable def sZ(ks:List (Int×Int))(i j:Nat):Bool:=decide ((ks.getD i (0,0)).1<(ks.getD j (0,0)).1∨(ks.getD i (0,0)).1=(ks.getD j (0,0)).1/\(ks.getD i (0,0)).2<(ks.getD j (0,0)).2)
theorem jc(ks:List (Int×Int)):Ord (sZ ks):=by refine#[λa b h=>?_,λa b c y x=>?_];unfold sZ at h ⊢;have:=aj h;exact dF ();unfold BI sZ at *;have y:=of_decide_eq_false y;have x:=of_decide_eq_false x;exact dF ()
def SD(h:v5)(v:kn)(p:Int×Int):Prop:=∃a o n t u,v=.ref a/\h.get? a=kv o/\o.cls=.type "tuple"/\o.data=.seq (qG [Value.int p.1 t,Value.int p.2 u]) n
theorem SD.keep{h h':v5}{v:kn}{x:Int×Int}{c:k0}{u:Obj}(e:h.get? c=kv u)(hc:u.cls≠.type "tuple")(k:∀b o,b≠c->h.get? b=kv o->h'.get? b=kv o)(t:SD h v x):SD h' v x:=by let#[a,o,n,t,r,f,y,w,d]:=t;exact#[a,o,n,t,r,f,k _ _ (λz=>by rw[z,e]at y;cases y;exact hc w) y,w,d]
section
variable{prog:vx}{w:v8}{A:Xz}{E:cC}{s:ku}
section
variable{vs:LW}{r f:k0}{a b c:Int}{t u v:Tok}{n:Nat}{kz:List (Int×Int)}
theorem Pj{v u:kn}{x y:Int×Int}{Q:Bool->ku->Prop}(hv:SD s.1 v x)(z:SD s.1 u y)(q:Q (decide (x.1<y.1∨x.1=y.1/\x.2<y.2)) s):ko (k5 prog w) A (keyLt' (tuples' kd) v u) Q E s:=by let#[a,o,n,t,r,rfl,g,_,j]:=hv;let#[b,p,X,l,m,rfl,k,_,i]:=z;refine kat_lt g j k i (kat_cons (QAu ?_));by_cases e:x.1=y.1;rw[e,beq_self_eq_true];refine kat_yes (kat_cons (QAu ?_));by_cases h:x.2=y.2;rw[h,beq_self_eq_true];refine kat_yes (kat_nil ?_);rw[show decide (x.1<y.1∨x.1=y.1/\x.2<y.2)=kb from dF ()]at q;exact q;rw[beq_false_of_ne h];refine kat_no (kat_one _ _ (PyProof.Rows.lt_int ?_));rw[show decide (x.1<y.1∨x.1=y.1/\x.2<y.2)=decide (x.2<y.2) from decide_eq_decide.mpr ()]at q;exact q;rw[beq_false_of_ne e];refine kat_no (oneLt_int ?_);rw[show decide (x.1<y.1∨x.1=y.1/\x.2<y.2)=decide (x.1<y.1) from decide_eq_decide.mpr ()]at q;exact q
theorem C6{ns:List (Int×Int)}{Q:SortKind->ku->Prop}(l:y0 (SD s.1) vs ns)(K:2<=vs.9)(q:Q (tuples' kd) s):ko (k5 prog w) A (keyKind' vs.toArray) Q E s:=by
 have key:∀{vs:LW}{ns:List (Int×Int)},y0 (SD s.1) vs ns->∃fs,KatTups s.1 vs fs/\fs.9=vs.9/\∀f∈fs,∃x t,f=.int x t:=by
  intro vs ns h;induction h with
  |nil=>exact#[[],.nil,rfl,λ_ z=>(nomatch z)]
  |@cons v x Z Y h _ e=>let#[fs,j,i,g]:=e;let#[a,o,n,t,r,rfl,p,hc,X]:=h;refine#[.int x.1 t::fs,.cons (f:=.int x.1 t) p hc X (by simp) j,by rw[QL,QL,i],λf m=>?_];rcases QM.mp m with rfl|z;exact#[_,_,rfl];exact g f z
 let#[fs,k,W,y]:=key l;exact kat_kind (T:=.type "int") k () (λv hv=>by let#[x,t,rfl]:=y v hv;exact .of_pure rfl) (by decide) q
theorem iH{α x:Type}{R:α->x->Prop}{d:α}{e:x}:∀{l:List α}{m:List x},y0 R l m->∀i,i<l.9->R (l.getD i d) (m.getD i e)
 |_,_,.nil,i,h=>Uz h (Nat.not_lt_zero _)|_,_,.cons r _,0,_=>r|_,_,.cons _ t,i+1,h=>iH t i (wv h)
theorem pK{α x:Type}{R:α->x->Prop}:∀{l z:List α}{m y:List x},y0 R l m->y0 R z y->y0 R (l++z) (m++y)
 |_,_,_,_,.nil,h=>h|_,_,_,_,.cons r t,h=>.cons r (pK t h)
theorem PN{Q:LW->ku->Prop}(Y:A.handled=kf)(q:Rz s.1 r a b c t u v)(x:QBZ a b c=kd)
  (X:WX a b c=n) (z:n<=2 ^ 24)
  (h:∀h' g y,(∀b o,s.1.get? b=kv o->h'.get? b=kv o)->s.1.1.size<h'.1.size->ItemsOf (λi v=>∃t,v=.int (a+i * c) t) y n->Q y.toList { s with heap:=h',toks:=g }) :
  ko (k5 prog w) A (collect (.ref r)) Q E s:=by
 unfold collect;refine QC (wpAny_runValue (QAD F.entry_proto_collect ?_));rw[WG F.plain_proto_collect _];show ko _ A.in1 (newList [] >>= λl=>again (.builtin "list.__iadd__" #[[l,.ref r],[]])) _ _ s;refine QC (Qz ?_);refine QK #[QBt QCC _,QAD F.entry_list_iadd ?_];rw[WG QCC _];have Z:(s.1.push { cls:=.type "list",data:=.seq ([]:LW).toArray }).get? s.1.1.size=kv { cls:=.type "list",data:=.seq #[] }:=QO _ rfl;show ko _ A.in1 (Builtin.List.listExtendWith (.ref s.1.1.size) (.ref r) (.ref s.1.1.size)) _ _ _;refine wpAny_extend_range (R:=λr j=>match r with | .ok (.ret v)=>ko (k5 prog w) A (match v with | .ref a=>(do let o <- load a;match o.data with | .seq m _=>rk m.toList|_=>unsupported "internal:collect")|_=>unsupported "internal:collect") Q E j | .ok _=>False | .error e=>E e j) (s:={ s with heap:=s.1.push { cls:=.type "list",data:=.seq ([]:LW).toArray } }) Y (QH _ q) x X z _ _ _ Z λh' g y W p k it=>?_;show ko _ A (load s.1.1.size >>= _) _ _ _;refine QC (wpAny_load k ?_);exact QK (h h' g y (λb o e=>p b o (Qj (QV e)) (QH _ e)) (QV k) it)
theorem Sj{a:k0}{P:PySem.Fin->ku->Prop}(ho:s.1.get? a=kv (rn "list" vs.toArray n))(h64:vs.9<64)(hl:kz.9=vs.9)
  (hf:∀(h:v5) (g:Nat),(∀b o,b≠a->s.1.get? b=kv o->h.get? b=kv o)->∀(i:Nat) (x:kn) (p:Int×Int),vs[i]?=kv x->kz[i]?=kv p->∀C:kn->ku->Prop,
   (∀W m k,(∀b o,h.get? b=kv o->W.get? b=kv o)->SD W k p->C k { s with heap:=W,toks:=m })->ko (k5 prog w) A (dt (.ref f) [x]) C (λ_ _=>False) { s with heap:=h,toks:=g })
  (k:∀(p:Array Nat) (h':v5) (g c:Nat),Pm vs.9 p->Up (sZ kz) p vs.9->(∀b o,b≠a->s.1.get? b=kv o->h'.get? b=kv o)->h'.get? a=kv (rn "list" (p.toList.map λi=>vs.getD i Kz).toArray c)->P (.done (.ret .none)) { s with heap:=h',toks:=g }) :
  ko (k5 prog w) A (ksk_tree a (.ref f) kb) P E s:=by
 have ha:a<s.1.1.size:=QV ho;have s1:=Q3 s.1 a (Q4 λ_=>(#[]:Array kn));obtain⟨G,ho1⟩:∃G,(s.1.update a (Q4 λ_=>(#[]:Array kn))).get? a=kv (rn "list" #[] G):=#[_,QAE ho λ_=>#[]]
 generalize hH:((s.1.update a (Q4 λ_=>(#[]:Array kn))).push (rn "tuple" vs.toArray 0))=hT;have S:hT.1.size=s.1.1.size+1:=by rw[<- hH,size_push',QCT]
 have kS0:(hT.push (rn "list" #[] 0)).get? hT.1.size=kv (rn "list" #[] 0):=QO _ rfl;have a0:(hT.push (rn "list" #[] 0)).get? a=kv (rn "list" #[] G):=QH _ (by rw[<- hH];exact QH _ ho1);have kp0:∀b o,b≠a->s.1.get? b=kv o->(hT.push (rn "list" #[] 0)).get? b=kv o:=λb o hb e=>QH _ (by rw[<- hH];exact QH _ ((s1.2 b hb).trans e));have naK:a≠hT.1.size:=by rw[S];exact Qj (WD ha)
 unfold ksk_tree;refine QC (QCJ ho rfl (QC (Wa ho rfl ?_ (by rw[QN];omega) (Qs _))));refine QC (QBX ho1 rfl (QC (QBP ?_ (by show vs.9<=_;omega))));refine QC (QAn (ql ?_) (Qs _));rw[hH];generalize hK:hT.1.size=kS at *;have fin:∀(y:LW) (e:Nat) (h:v5) (g:Nat) (st:SortSt) (p:Array Nat),y.9=vs.9->h.get? kS=kv (rn "list" (qG y) e)->h.get? a=kv (rn "list" #[] G)->(∀b o,b≠a->s.1.get? b=kv o->h.get? b=kv o)->Pm vs.9 p->Up (sZ kz) p vs.9 ->
   (arrOf st).map (·.2)=qG (p.toList.map λi=>vs.getD i Kz)->ti st=kf->ko (k5 prog w) A (ksk_tail a kb G (.ref kS) st) P E { s with heap:=h,toks:=g }:=by
  intro y e h g st p Z hk l I pm H hout N;have t1:=Q3 h kS (Q4 λ_=>(#[]:Array kn));have R:=(t1.2 a naK).trans l;have t2:=Q3 (h.update kS (Q4 λ_=>(#[]:Array kn))) a (Q4 λ_=>qG (p.toList.map λi=>vs.getD i Kz));have hps:(p.toList.map λi=>vs.getD i Kz).9=vs.length:=by rw[QE,(qI.mp pm).length_eq];simp
  unfold ksk_tail;dsimp only;rw[hout];refine QC (Wa hk rfl ?_ (by rw[QN,Q5];omega) (Qs _));refine QC (wpAny_letGo (QC (QBX R rfl (QC (Wa R rfl ?_ (Qs _) (by simp only[Qu,if_false];rw[QN,Q5];omega))))));rw[N];simp only[bne_self_eq_false,Qu,if_false];refine QK (k p _ g _ pm H (λb o hb e=>?_) (QAE R λ_=>qG (p.toList.map λi=>vs.getD i Kz)));have O:b≠kS:=λz=>by have:=QV e;rw[z,S]at this;exact Uz this (Nat.not_lt.mpr (wJ _))
  exact(t2.2 b hb).trans ((t1.2 b O).trans (I b o hb e))
 have L:∀(y:LW) (e:Nat) (h:v5) (g:Nat),y0 (SD h) y kz->h.get? kS=kv (rn "list" (qG y) e)->h.get? a=kv (rn "list" #[] G)->(∀b o,b≠a->s.1.get? b=kv o->h.get? b=kv o) ->
   ko (k5 prog w) A (ksk_end a kb vs.toArray G (.ref kS) (qG y)) P E { s with heap:=h,toks:=g }:=by
  intro y e h g Y hk l I;have Z:y.9=vs.length:=(qC Y).trans hl;unfold ksk_end;dsimp only;simp only[Qu,if_false];by_cases h2:vs.9<2;have F:vs.toArray.size<2:=by rw[QN];exact h2
  rw[t6 F,t6 F];refine QC (QK ?_);rw[QCa];refine QC (QK ?_);refine fin y e h g _ (qG (Qt vs.9)) Z hk l I (QBA _) (λi j hi hj=>?_) ?_ rfl;have e:i=j:=()
  subst e;unfold BI sZ;exact dF ();show((qG y).zip vs.toArray).map (·.2)=_;rw[sO];apply WL.mp;simp[WM,Z];have F:¬ vs.toArray.size<2:=by rw[QN];exact h2
  rw[t3 F,t3 F];refine QC (C6 (s:={ s with heap:=h,toks:=g }) Y () ?_);have tree:(kas_sort vs.9).kasWp (kas_ask prog w A (tuples' kd) y) (λp K=>K={ s with heap:=h,toks:=g }/\Pm vs.9 p/\Up (sZ kz) p vs.9) { s with heap:=h,toks:=g } :=
   IH.wp (lt:=sZ kz) (λi j hi hj _ C hC=>Pj (s:={ s with heap:=h,toks:=g }) (iH Y i ()) (iH Y j ()) hC) (λp Y=>#[rfl,Y]) (db (jc kz) ())
  refine QC (qu (kat_run (Q:=λB K=>∃p:Array Nat,arrOf B=p.map (kas_item ((qG y).zip vs.toArray))/\ti B=kf/\K={ s with heap:=h,toks:=g }/\Pm vs.9 p/\Up (sZ kz) p vs.9) Z () h64 (λp B K _ a2 a3 a4=>#[p,a2,a3,a4]) tree) ?_ λ_ _ x=>x);rintro⟨⟨⟩,B⟩ K ⟨p,har,N,rfl,pm,H⟩;exact fin y e h g B p Z hk l I pm H (kat_snds Z har) N
 unfold ksk_rest;refine QC (QB4 ?_);rw[List.forIn_toArray];refine QC (ksk_fold (λj K=>∃(y:LW) (e:Nat) (h:v5) (g:Nat),K={ s with heap:=h,toks:=g }/\y0 (SD h) y (kz.take j)/\h.get? kS=kv (rn "list" (qG y) e)/\h.get? a=kv (rn "list" #[] G)/\(∀b o,b≠a->s.1.get? b=kv o->h.get? b=kv o)/\j<=vs.9) vs 0 _ #[[],0,_,s.toks,rfl,.nil,kS0,a0,kp0,Qs _] (λj x K hx hI=>?_) λK hI=>?_);let#[y,e,h,g,rfl,Y,hk,l,I,jl]:=hI;rw[Wn]at Y jl ⊢;have jv:j<vs.length:=(Qf.mp hx).1;have hkl:y.9=j:=by rw[qC Y,wn];omega
 have hzj:kz[j]?=kv (kz[j]'()):=Qr _;refine QC (W8 (qu (hf h g I j x _ hx hzj (λJ K=>∃W m,K={ s with heap:=W,toks:=m }/\(∀b o,h.get? b=kv o->W.get? b=kv o)/\SD W J (kz[j]'())) λW m J X ka=>#[W,m,rfl,X,ka]) (λJ K hc=>?_) λ_ _ z=>z.elim));let#[W,m,rfl,X,ka]:=hc;have ea:(qG y).push J=qG (y++[J]):=by simp
 have s5:=Q3 W kS (Q4 (·.push J));have M:=X _ _ hk;dsimp only;refine QC (Wa M rfl ?_ (by rw[QN,Q5];omega) (QW (w4 (Array.size_push ..)) (by rw[QN,Q5];omega)));refine QK #[rfl,y++[J],_,_,m,rfl,?_,by rw[<- ea];exact QAE M (·.push J),(s5.2 a naK).trans (X _ _ l),λb o hb q=>?_,jv];have H:∀{v:kn}{x:Int×Int},SD W v x->SD (W.update kS (Q4 (·.push J))) v x:=λt=>t.keep M (by show Value.type "list"≠Value.type "tuple";decide) λb o hb q=>(s5.2 b hb).trans q;rw[List.take_succ,hzj];exact pK (L2.Paired.mapP Y λ_ _ #[a1,o1,n1,t1,r1,G,g1,c1,d1]=>H #[a1,o1,n1,t1,r1,G,X _ _ g1,c1,d1]) (.cons (H ka) .nil);have O:b≠kS:=λz=>by have:=QV q;rw[z,S]at this;exact Uz this (Nat.not_lt.mpr (wJ _))
 exact(s5.2 b O).trans (X _ _ (I b o hb q));let#[y,e,h,g,rfl,Y,hk,l,I,_]:=hI;rw[Wn,<- hl,List.take_length]at Y;exact QC (QCJ hk rfl (L y e h g Y hk l I))
theorem L9{Q:cC}(S:A.handled=kf)(N:Rz s.1 r a b c t u v)(y:QBZ a b c=kd)
  (R:WX a b c=n) (h64:n<64) (hl:kz.9=n)
  (H:∀(Y:v5) (z:Nat),(∀b o,s.1.get? b=kv o->Y.get? b=kv o)->∀(i:Nat) (Z:Tok) (p:Int×Int),kz[i]?=kv p->∀C:kn->ku->Prop,
   (∀I W k,(∀b o,Y.get? b=kv o->I.get? b=kv o)->SD I k p->C k { s with heap:=I,toks:=W })->ko (k5 prog w) A.in1.in1 (dt (.ref f) [Value.int (a+i * c) Z]) C (λ_ _=>False) { s with heap:=Y,toks:=z })
  (k:∀(p:Array Nat) (vs:LW) (D:k0) (h':v5) (z e:Nat),Pm n p->Up (sZ kz) p n->(∀b o,s.1.get? b=kv o->h'.get? b=kv o)->s.1.1.size<=D->vs.9=n->(∀(i:Nat) x,vs[i]?=kv x->∃t,x=Value.int (a+i * c) t) ->
   h'.get? D=kv (rn "list" (p.toList.map λi=>vs.getD i Kz).toArray e)->Q (.ref D) { s with heap:=h',toks:=z }) :
  ko (k5 prog w) A (dt (.builtin "sorted") [.ref r] [(QS "key",.ref f)]) Q E s:=by
 refine call_function_entry_kw kind_sorted plain_sorted entry_sorted (ksk_s1 _ _) ?_;unfold Builtin.«sorted»;refine QC (m:=checkCount "sorted" 1 1 _) (QK ?_);refine QC (PN S N y R () λg K h l G it=>?_);have M:h.toList.9=n:=by rw[Qn];exact it.1
 refine QC (QAn ?_ (by rw[Q5];omega));have X:(g.push (rn "list" h.toList.toArray 0)).get? g.1.size=kv (rn "list" h.toList.toArray 0):=QO _ rfl;have j:∀b o,s.1.get? b=kv o->(g.push (rn "list" h.toList.toArray 0)).get? b=kv o:=λb o q=>QH _ (l b o q);refine QC (ql (wpAny_call_entry_kw tt #[_,X,rfl] tv ?body (ksk_l1 _ _)))
 case body =>
  show ko (k5 prog w) A.in1.in1 (Builtin.«list.sort» #[[.ref g.1.size],[(QS "key",.ref f)]]) _ _ _;rw[ksk_t1];have nD:∀b o,s.1.get? b=kv o->b≠g.1.size:=λb o q=>Qj (QV (l b o q));refine Sj (s:={ s with heap:=g.push (rn "list" h.toList.toArray 0),toks:=K }) (kz:=kz) X () () (λY z B i x p F O C hC=>?_) λp h' z c L J B P=>#[_,rfl,QK #[_,rfl,?_]]
  let#[Z,rfl]:=it.2 i x (by rw[<- F,wN]);exact H Y z (λb o q=>B b o (nD b o q) (j b o q)) i Z p O C hC;rw[M]at L J;exact k p h.toList _ h' z c L J (λb o q=>B b o (nD b o q) (j b o q)) (QAP G) M (λi x F=>it.2 i x (by rw[<- F,wN])) P
end
end
section
variable{U Z p2 W V Y X K:Pos}
noncomputable abbrev B6(U Z p2 W V Y X:Pos):Expr:=.Tuple [.Subscript (.Subscript (.Name "events" U) (.Name "number" Z) p2) (.Constant (.int 1) 0 W) V,.Name "number" Y] 0 X
noncomputable abbrev uc(K:Pos):Arguments:={ posonlyargs:=[],args:=[{ arg:="number",annotation:=kf,pos:=K }],vararg:=kf,kwonlyargs:=[],kw_defaults:=[],kwarg:=kf,defaults:=[] }
noncomputable abbrev RV:Scope:={ kind:=.function,names:=[(QS "number",.local),(QS "events",.free)],isGenerator:=kb,isCoroutine:=kb,more:=[] }
variable{prog:vx}{w:v8}{A:Xz}{E:cC}{s:ku}
section
variable{h h':v5}{y n:k0}{i:Nat}{g:Int}{l:Tok}
def xO(h:v5)(y:k0)(i:Nat)(g:Int):Prop:=∃(x z:Array kn) (t:k0) (u:Tok),(h.IsList y x∨tj h y x)/\x[i]?=kv (.ref t)/\i<2 ^ 62/\x.size<2 ^ 62/\tj h t z/\z[1]?=kv (.int g u)/\z.size<2 ^ 62
theorem xO.keepB{P:k0}{m:Array kn}(p:h.get? P=kv (tabObj m))(k:∀b o,b≠P->h.get? b=kv o->h'.get? b=kv o)(x:xO h y i g):xO h' y i g:=by
 let#[f,j,t,u,a,b,c,q,#[o,d],e]:=x;have v:∀{b:k0}{o:Obj}{T:String},h.get? b=kv o->o.cls=.type T->b≠P:=λe c z=>by rw[z,p]at e;cases e;cases c
 refine#[f,j,t,u,?_,b,c,q,#[o,k _ _ (v d.1 d.2.1) d.1,d.2],e];rcases a with⟨o,a⟩| ⟨o,a⟩
 exact .inl #[o,k _ _ (v a.1 a.2.1) a.1,a.2];exact .inr #[o,k _ _ (v a.1 a.2.1) a.1,a.2]
theorem xO.keep(z:∀b o,h.get? b=kv o->h'.get? b=kv o)(x:xO h y i g):xO h' y i g:=by
 let#[v,k,t,u,a,b,c,f,#[o,d],e]:=x;refine#[v,k,t,u,?_,b,c,f,#[o,z _ _ d.1,d.2],e];rcases a with⟨o,a⟩| ⟨o,a⟩
 exact .inl #[o,z _ _ a.1,a.2];exact .inr #[o,z _ _ a.1,a.2]
theorem X6{env:Env}{L:k0}{m:Str->Option kn}{Q:cC}(hk:env.scope=RV)(G:env.cells.lookup (QS "events")=kv n)(hc:s.1.IsCell n (kv (.ref y)))
  (S:env.locals=L) (P:s.1.Ns L m) (R:m "number"=kv (.int i l)) (F:xO s.1 y i g)
  (q:∀J u,Q (.ref s.1.1.size) { s with heap:=s.1.push { cls:=.type "tuple",data:=.seq (qG [Value.int g u,Value.int i l]) },toks:=J }) :
  ko (k5 prog w) A (Gz (B6 U Z p2 W V Y X) env) Q E s:=by
 have N:env.kindOf "number"=kv .local:=by show env.scope.names.lookup _=_;rw[hk];rfl
 have O:env.kindOf "events"=kv .free:=by show env.scope.names.lookup _=_;rw[hk];rfl
 have k:env.scope.kind=.function:=by rw[hk]
 let#[C,B,t,u,a,b,c,c2,d,e,c3]:=F;subst S;have v:∀{p:Pos}{Q:cC}(z:ku),z.1=s.1->Q (.int i l) z->ko (k5 prog w) A (Gz (.Name "number" p) env) Q E z:=λz I q=>QBE (QBF k N (by rw[I];exact P) R q) (by decide);refine QBT ?_;show ko _ _ (bb ((kb,Gz (.Subscript (.Subscript (.Name "events" U) (.Name "number" Z) p2) (.Constant (.int 1) 0 W) V) env)::hQ X (v9 [.Name "number" Y] env))) _ _ s;refine wM (QB0 (QB0 (QBE (QBS k O G hc (v _ rfl ?_) (by decide)) (by decide))));have o:(0:Int)<=(i:Int):=QBv i;have f:(i:Int)<2 ^ 63:=by omega (config:={})
 have M:∀{Q:cC},Q (.ref t) s->ko (k5 prog w) A (sn (.Name "events" U) (.Name "number" Z) (.ref y) (.int i l)) Q E s:=λ{Q} q=>by rcases a with a|a;exact item_listR a o f (by simpa using b) q;have I:i<C.size:=(QAO.mp b).1;exact qg (x:=.ref t) a.typeIs QAQ.lookup (QBp (j:=i) (Q:=λr z=>r=.ref t/\Q r z) a (by omega (config:={})) f (by rw[QAl o (by omega (config:={}))];simp) b #[rfl,q])
 refine M (QBj ?_);have H:1<B.size:=(QAO.mp e).1;refine qg (x:=.int g u) (s:={ s with toks:=s.toks+1 }) (show tj s.1 t B from d).typeIs QAQ.lookup (QBp (j:=1) (show tj s.1 t B from d) (by decide) (by decide) (by rw[QAl (by decide) (by omega (config:={}))];rfl) e #[rfl,?_]);show ko _ _ (bb ((kb,Gz (.Name "number" Y) env)::hQ X (v9 [] env))) _ _ _;exact wM (v _ rfl (WB #[by rw[Q5];show 2<=_;decide,q _ _]))
theorem U6{f L:k0}{z:Str}{N I:kn}{C:cC}(j:A.depth<fm)(P:s.1.get? f=kv (kla_obj "<lambda>" z (uc K) (B6 U Z p2 W V Y X) RV [(QS "events",n)] N L I))
  (F:s.1.CodeRec (.ref L) z) (r:s.1.NoLimit) (hc:s.1.IsCell n (kv (.ref y))) (B:xO s.1 y i g)
  (k:∀G p v,(∀b o,s.1.get? b=kv o->G.get? b=kv o)->SD G v (g,(i:Int))->C v { s with heap:=G,toks:=p }) :
  ko (k5 prog w) A (dt (.ref f) [.int i l]) C E s:=by
 refine wpAny_call (kla_callFunE j P rfl rfl rfl rfl F ?_);show ko _ _ (rk [(QS "number",Value.int i l)]) _ _ _;refine QK (QBG (show ∀x∈RV.names,x.2≠NameKind.cell by decide) (by intro x O;rcases QI.mp O with rfl;rfl) (λJ q m=>#[r.fresh _ m,kla_codeExpr ?_]) rfl);have a:∀b o,s.1.get? b=kv o->J.get? b=kv o:=λb o e=>m.extBut b o (Qj (QV e)) (QH _ e);refine X6 (s:={ s with heap:=J,toks:=s.toks+1 }) rfl rfl (hc.keeps a) rfl q rfl (B.keep a) λM u=>?_;exact k _ M _ (λb o e=>QH _ (a b o e)) #[_,_,_,_,_,rfl,QO _ rfl,rfl,rfl]
end
end
theorem NW{pos:Pos}{a b:Int}{c y:kn}(l:LW)(h:la l)(g:fy pos (l++[g7 a,g7 b,c])=kv y):fy pos l=kv y∨y=c:=by
 fun_induction la l with
 |case1=>right;have g:fy pos [g7 a,g7 b,c]=kv y:=g;unfold g7 fy at g;split at g;exact(Qi g).symm;cases g|case2 i t f u x v w=>simp only[QAq,fy]at g ⊢;split at g;rename_i z;rw[t6 z];exact .inl g;rename_i z;rw[t3 z];exact w h g|case3 l e k=>exact h.elim
section
variable{X:Cx}{h:PB}{σ:St}{H:Hp}{s:ku}
theorem _root_.L2.Inv.tabbed{P x:k0}{q:Str}{y:Array kn}{K W:Int}{h':v5}{t':Nat}(I:Inv X h σ H s)(m:H P=kv (.tbl q))(N:s.1.get? P=kv (tabObj y))(A:la y.toList)(p:∀pos l,fy pos y.toList=kv l->∃c,l=.ref c/\H c=kv (.own P)/\s.1.CodeRec l q)
  (a:QAC P s.1 h') (i:s.1.1.size<=x) (B:h'.CodeRec (.ref x) q) (f:h'.get? P=kv (tabObj (y++(qG [g7 K,g7 W,.ref x])))):H x=kf/\Inv X h σ (pA H x (.own P)) { s with heap:=h',toks:=t' }:=by
 have C:H x=none:=I.hok.fresh i;have w:∀b o,H b=kv o->b≠x:=λb o e z=>by rw[z,C]at e;cases e
 have Z:∀b,H b=kf->b≠P:=λb e z=>by rw[z,m]at e;cases e
 refine#[C,I.un #[λb o e n _ _=>a b o (Z b n) e,λb o e n _ _=>#[o.slots,a b o (Z b n) e],λb o e n _=>?_,λb o e _=>?_,λb F e=>?_,λb o u e=>?_,λb q e=>?_] λb u e=>?_];rw[jA (Qj (Qo (QV e) i))];exact n;by_cases hb:b=P
 ·exact#[_,hb▸f]
 exact#[o,a b o hb e];rw[jA (w b _ e)];exact e;rw[jA (w b _ e)];exact e;rw[jA (w b _ e)];exact e;by_cases hb:b=x
 ·subst hb
  rw[bA]at e;cases e;let#[c,o,Y,t,M,L,_]:=B;cases M;exact#[o,L]
 rw[jA hb]at e;by_cases j:b=P;subst j;rw[m]at e;cases e;refine#[_,f,?_,λpos l g=>?_];simpa using TriplesOk_snoc K W _ y.toList A;rcases NW y.toList A (by simpa using g) with g|rfl
 ·let#[c,rfl,o,O,ob,Y,G,E,J,r]:=p pos l g
  cases E;refine#[c,rfl,by rw[jA (w c _ o)];exact o,c,ob,Y,G,rfl,a _ _ (λz=>?_) J,r];rw[z,m]at o;cases o
 exact#[x,rfl,bA,B];refine(I.hok b u e).stay (λd v k g=>a d v (λz=>?_) g) (λd g=>by rw[jA (w d _ g)];exact g) λd F g=>by rw[jA (w d _ g)];exact g
 rcases k with k|k;exact j (k.symm.trans z);rw[z,m]at k;cases k
end
def Gx(K:QA)(H:Hp)(xs:LV)(kz:List (Int×Int)):Prop:=kz.9=xs.9/\∀(j:Nat) p,kz[j]?=kv p->p.2=j/\∃t h,xs[j]?=kv (.ref t)/\xD K H t h/\h[1]?=kv (.int p.1)
def Ux(K:QA)(P:k0)(i:Nat):TE:=λz H Q=>∃ev h y,z[i]?=kv (kv (.ref ev))/\(jC K H ev h∨xD K H ev h)/\Gx K H h y/\h.9<64 /\
 ∀(p:Array Nat) x l,Pm h.9 p->Up (sZ y) p h.9->(x=H∨∃c,H c=kf/\x=pA H c (.own P))->x l=kf->Q (.ref l) (pA x l (.lst (p.toList.map λ(i:Nat)=>V.int i)))
section
variable{X:Cx}{J G p2 F E B W U Z S M Y g d a O L:Pos}
section
variable{x:PB}{σ:St}{H:Hp}{s:ku}{y:k0}{kz:List (Int×Int)}{i:Nat}{q:Str}
theorem Rq{xs:LV}(I:Inv X x σ H s)(k:jC X.K H y xs∨xD X.K H y xs)(C:Gx X.K H xs kz):∀(j:Nat) p,kz[j]?=kv p->xO s.1 y j p.1:=λj p N=>by let#[_,t,ys,f,Q,P]:=C.2 j p N;have hz:=Q5;let#[h,n,w,R]:=I.tuple Q;let#[u2,o,A]:=n.get P;let#[m,rfl]:=A;have l2:=n.9;have jl:j<xs.length:=(Qf.mp f).1;rcases k with k|k;let#[v,r,b,z]:=I.list k;let#[u,e,q]:=r.get f;cases q;have l:=r.9;exact#[v.toArray,h.toArray,t,m,.inl b.isList,by simpa using e,(),by rw[QN];omega,w,by simpa using o,by rw[QN];omega];let#[v,r,b,z]:=I.tuple k;let#[u,e,q]:=r.get f;cases q;have l:=r.9;exact#[v.toArray,h.toArray,t,m,.inr b,by simpa using e,(),by rw[QN];omega,w,by simpa using o,by rw[QN];omega]
theorem jd(I:Inv X x σ H s)(w:X.N[i]?=kv (QS "events"))(h:X.env.scope.names.lookup (QS "events")=kv .cell)(hv:σ[i]?=kv (kv (.ref y))):∃v,X.env.cells.lookup (QS "events")=kv v/\s.1.IsCell v (kv (.ref y)):=by
 let#[m,_,hl]:=I.loc;let#[u,r,l]:=hl i "events" _ w hv (.inr (.inl h));cases r;rcases l with⟨k,_⟩| ⟨_,c,e,z⟩
 have k:X.env.scope.names.lookup (QS "events")=kv .local:=k;rw[h]at k;cases k;exact#[c,e,z]
theorem kK{n:Nat}{vs:LW}(hv:∀i,i<n->∃t,vs.getD i Kz=.int (i:Int) t):∀l:LN,(∀i∈l,i<n)->sA (l.map λ(i:Nat)=>V.int i) (l.map λi=>vs.getD i Kz)
 |[],_=>.nil|i::l,h=>.cons (hv i (h i QF)) (kK hv l λj z=>h j (QD _ z))
theorem bT{R f ce c':k0}{b ctv:kn}{t u v:Tok}{Q:VK}{n:Nat}(I:Inv X x σ H s)(hh:X.A.handled=kf)(z:X.A.in1.in1.depth<fm)
  (ho:s.1.get? f=kv (kla_obj "<lambda>" q (uc U) (B6 J G p2 F E B W) RV [(QS "events",ce)] b c' ctv)) (m:s.1.CodeRec (.ref c') q) (hc:s.1.IsCell ce (kv (.ref y))) (hev:∀(j:Nat) p,kz[j]?=kv p->p.2=j/\xO s.1 y j p.1)
  (hl:kz.9=n) (h64:n<64) (hr:Rz s.1 R 0 n 1 t u v) (k:∀(p:Array Nat) l,Pm n p->Up (sZ kz) p n->H l=kf->Q (.ref l) (pA H l (.lst (p.toList.map λ(i:Nat)=>V.int i)))) :
  ko (k5 X.prog X.w) X.A (dt (.builtin "sorted") [.ref R] [(QS "key",.ref f)]) (EP X x σ Q) X.xe s:=by
 refine L9 (n:=n) hh hr (pc (by decide) (by decide) () ()) (by rw[QBl];split<;>omega) h64 hl (λh3 P h j tx p hj C hC=>?_) λp K D h' P e b up h r vl hvs ho'=>?_;let#[e2,ev']:=hev j p hj;have e3:(0:Int)+(j:Int) * 1=(j:Int):=()
 rw[e3];refine U6 (s:={ s with heap:=h3,toks:=P }) z (h _ _ ho) (m.keeps h) (I.nolimit.keeps h) (hc.keeps h) (ev'.keep h) λh4 N v kp4 ka=>hC h4 N v kp4 ?_;rw[<- e2]at ka;exact ka;have pl:∀i∈p.toList,i<n:=λi hi=>by simpa using(qI.mp b).mem_iff.mp hi
 have ps:p.toList.9=n:=by rw[(qI.mp b).length_eq];simp
 refine#[.ref D,pA H D (.lst (p.toList.map λ(i:Nat)=>V.int i)),I.laid (t':=P) h r #[by rw[QE,ps,Q5];omega,_,e,kK (λi hi=>?_) p.toList pl,ho'],rfl,k p D b up (I.hok.fresh r)];have o:i<K.length:=()
 let#[t,e]:=hvs i (K[i]) (Qr o);refine#[t,?_];have:K.getD i Kz=K[i]:=by simp[o]
 rw[this,e,show(0:Int)+(i:Int) * 1=(i:Int) by omega]
theorem Ua{c P:k0}(hN:X.N[i]?=kv (QS "events"))(hs:X.env.scope.names.lookup (QS "events")=kv .cell)(n:X.env.code=.ref c)(hC:CodeHd X.base c P)(hT:xP X.mg X.base P q)(hq:q=X.env.qual++"<lambda>")(hb:X.base.BuiltinsAt X.mg P)(hgP:Vz≠P)
  (g1:Gl X "sorted") (m1:X.mg "sorted"=kf) (g2:Gl X "range") (m2:X.mg "range"=kf) (g3:Gl X "len") (m3:X.mg "len"=kf) (hh:X.A.handled=kf) (f:X.A.in1.in1.depth<fm) :
  PE X (.Call (.Name "sorted" S) [.Call (.Name "range" M) [.Call (.Name "len" Y) [.Name "events" g] [] d] [] a] [#[kv "key",.Lambda (uc U) (B6 J G p2 F E B W) RV Z,O]] L) (Ux X.K P i):=by
 rintro x s σ H Q I ⟨y,xs,kz,hv,hsq,m,h64,k⟩;refine qw (xF I g1 m1 boot_sorted ?_);refine callWith_kw ?_;show ko _ _ (bb ((kb,Gz (.Call (.Name "range" M) [.Call (.Name "len" Y) [.Name "events" g] [] d] [] a) X.env)::hQ L (v9 [] X.env))) _ _ s;have paL:PA X [.Call (.Name "len" Y) [.Name "events" g] [] d] _:=eI (bM II g3 m3 boot_len (eI (yV hN (.inr (.inl hs))) PP)) PP;refine wM (Call_ (xF I g2 m2 QCf (callWith_type1 (OB (paL a x s σ H (λvs H1=>vs=[.int xs.9]/\H1=H) I ?_) λus h #[vs,H1,I1,r1,q1]=>?_) rfl rfl)));exact#[_,hv,y,xs,rfl,hsq,rfl,rfl];let#[rfl,rfl]:=q1;cases r1 with
 |cons r rr =>
 cases rr;let#[t,rfl]:=r;refine QCK (WB (kws_cons (kla_eval rfl ?_)));have w:Inv X x σ H1 { h with heap:=h.1.push { cls:=.type "range",data:=.fields (qG [.int 0 h.toks,.int xs.9 t,.int 1 (h.toks+1)]) },toks:=h.toks+1+1 }:=I1.kept λb o e=>QH _ e;have hr2:Rz (h.1.push { cls:=.type "range",data:=.fields (qG [.int 0 h.toks,.int xs.9 t,.int 1 (h.toks+1)]) }) h.1.1.size 0 xs.9 1 h.toks t (h.toks+1):=QO _ rfl;have hP:=w.tb P q hT;let#[ps,hp,ht,hps]:=w.hok P _ hP;let#[ce,hce,hcl]:=jd w hN hs hv;have R:ew RV X.env=rk [(QS "events",ce)]:=by unfold ew cellOf;simp[hce]
 let#[bm,ob,b1,b2,b3,b4,b5,b6]:=hb;have hb2:=And.intro b1 (And.intro b2 (And.intro b3 (And.intro b4 (And.intro (w.bk _ _ b5) b6))));have evs:=Rq w hsq m;subst hq;cases e:fy Z ps.toList with|none=>refine kla_makeFunction (mg:=X.mg) R I.ok.glob (w.mod.glob.keeps w.bk) n (hC.keeps w.bk) hp ht e hgP #[bm,ob,hb2] λc' ctv h' tk hx hge hlt v htb=>evalAll_nil ?_;let#[hn,I3]:=w.tabbed (t':=tk) hP hp ht hps hx hge v htb;have C:∀{oN:Obj}(b:k0) (o:Obj),h'.get? b=kv o->(h'.push oN).get? b=kv o:=λb o e=>QH _ e;let#[oc,c1,c2]:=hcl;show ko _ _ (dt (.builtin "sorted") [.ref h.1.1.size] [(QS "key",.ref h'.1.size)]) _ _ _;refine bT (I3.kept C) hh f (QO _ rfl) (v.push _) #[oc,C _ _ (hx _ _ (λz=>?_) c1),c2] (λj p hj=>#[(m.2 j p hj).1,((evs j p hj).keepB hp hx).keep C]) m.1 h64 (C _ _ (hx _ _ (λz=>?_) hr2)) λp l pm u hl=>k p _ l pm u (.inr #[c',hn,rfl]) hl;rw[z,hp]at c1;cases c1;cases c2;have z2:=hp.symm.trans (z▸hr2);cases z2|some cv=>let#[c',rfl,_,v]:=hps _ _ e;refine kla_makeFunctionHit (mg:=X.mg) R I.ok.glob (w.mod.glob.keeps w.bk) n (hC.keeps w.bk) hp ht e #[bm,ob,hb2] λctv h' tk kp hge=>evalAll_nil ?_;have C:∀{oN:Obj}(b:k0) (o:Obj),(h.1.push { cls:=.type "range",data:=.fields (qG [.int 0 h.toks,.int xs.9 t,.int 1 (h.toks+1)]) }).get? b=kv o->(h'.push oN).get? b=kv o:=λb o e=>QH _ (kp b o e);show ko _ _ (dt (.builtin "sorted") [.ref h.1.1.size] [(QS "key",.ref h'.1.size)]) _ _ _;exact bT (w.kept C) hh f (QO _ rfl) (v.keeps C) (hcl.keeps C) (λj p hj=>#[(m.2 j p hj).1,(evs j p hj).keep C]) m.1 h64 (C _ _ hr2) λp l pm u hl=>k p _ l pm u (.inl rfl) hl
end
end
noncomputable def HJ:D->Option Int
 | .tuple h=>(match h[1]? with|some (j5 t)=>kv t|_=>kf)
 |_=>kf
def cG(h:List D):List (Int×Int):=(Qt h.9).map λ(i:Nat)=>(((h[i]?).bind HJ).getD 0,(i:Int))
theorem OZ{x:List D}{j:Nat}{p:Int×Int}(h:(cG x)[j]?=kv p):j<x.9/\p=(((x[j]?).bind HJ).getD 0,(j:Int)):=by unfold cG at h;rw[Qd]at h;by_cases c:j<x.9;rw[WP c]at h;exact#[c,(Qi h).symm];rw[Q7 (by simpa using c)]at h;cases h
def Us(h:List D)(ns:LN):Prop:=ns.Perm (Qt h.9)/\ns.Pairwise λa b=>sZ (cG h) b a=kb
def Oa:PSp where
 run:=λy Q _=>∃h:List D,y=[.d (.list h)]/\h.9<64/\(∀e∈h,∃t,HJ e=kv t)/\∀x,Us h x->Q (.lst (x.map λ(i:Nat)=>.d (.int i))) []
theorem G3{K:QA}{H x:Hp}{a:k0}{xs:LV}(e:Same H x)(h:xD K H a xs):xD K x a xs:=by rcases h with(h|⟨o,h⟩)|h;exact .inl (.inl (e _ _ h));exact .inl (.inr #[o,e _ _ h]);exact .inr h
theorem J2{lt:Nat->Nat->Bool}{p:Array Nat}(h:Up lt p p.size):p.toList.Pairwise λa b=>lt b a=false:=by
 rw[List.pairwise_iff_getElem];intro i j x u y;have e:∀i (x:i<p.toList.9),gD p i=p.toList[i]:=λi x=>by
  have z:i<p.size:=by simpa using x
  unfold gD;simp[QB6,z]
 have:=h i j (QAP y) (by simpa using u);unfold BI at this;rw[e i x,e j u]at this;exact this
section
variable{P:vx}{w:v8}{K:QA}{mg:Str->Option kn}{base:v5}{Ψ:PEv}{D C p2 B W U n m g a0 a1 R O N L J I y:Pos}
noncomputable abbrev Pv:Scope:={ kind:=.function,names:=[(QS "events",.cell),(QS "sorted",.globalImplicit),(QS "range",.globalImplicit),(QS "len",.globalImplicit)],isGenerator:=kb,isCoroutine:=kb,more:=[] }
noncomputable abbrev Mx(D C p2 B W U n m g a0 a1 R O N L J I y:Pos):List Stmt:=[.Return (kv (.Call (.Name "sorted" a0) [.Call (.Name "range" a1) [.Call (.Name "len" R) [.Name "events" O] [] N] [] L] [#[kv "key",.Lambda (uc m) (B6 D C p2 B W U n) RV g,J]] I)) y]
theorem jY{H F:Hp}{vs:LV}{Q:VK}{E:XK}{T:k0}(h:lift K Oa vs H Q E):vs.9=1/\Ux K T 0 (aD [QS "events"] vs) H λv H'=>Q v H':=by
 let#[F,ts,M,Y,h1,h2,h3,h4,x,rfl,h64,he,q]:=h;cases h2 with
 |chg hm=>cases hm|@rd _ v vs' _ _ Z _ hr _ r =>
 cases r;refine#[rfl,?_];cases hr with
 |d rp hz =>
 cases rp with
 |@lst a xs _ hq rs =>
 have A:xs.9=x.length:=rs.9;have kl:(cG x).9=xs.length:=by unfold cG;rw[QE,qL,A]
 refine#[a,xs,cG x,rfl,.inl (h1.seq hq),#[kl,λj p hj=>?_],by rw[A];exact h64,λp H1 l pm up hH hl=>?_];let#[jl,rfl]:=OZ hj;have G:x[j]?=kv (x[j]'jl):=Qr jl;let#[t,k]:=he _ (qz jl);let#[v,v1,v2]:=rs.get G;refine#[rfl,?_];rw[G];show ∃t ys,_/\_/\ys[1]?=kv (V.int ((HJ x[j]).getD 0));rw[k];generalize x[j]=e at *;cases v2 with
 |@tup b ys ds sq rs2 =>
  have k:(match ds[1]? with|some (j5 t)=>kv t|_=>kf)=kv t:=k;cases hd:ds[1]? with
  |none=>rw[hd]at k;cases k|some d =>
   rw[hd]at k;let#[u,u1,u2]:=rs2.get hd;cases u2 with|int i=>cases k;exact#[b,ys,v1,G3 h1 sq,u1]|_=>cases k
 |_=>cases k
 have pn:p.size=x.length:=by have:=pm.size_eq;simpa[A]using this
 have f:H l=none:=by
  rcases hH with rfl|⟨c,hc,rfl⟩
  exact hl;by_cases z:l=c
  ·rw[z];exact hc
  rw[jA z]at hl;exact hl
 have hs:Same H H1:=by
  rcases hH with rfl|⟨c,hc,rfl⟩
  exact λ_ _ e=>e;exact λb o e=>by rw[jA (oA e hc)];exact e
 have s:Same H (pA H1 l (.lst (p.toList.map λ(i:Nat)=>V.int i))):=λb o e=>by rw[jA (oA e f)];exact hs b o e
 have fl:F l=none:=by
  cases z:F l with|none=>rfl|some o=>rw[h1 l o z]at f;cases f
 have X:∀S:LN,Trs K F (pA H1 l (.lst (p.toList.map λ(i:Nat)=>V.int i))) kd (S.map λ(i:Nat)=>V.int i) (S.map λ(i:Nat)=>.d (.int i)) λ_=>False:=λS=>by
  induction S with|nil=>exact .nil λ_ z=>z|cons i r ih=>exact .cons (.d (.int _) λ_ (z:False)=>z) ih (λ_ z=>z.elim) λb=>#[Qc,λz=>z.elim id id]
 refine q p.toList #[?_,?_] (.ref l) F (pA H1 l (.lst (p.toList.map λ(i:Nat)=>V.int i))) (λb=>b=l) (λ_=>False) #[λ_ _ e=>e,λb o e=>s b o (h1 b o e),λb u e _=>s b u e,λb e=>?_,λb e z=>Uz e z] (.lst bA fl (X _) (λz=>z) λb=>#[.inl,λz=>z.elim id Qc]) (.nil λ_ z=>z) (λ_ _ z=>z) λb z=>.inr (z.elim (λz=>z▸f) Qc);rw[A]at pm;exact qI.mp pm;rw[A,<- pn]at up;exact J2 up;cases z:H b with|none=>rfl|some o=>rw[s b o z]at e;cases e
theorem Xc{f c T:k0}{oc kV v l ct:kn}{M Y:Option k0}{b:Array (Option kn)}{z:P0}{k:Nat}(X:K.In base)(G:base.Ns Vz mg)(p:mg "going_order"=kv (.ref f))
  (lk:K.lookup f=kv #[oc,M,.func (fnOf "going_order" "going_order" z (Mx D C p2 B W U n m g a0 a1 R O N L J I y) Pv .none kV v l Y (.ref c) ct),b])
  (j:codeIn K (.ref c) "going_order"=kd) (e:keepIn K (.ref f)=kd) (r:CodeHd base c T) (hb:base.BuiltinsAt mg T) (i:Vz≠T) (m1:mg "sorted"=kf) (m2:mg "range"=kf) (m3:mg "len"=kf)
  (u:∀us:LW,us.9=1->d9 (fnOf "going_order" "going_order" z (Mx D C p2 B W U n m g a0 a1 R O N L J I y) Pv .none kV v l Y (.ref c) ct) #[us,[]]=rk ([QS "events"].zip us)) (hR:Ψ.sp "going_order"=Oa):JG P w K mg base Ψ (k+1) "going_order":=by
 have S:FnScope [QS "events"] [QS "events"] Pv:=#[rfl,rfl,rfl,by decide,rfl,by intro x hx;rcases QI.mp hx with rfl;exact .inr rfl,by decide]
 refine#[f,_,[QS "events"],?_,p,e,.all u];rw[hR];refine Jf lk j S (λZ H Q E h=>(jY (T:=T) (F:=H) h).1) λA a s H Z Q E o h=>#[_,pX (Y4 (Ua (q:=(QS "going_order")++(QS ".<locals>.<lambda>")) rfl rfl rfl r ?_ ?_ hb i rfl m1 rfl m2 rfl m3 o.hd ?_)),(jY (F:=H) h).2]
 exact#[f,_,_,c,p,X _ _ lk,rfl,rfl,r,rfl];show QS "going_order"++QS ".<locals>.<lambda>"=(QS "going_order"++QS ".<locals>.")++QS "<lambda>";decide;exact WW (QW (QAv _ (3 * k)) (QAv _ 5)) o.dp
end
end L2.L3
namespace L2.L3.K30
open PySem PySem.Spec PyProof.Rows L2 L2.L3
def GN(a b:Nat):Bool:=decide (a<=b)
def srt(l:LN):LN:=l.mergeSort GN
theorem pq(a b c:Nat)(x:GN a b=kd)(y:GN b c=kd):GN a c=true:=dT (QW (aj x) (aj y))
theorem aq(a b:Nat):(GN a b||GN b a)=true:=by rcases Nat.le_total a b with z|z;rw[show GN a b=kd from dT z];rfl;rw[show GN b a=kd from dT z,QCD]
theorem Ah(l:LN):(srt l).Pairwise λa b=>a<=b:=(List.pairwise_mergeSort pq aq l).imp λz=>aj z
theorem Eh{z l:LN}(h:z.Perm l)(u:z.Pairwise (·<=·)):z=srt l:=WT (λa b _ _ x y=>QCd x y) u (Ah l) (h.trans (QBa l GN).symm)
theorem MR(l:LN):(srt l).Perm l:=QBa l GN
noncomputable abbrev Stp:=Nat×Bool×LN×List Pt
structure Gs where
 past:LN
 taken:LN
 held:List Pt
 steps:List Stp
def T8(w:Wd)(g:Gs)(n:Nat):Bool:=Vx w (JN w g.past) g.held (HA w.es n)
def iU(w:Wd)(g:Gs)(n:Nat):LN:=if(T8 w g n&&decide (y9 (HA w.es n)="tell"))=kd then g.taken++[n] else g.taken
def Oj(w:Wd)(g:Gs)(n:Nat):LN:=srt (VI w.es (iU w g n) (JN w (g.past++[n])))
def Em(w:Wd)(g:Gs)(n:Nat):List Pt:=YK w (g.past++[n]) (Oj w g n)
def bC(w:Wd)(g:Gs)(n:Nat):Gs:=#[g.past++[n],iU w g n,Em w g n,g.steps++[(n,T8 w g n,Oj w g n,Em w g n)]]
def CM(w:Wd)(ns:LN):Gs:=ns.foldl (bC w) #[[],[],[],[]]
noncomputable def pH(s:Stp):D:=.tuple [nD s.1,.bool s.2.1,.list (s.2.2.1.map nD),.list (s.2.2.2.map pr)]
def E8(l:List Pt):T:=.lst ((l.map pr).map T.d)
def MK(l:LN):T:=.lst ((l.map nD).map T.d)
noncomputable def stT(s:Stp):T:=.tup [.d (nD s.1),.d (.bool s.2.1),MK s.2.2.1,E8 s.2.2.2]
def LZ(w:Wd)(past taken:LN)(wr:List Pt)(h:Kn)(st:List Stp)(o5 o8 o9 o10:Option Sl):kA:=[bD (wD w),bD (.list (w.es.map rD)),oW (MK past),oW (MK taken),oW (tK wr),o5,oW (JZ h),oW (.lst (st.map stT)),o8,o9,o10]
theorem M3{h:List Evt}{x:LN}{ks:List Pt}{K:T->LT->Prop}{E:XE}(l:x.9<64)(a:∀n∈x,n<h.9/\TD (HA h n))(q:K (.lst (((srt (VI h x ks)).map nD).map T.d)) []):OL jE [.d (.list (h.map rD)),.lst ((x.map nD).map T.d),tK ks] K E:=#[h,x,ks,rfl,l,a,λu z y=>by rw[Eh z y];exact q]
section
variable{Ψ:PEv}{E:XE}{K:TK}{x:D}{u y:List D}{k:T}{g f e c b w v:Option Sl}
theorem Dc(h:Ψ.sp "held_among"=UC)(q:OL UC [.d x,.lst (u.map T.d),.lst (y.map T.d),k] (λr j=>∃n,j=[n]/\K r kd [bD x,g,oW (.lst (u.map T.d)),f,e,c,oW n,b,w,v,oW (.lst (y.map T.d))]) E):mB Ψ (.call "held_among" %[.var 0,.var 2,.var 10,.var 6|1]) E [bD x,g,oW (.lst (u.map T.d)),f,e,c,oW k,b,w,v,oW (.lst (y.map T.d))] K:=by show ∃j,LA (cA (Ψ.sp "held_among").md %[.var 0,.var 2,.var 10,.var 6|1]) [bD x,g,oW (.lst (u.map T.d)),f,e,c,oW k,b,w,v,oW (.lst (y.map T.d))]=kv j/\(cA (Ψ.sp "held_among").md %[.var 0,.var 2,.var 10,.var 6|1]).Nodup/\(pe Ψ %[.var 0,.var 2,.var 10,.var 6|1] E).a (Ψ.sp "held_among").md (clear (cA (Ψ.sp "held_among").md %[.var 0,.var 2,.var 10,.var 6|1]) [bD x,g,oW (.lst (u.map T.d)),f,e,c,oW k,b,w,v,oW (.lst (y.map T.d))]) λp l=>∃o,CA (Ψ.sp "held_among").md p j=kv o/\(Ψ.sp "held_among").run o (λr m=>∃i,vC (cA (Ψ.sp "held_among").md %[.var 0,.var 2,.var 10,.var 6|1]) m l=kv i/\K r kd i) E;rw[h];refine#[[k],rfl,Qe.mpr #[wt,Q1],?_];refine#[rfl,?_];refine#[[.d x,.lst (u.map T.d),.lst (y.map T.d),k],?_,?_];show(match yE (T.lst (u.map T.d)) with|some t=>(match yE (T.lst (y.map T.d)) with|some t=>(kv [k]).map (t::·)|none=>kf).map (t::·)|none=>kf).map (T.d x::·)=_;rw[RU,RU];rfl;refine UC.mono (λr j z=>?_) (λ_ z=>z) q;let#[n,rfl,z]:=z;exact#[_,rfl,z]
end
section
variable{Ψ:PEv}{Z:PEnds}{w:Wd}{u:Kn}{o5 o8 o9 o10 o:Option Sl}{g:Gs}{n:Nat}{ns:LN}{K:T->LT->Prop}{E:XE}{σ:kA}{i k m:Int}{cs:LJ}
theorem Hq(r:Ψ.sp "wrong_among"=eD)(a:Ψ.sp "live_among"=jE)(p:Ψ.sp "held_among"=UC){past taken:LN}{wr:List Pt}{st:List Stp}(y:WOk w)(X:past.9<=60)(v:∀n∈past,n<w.es.9)(s:taken.9<=60)(z:∀n∈taken,n<w.es.9/\TD (HA w.es n))(hk:yK w u)(e:u.9<=10000)
  (q:∀h,yK w h->h.9<=u.9+10->Z.nx (LZ w past taken (JN w past) h st (kv (.own (E8 (YK w past (srt (VI w.es taken (JN w past))))))) o8 o9 (kv (.own (MK (srt (VI w.es taken (JN w past)))))))) :
  pF Ψ AJ Z (LZ w past taken wr u st o5 o8 o9 o10):=by
 have x:=MR (VI w.es taken (JN w past));have fl:=Q9 (λn=>!decide (((bJ (HA w.es n)).1,(bJ (HA w.es n)).2)∈JN w past)) taken;have b:Ld w (srt (VI w.es taken (JN w past))):=#[by rw[x.length_eq];unfold VI;omega,λn l=>z n (QZ.mp (x.mem_iff.mp l)).1]
 delta LZ MK;delta AJ;simp![↓xA (md:=[.fro,.shal]) r rfl rfl,↓xA (md:=[.fro,.shal,.bor]) a rfl rfl,↓sC,↓Fd,↓Xs];refine#[_,_,rfl,y,(),v,?_];simp![↓xA (md:=[.fro,.shal,.bor]) a rfl rfl,↓sC,↓Fd,↓Xs];refine M3 () z ?_;simp![↓vA];refine Dc p (#[_,_,_,_,rfl,#[y,(),v],b,#[hk,e],λh j f=>#[_,rfl,?_]]);simp![↓vA];have q:=q h j f;unfold LZ MK E8 at q;exact q
structure GsOk(w:Wd)(g:Gs):Prop where
 p:∀n∈g.past,n<w.es.9
 tl:g.taken.9<=g.past.9
 t:∀n∈g.taken,n<w.es.9/\TD (HA w.es n)
 h:Nd g.held
 s:g.steps.9=g.past.9
theorem IX(y:WOk w)(l z:LN):Nd (YK w l z):=by intro p h;let#[x,v,h]:=wu.mp h;let#[m,a,rfl]:=QY.mp h;exact#[y.po x v,y.mo m (QZ.mp a).1]
theorem X9{e:Evt}(h:y9 e="tell"):TD e:=by
 cases e with|see t p m x=>exact Uz (show QS "see"=QS "tell" from h) (by decide)|tell t a b m x q=>exact#[t,a,b,m,x,q,rfl]
theorem ze(h:GsOk w g)(x:n<w.es.9):(iU w g n).9<=g.past.9+1/\∀k∈iU w g n,k<w.es.9/\TD (HA w.es k):=by have:=h.tl;unfold iU;split;rename_i c;rw[Qb,ax]at c;refine#[by rw[QJ];exact Wu this,λk hk=>?_];rcases Qg.mp hk with hk|hk;exact h.t k hk;rw[QI.mp hk];exact#[x,X9 c.2];exact#[(),h.t]
theorem GQ(v:WOk w)(h:GsOk w g)(x:n<w.es.9):GsOk w (bC w g n):=by
 let#[z,y]:=ze h x;refine#[λk hk=>?_,?_,y,IX v _ _,?_];rcases Qg.mp hk with hk|hk
 ·exact h.p k hk
 rw[QI.mp hk];exact x;show(iU w g n).9<=(g.past++[n]).9;rw[QJ];exact z;show(g.steps++_).9=(g.past++[n]).9;rw[QJ,QJ,h.s];rfl
noncomputable abbrev NM:PX:=.call "is_taken" %[.var 0,.idx (.var 1) (.var 8),.var 4,.var 5|1]
theorem Bf(l:List Pt):(E8 l).er=.list (l.map pr):=by show PyData.list (ersT _)=_;rw[DA]
theorem Rv(A:Ψ.sp "wrong_among"=eD)(W:Ψ.sp "live_among"=jE)(Y:Ψ.sp "held_among"=UC)(e:WOk w)(a:GsOk w g)(B:g.past.9<60)(v:n<w.es.9)(hk:yK w u)(X:u.9<=10000)
  (q:∀h,yK w h->h.9<=u.9+10->Z.nx (LZ w (g.past++[n]) (iU w g n) (JN w (g.past++[n])) h g.steps (oW (E8 (Em w g n))) (bD (nD n)) (bD (.bool (T8 w g n))) (oW (MK (Oj w g n))))) :
  pF Ψ OD Z (LZ w g.past g.taken (JN w g.past) u g.steps o5 (bD (nD n)) (bD (.bool (T8 w g n))) o10):=by
 have C:=a.tl;let#[F,j]:=ze a v;have s:∀k∈g.past++[n],k<w.es.length:=(GQ e a v).p;have r:=Hq (Z:=Z) (wr:=JN w g.past) (st:=g.steps) (o5:=o5) (o8:=bD (nD n)) (o9:=bD (.bool (T8 w g n))) (o10:=o10) A W Y e (past:=g.past++[n]) (by rw[QJ];exact B) s (taken:=iU w g n) () j hk X q;unfold LZ MK at r;delta LZ MK;delta OD;simp![↓YR v,↓JR];rw[QE,QE];refine#[(),?_];have b:∀l:LN,(l.map nD).map T.d++[T.d (nD n)]=((l++[n]).map nD).map T.d:=λl=>by rw[QR,QR];rfl
 rw[b];cases x:T8 w g n with
 |false=>have y:iU w g n=g.taken:=t3 (by rw[x];exact λz=>by cases z);rw[y,x]at r;exact r|true =>
  cases f:decide (y9 (HA w.es n)="tell") with|false=>have y:iU w g n=g.taken:=t3 (by rw[x,f];exact λz=>by cases z);rw[y,x]at r;exact r|true=>have y:iU w g n=g.taken++[n]:=t6 (by rw[x,f];rfl);rw[y,x]at r;simp![↓vA];rw[QE,QE,b];exact#[(),r]
theorem Sv(Y:Ψ.sp "is_taken"=OR)(X:Ψ.sp "wrong_among"=eD)(p:Ψ.sp "live_among"=jE)(l:Ψ.sp "held_among"=UC){f:kA->Prop}{r:LT}(z:WOk w)(y:GsOk w g)(W:g.past.9<60)(v:n<w.es.9)(hk:yK w u)(j:u.9<=10000)
  (q:∀x o8 o9,yK w x->x.9<=u.9+10->z9 Ψ NM (pF Ψ OD) f r (LZ w (g.past++[n]) (iU w g n) (JN w (g.past++[n])) x (bC w g n).steps kf o8 o9 kf) (E8 (Em w g n))) :
  z9 Ψ NM (pF Ψ OD) f (T.d (nD n)::r) (LZ w g.past g.taken (JN w g.past) u g.steps o5 o8 o9 o10) (E8 g.held):=by
 have A:=y.tl;have B:=y.s;refine#[rfl,?_];rw[Bf];show mB Ψ NM (λ_=>False) [bD (wD w),bD (.list (w.es.map rD)),kv (.bor (MK g.past)),kv (.bor (MK g.taken)),kv (.bor (tK (JN w g.past))),bD (.list (g.held.map pr)),kv (.bor (JZ u)),kf,bD (nD n),eB o9,eB o10] _;simp![↓YR v,↓xA (md:=[.fro,.fro,.bor,.fro]) Y rfl rfl,↓sC,↓Fd,↓Xs];refine#[_,_,_,_,rfl,z,(z.ev v),y.h,?_];refine#[rfl,T8 w g n,rfl,Rv X p l z y W v hk j λx a b=>#[_,_,_,_,_,rfl,rfl,rfl,rfl,rfl,by rw[QE];omega,?_]];have q:=q x (bD (nD n)) (bD (.bool (T8 w g n))) a b;have e:(bC w g n).steps.map stT=g.steps.map stT++[.tup [.d (nD n),.d (.bool (T8 w g n)),MK (Oj w g n),E8 (Em w g n)]]:=QR;rw[<- e];exact q
theorem Lc(e:Evt):∃t,HJ (rD e)=kv t:=by
 cases e with|see t p m h=>exact#[t,rfl]|tell t a b m h q=>exact#[t,rfl]
def kO(w:Wd)(ns:LN):Prop:=Us (w.es.map rD) ns
theorem tS(h:kO w ns):∀n∈ns,n<w.es.length:=λn x=>by
 have:=qA.mp (h.1.mem_iff.mp x)
 rwa [QE]at this
theorem eV(h:kO w ns):ns.9=w.es.length:=by rw[h.1.length_eq,qL,QE]
theorem SU(x:WOk w)(q:∀ns,kO w ns->K (MK ns) []):OL Oa [.d (.list (w.es.map rD))] K E:=#[_,rfl,by rw[QE];exact WW x.el (by decide),λe y=>by
 let#[v,_,rfl]:=QY.mp y;exact Lc v,λns h=>by
 have:=q ns h;unfold MK at this;rw[QX]at this;exact this]
theorem Rr{s m r:PT}{it e:PX}(h:s=.for_ (.nm 8) .val it (.seq (.set 9 e) (zO m)))(q:vL Ψ it E [] (o::σ) λxs y=>bN xs=kd/\JK .val xs λx=>∃v,y[5]?=kv (kv (.own v))/\z9 Ψ e (xB Ψ E m) (λz=>xB Ψ E r Z (kill [8] z)) x y v):xB Ψ E (.seq (.gol s m) r) Z (o::σ):=#[it,e,h,q]
theorem l7{Ψ:PEv}(e:Ψ.sp "is_taken"=OR)(b:Ψ.sp "wrong_among"=eD)(a:Ψ.sp "live_among"=jE)(v:Ψ.sp "held_among"=UC){j:kA->Prop}{w:Wd}(y:WOk w):∀(r:LN) (g:Gs) (u:Kn) (o5 o8 o9 o10:Option Sl),GsOk w g->g.past.9+r.9<=60->(∀n∈r,n<w.es.9)->yK w u->u.9<=10 * g.past.9 ->
  (∀u o5 o8 o9 o10,j (LZ w (r.foldl (bC w) g).past (r.foldl (bC w) g).taken (JN w (r.foldl (bC w) g).past) u (r.foldl (bC w) g).steps o5 o8 o9 o10))->z9 Ψ NM (pF Ψ OD) j ((r.map nD).map T.d) (LZ w g.past g.taken (JN w g.past) u g.steps o5 o8 o9 o10) (E8 g.held)
 |[],g,u,o5,o8,o9,o10,_,_,_,_,_,q=>q u o5 o8 o9 o10|n::r,g,u,o5,o8,o9,o10,g1,f,g3,k1,k2,q=>by have f:g.past.9+(r.9+1)<=60:=f;have z:=g3 n QF;refine Sv e b a v y g1 () z k1 () λh o8 o9 l s=>l7 e b a v y r (bC w g n) h kf o8 o9 kf (GQ y g1 z) ?_ (λx p=>g3 x (QD _ p)) l ?_ q;show(g.past++[n]).9+r.9<=60;rw[QJ];show g.past.9+1+r.9<=60;omega;show h.9<=10 * (g.past++[n]).9;rw[QJ];show h.9<=10 * (g.past.9+1);omega
def XG:PSp where
 run:=λh Q _=>∃w:Wd,h=[.d (wD w)]/\WOk w/\∀ns,kO w ns->Q (.lst ((CM w ns).steps.map stT)) []
theorem Xb(f:Ψ.sp "going_order"=Oa)(b:Ψ.sp "is_taken"=OR)(a:Ψ.sp "wrong_among"=eD)(v:Ψ.sp "live_among"=jE)(y:Ψ.sp "held_among"=UC):EH Ψ HW XG F8 rX:=by rintro _ Q _ ⟨w,rfl,x,q⟩;have l:=x.el;refine nA [bD (wD w),kf,kf,kf,kf,kf,kf,kf,kf,kf,kf] ?_;delta HW;simp![↓eR];refine#[(),(),(),(),?_];refine Rr (it:=.acons (.call "going_order" %[.var 1|1]) .anil) (e:=NM) rfl ?_;simp![↓xA (md:=[]) f rfl rfl];refine SU x λns h=>?_;have j:=eV h;delta MK;simp![↓vA];refine#[_,rfl,l7 b a v y x ns #[[],[],[],[]] [] _ kf kf kf #[λ_ z=>(by cases z),QT _,λ_ z=>(by cases z),λ_ z=>(by cases z),rfl] (by show 0+ns.9<=60;omega) (tS h) (λ_ z=>(by cases z)) (QT _) λu o5 o8 o9 o10=>?_];delta LZ;simp![↓vA];exact q ns h
def gI{α:Type}(l:List α)(i:Int)(d:α):α:=(fE l i).getD d
theorem GC{α:Type}{l:List α}{d:α}(z:0<=i)(y:i<l.9):fE l i=kv (gI l i d)/\gI l i d∈l:=by let#[v,x,h]:=kR z y;unfold gI;rw[x];exact#[rfl,qQ h]
theorem jD{α:Type}{f:α->D}{l:List α}(d:α){K:D->Prop}(x:0<=i)(h:i<l.9)(q:K (f (gI l i d))):FF (fE (l.map f) i) K:=by rw[OG,(GC (d:=d) x h).1];exact#[_,rfl,q]
def SO(cs:LJ)(k:Int):Int:=if 0<cs.9 then gI cs (k % cs.9) 0 else 0
noncomputable def Yv(c k:Int):Int:=(c % 2147483647+7 * k+3) * (48271+1103 * k * k) % 2147483629
def dA(cs:LJ)(k m:Int):Int:=Yv (SO cs k) k / 64 % m
theorem KA(h:0<m):0<=dA cs k m/\dA cs k m<m:=#[WA _ (),wQ _ h]
theorem dj{j:Nat}(h:j<100)(c:Int)(hc:decide (0<=c/\c<=4000)=kd):0<=c+(j:Int)/\c+(j:Int)<=5000:=by have:=aj hc;omega
theorem dk(h:0<=k/\k<=100)(c:Int)(hc:decide (0<=c/\c<=40)=kd):0<=11 * k+c/\11 * k+c<=5000:=by have:=aj hc;omega
def mC:PSp where
 md:=[.shal]
 run:=λh Q _=>∃(cs:LJ) (k m:Int),h=[.lst ((cs.map j5).map T.d),.d (.int k),.d (.int m)]/\((0<=k/\k<=5000)/\0<m)/\Q (.d (.int (dA cs k m))) []
theorem T6{a b:LJ}(h:(a.map j5).map T.d=(b.map j5).map T.d):a=b:=(wP λx y e=>by injection e).mp ((wP λx y e=>by injection e).mp h)
theorem GB:OL mC [.lst ((cs.map j5).map T.d),.d (.int k),.d (.int m)] K E=(((0<=k/\k<=5000)/\0<m)/\K (.d (.int (dA cs k m))) []):=Az #[λ#[h,_,_,e,a,q]=>by injection e with e1 e2;injection e1 with e1;cases T6 e1;cases e2;exact#[a,q],λq=>#[cs,k,m,rfl,q]]
theorem gN{ds:List D}{n:Bool}{md:List Md}{xs:List (T×Bool)}{C:LT->Prop}:VB (.shal::md) ((.d (.list ds),n)::xs) C=VB md xs λts=>C (.lst (ds.map T.d)::ts):=Ix (by rw[aA];simp only[yE,T.vw,YA,Qx])
theorem Bb:EH Ψ uN mC lU aO:=by
 rintro _ Q _ ⟨cs,k,m,rfl,⟨⟨v,y⟩,x⟩,q⟩;refine nA [kv (.bor (.lst ((cs.map j5).map T.d))),bD (.int k),bD (.int m),kf,kf] ?_;have r:∀c,c=SO cs k->pF Ψ pG (eZ Q) [kv (.bor (.lst ((cs.map j5).map T.d))),bD (.int k),bD (.int m),bD (.int c),kf]:=by rintro c rfl;delta pG;simp![↓vA];have a:=WA (SO cs k) (show(2147483647:Int)≠0 by decide);have b:=wQ (SO cs k) (show(0:Int)<2147483647 by decide);exact#[iN.ok (.inl #[by decide,by decide]),iN.ok (.inl #[by decide,by decide]),iN.ok (.inr #[(),()]),iN.ok (.inl #[(),()]),x,q]
 delta uN;simp![QE];by_cases c:0<cs.9;have h:(0:Int)<cs.length:=()
 rw[t6 (dT h)];refine#[h,jD 0 (WA _ ()) (wQ _ h) ?_];exact r _ (by unfold SO;rw[t6 c]);rw[t3 (λz=>by have:=aj z;omega)];exact r _ (by unfold SO;rw[t3 c])
def yC(m:Int)(cs:LJ)(p:Int×Nat):LJ:=if(p.2:Int)<m then cs++[p.1] else cs.set ((p.2:Int) % m).toNat (gI cs ((p.2:Int) % m) 0 * 31+p.1)
def MB(m:Int)(l:LJ):LJ:=l.zipIdx.foldl (yC m) []
theorem FM{m:Int}(y:0<m):∀(l:LJ) (i:Nat) (cs:LJ),(cs.9:Int)<=m->cs.9<=i->((i:Int)<m->cs.9=i)->((l.zipIdx i).foldl (yC m) cs).9<=m.toNat
 |[],i,cs,h,_,_=>by show cs.9<=_;omega|x::l,i,cs,h,h2,h3=>by show((l.zipIdx (i+1)).foldl (yC m) (yC m cs (x,i))).9<=_;unfold yC;split;rename_i c;have c:(i:Int)<m:=c;have:=h3 c;refine FM y l (i+1) _ ?_ ?_ λ_=>?_;rw[QJ];show((cs.9+1:Nat):Int)<=m;omega;rw[QJ];show cs.9+1<=i+1;omega;rw[QJ];show cs.9+1=i+1;omega;rename_i c;have c:¬ (i:Int)<m:=c;refine FM y l (i+1) _ ?_ ?_ λz=>?_;rw[qa];exact h;rw[qa];omega;omega
def tJ:PSp where
 md:=[.shal]
 run:=λh Q _=>∃(ns:LJ) (m:Int),h=[.lst ((ns.map j5).map T.d),.d (.int m)]/\(0<m/\m<=100)/\Q (.lst (((MB m ns).map j5).map T.d)) []
noncomputable def Nq(ns:LJ)(m:Int)(cs:LJ)(o3 o4:Option Sl):kA:=[kv (.bor (.lst ((ns.map j5).map T.d))),bD (.int m),oW (.lst ((cs.map j5).map T.d)),o3,o4]
noncomputable def jr{α:Type}(f:α->D)(p:α×Nat):T:=.d (.tuple [.int (p.2:Int),f p.1])
theorem C7{α:Type}(f:α->D)(l:List α):((l.map f).zipIdx.map λp=>T.d (.tuple [.int (p.2:Int),p.1]))=l.zipIdx.map (jr f):=by rw[List.zipIdx_map,QX];rfl
theorem Jm{c:PX}{s y r:PT}:xB Ψ E (.seq (.ife c s y) r) Z (o::σ)=oK Ψ c E (o::σ) λk x=>if k=kd then xB Ψ E s { Z with nx:=λh=>xB Ψ E r Z h } x else xB Ψ E y { Z with nx:=λh=>xB Ψ E r Z h } x:=rfl
theorem zZ:EH Ψ PH tJ rN fK:=by
 rintro _ Q _ ⟨ns,m,rfl,⟨s,A⟩,q⟩;refine nA [kv (.bor (.lst ((ns.map j5).map T.d))),bD (.int m),kf,kf,kf] ?_;delta PH;simp![↓vA];refine#[(),?_];rw[C7];refine rB (jr j5) (λr v=>∃l i cs p f,r=List.zipIdx l i/\r.foldl (yC m) cs=MB m ns/\((cs.9:Int)<=m/\((i:Int)<m->cs.9=i)/\(m<=(i:Int)->(cs.9:Int)=m))/\v=Nq ns m cs p f) ?_ ?_ _ _ #[ns,0,[],kf,kf,rfl,rfl,#[by show(0:Int)<=m;omega,λ_=>rfl,λz=>()],rfl];rintro v ⟨l,i,cs,p,f,_,e,_,rfl⟩;have e:cs=MB m ns:=e;subst e;delta Nq;simp![↓vA];exact q;rintro⟨x,j⟩ r v N X ⟨l,i,cs,p,f,h,e,⟨B,W,Y⟩,rfl⟩;cases l with|nil=>cases h|cons y l=>injection h with h e3;injection h with e4 e5;subst e4;subst e5;have e:r.foldl (yC m) (yC m cs (x,j))=MB m ns:=e;delta Nq jr;delta kJ;simp![↓Jm];by_cases c:(j:Int)<m;rw[show yC m cs (x,j)=cs++[x] from t6 c]at e;have:=W c;simp![dT c,QE];refine#[(),X _ #[l,j+1,cs++[x],bD (.int (j:Int)),bD (.int x),e3,e,#[?_,?_,?_],?_]];rw[QJ];show((cs.9+1:Nat):Int)<=m;omega;rw[QJ];intro z;show cs.9+1=j+1;omega;rw[QJ];intro z;show((cs.9+1:Nat):Int)=m;omega;delta Nq;rw[QR,QR];rfl;rw[show yC m cs (x,j)=cs.set ((j:Int) % m).toNat (gI cs ((j:Int) % m) 0 * 31+x) from t3 c]at e;have C:(cs.9:Int)=m:=Y ();have a:=WA (j:Int) (show m≠0 by omega);have b:=wQ (j:Int) s;rw[t3 (λz=>c (aj z))];refine#[s,jD 0 a () ?_];simp![↓vA];refine#[iN.ok (.inr #[by decide,by decide]),s,Cu a (by rw[QE];omega) (X _ #[l,j+1,cs.set ((j:Int) % m).toNat (gI cs ((j:Int) % m) 0 * 31+x),bD (.int (j:Int)),bD (.int x),e3,e,#[?_,?_,?_],?_])];rw[qa];omega;intro z;omega;intro z;rw[qa];omega;delta Nq;rw[QBC,QBC,QBC]
end
section
variable{Ψ:PEv}{E:XE}{ρ:kA}{K:TK}{a y v h b:PX}{x:D}{n:Bool}{f:Str}{op:gV}{g:Bi}{i:Int}
def FY(x:T)(n:Bool)(Ψ:PEv)(y v:PX)(E:XE)(m:kA)(K:TK):Prop:=sq (α:=Option Int) (lA x n) m (if isNop y=kd then λρ (R:Option Int->kA->Prop)=>R kf ρ else λρ R=>(pe Ψ y E).e ρ λl _ j=>RF l.er λo=>R o j) λl j =>
   sq (α:=Option Int) (lA x n) j (if isNop v=kd then λρ (R:Option Int->kA->Prop)=>R kf ρ else λρ R=>(pe Ψ v E).e ρ λu _ w=>RF u.er λo=>R o w) λu w=>EG (lA x n).vw l u λz k=>K z k w
theorem mR:mB Ψ (.slc a y v) E ρ K=mB Ψ a E ρ λx n z=>FY x n Ψ y v E z K:=rfl
theorem xw:FY (.d x) n Ψ .nop (.call f h) E ρ K=mB Ψ (.call f h) E ρ λu _ w=>cM u λo=>lI (.d x) n kf o λz k=>K z k w:=by cases n<;>rfl
theorem uw:FY (.d x) n Ψ .nop (.bin op a b) E ρ K=mB Ψ (.bin op a b) E ρ λu _ w=>cM u λo=>lI (.d x) n kf o λz k=>K z k w:=by cases n<;>rfl
theorem kw:FY (.d x) n Ψ .nop (.bi g h) E ρ K=mB Ψ (.bi g h) E ρ λu _ w=>cM u λo=>lI (.d x) n kf o λz k=>K z k w:=by cases n<;>rfl
theorem cw:FY (.d x) n Ψ (.call f h) .nop E ρ K=mB Ψ (.call f h) E ρ λu _ w=>cM u λo=>lI (.d x) n o kf λz k=>K z k w:=by cases n<;>rfl
theorem bw:FY (.d x) n Ψ (.int i) (.bin op a b) E ρ K=mB Ψ (.bin op a b) E ρ λu _ w=>cM u λo=>lI (.d x) n (kv i) o λz k=>K z k w:=by cases n<;>rfl
end
section
variable{a k most:Int}{b d e c:D}{Ψ:PEv}{n m:Bool}{Q:T->Bool->Prop}{R:T->Prop}{i:Nat}{w:Ps}{o:LS}{cs:LJ}{X:Option (Str×Str)}{p:Str×Str}{Z:PEnds}{ρ:kA}
def eQ:Str:="bcdfgjkmnpqvwxyz"
def Pe(a b f:Int)(k:Nat):Str:=ZJ "zq" a++#[(qG [gI eQ.cps.toList ((f+(k:Int)) % 16) 0])]++wq "vzb" kf (kv b)
def Np(a b f:Int):LS:=(Qt 16).map (Pe a b f)
noncomputable def Gm(s:Str):Bool:=decide (s.9<=3)&&s.cps.toList.all λc=>decide (c<128)
theorem da:((Qt 2).all λ(a:Nat)=>Gm (ZJ "zq" (a:Int)))=true:=by decide +kernel
theorem C9:((Qt 4).all λ(b:Nat)=>Gm (wq "vzb" kf (kv (b:Int))))=true:=by decide +kernel
theorem kc:(decide eQ.cps.toList.Nodup&&eQ.cps.toList.all λc=>decide (c<128))=true:=by decide +kernel
theorem K4(h:0<=a)(x:a<2):Gm (ZJ "zq" a)=true:=by let#[a,rfl]:=qd h;exact Ql.mp da a (qA.mpr ())
theorem T2(h:0<=a)(x:a<4):Gm (wq "vzb" kf (kv a))=true:=by let#[a,rfl]:=qd h;exact Ql.mp C9 a (qA.mpr ())
theorem pM(a b f:Int)(k:Nat):(Pe a b f k).cps.toList=(ZJ "zq" a).cps.toList++([gI eQ.cps.toList ((f+(k:Int)) % 16) 0]++(wq "vzb" kf (kv b)).cps.toList):=by show((ZJ "zq" a).cps++(qG [gI eQ.cps.toList ((f+(k:Int)) % 16) 0])++(wq "vzb" kf (kv b)).cps).toList=_;rw[QBb,QBb,Q2]
theorem Mk{l:LN}(h:l.Nodup){x y:Int}(j:0<=x)(g:x<l.9)(f:0<=y)(z:y<l.9)(e:gI l x 0=gI l y 0):x=y:=by let#[v,Y,s]:=kR j g;let#[u,r,q]:=kR f z;unfold gI at e;rw[Y,r]at e;have e:v=u:=e;subst e;have:=(QCB (i:=x.toNat) () h).mp (s.trans q.symm);omega
theorem aK(f:Int)(k:Nat):0<=(f+(k:Int)) % 16/\(f+(k:Int)) % 16<eQ.cps.toList.length:=#[WA _ (by decide),wQ _ (by decide)]
theorem Hj{b f:Int}(q:0<=a)(l:a<2)(g:0<=b)(v:b<4)(Y:0<=f)(r:f<16):(Np a b f).Nodup/\∀x∈Np a b f,OkS x:=by
 have X:=kc;rw[Qb,ax]at X;have p:=K4 q l;have s:=T2 g v;unfold Gm at p s;rw[Qb]at p s;constructor;refine QCA.mpr (wf (λ{i j} u z h e=>h ?_) QAw);have e:=ak (λs:Str=>s.cps.toList) e;have e:(Pe a b f i).cps.toList=(Pe a b f j).cps.toList:=e;rw[pM,pM]at e;have e:=List.append_cancel_left e;injection e with e _;have:=Mk X.1 (aK f i).1 (aK f i).2 (aK f j).1 (aK f j).2 e;have:=qA.mp u;have:=qA.mp z;omega;intro x y;let#[k,_,rfl]:=QY.mp y;show(Pe a b f k).cps.all _=kd;rw[<- Array.all_toList,pM,Ql];intro c hc;have:c<128:=by
  rcases Qg.mp hc with hc|hc;exact aj (Ql.mp p.2 c hc);rcases Qg.mp hc with hc|hc
  ·rw[QI.mp hc]
   exact aj (Ql.mp X.2 _ (GC (aK f k).1 (aK f k).2).2)
  exact aj (Ql.mp s.2 c hc)
 exact dT ()
def yD(cs:LJ):LS:=Np (dA cs 901 2) (dA cs 902 4) (dA cs 903 16)
theorem EF(cs:LJ):(yD cs).Nodup/\(∀x∈yD cs,OkS x)/\(yD cs).9=16:=by have a:=KA (cs:=cs) (k:=901) (m:=2) (by decide);have b:=KA (cs:=cs) (k:=902) (m:=4) (by decide);have c:=KA (cs:=cs) (k:=903) (m:=16) (by decide);let#[y,h]:=Hj a.1 a.2 b.1 b.2 c.1 c.2;exact#[y,h,by unfold yD Np;rw[QE,qL]]
def DL:PSp where
 run:=λh Q _=>∃cs:LJ,h=[.d (.list (cs.map j5))]/\Q (.lst (((yD cs).map j3).map T.d)) []
theorem X5(u:Ψ.sp "_law_draw"=mC):EH Ψ SJ DL fP kM:=by
 rintro _ Q _ ⟨cs,rfl,q⟩;have a:=KA (cs:=cs) (k:=901) (m:=2) (by decide);have b:=KA (cs:=cs) (k:=902) (m:=4) (by decide);have c:=KA (cs:=cs) (k:=903) (m:=16) (by decide);refine nA [bD (.list (cs.map j5)),kf,kf,kf,kf] ?_;delta SJ;simp![↓mR,↓xw,↓u4,↓xA (md:=[.shal]) u rfl rfl,↓gN,↓GB];have y:(QS "zq").9=2:=rfl;have x:(QS "vzb").9=3:=rfl;have h:(QS "bcdfgjkmnpqvwxyz").9=16:=rfl;rw[y,x];refine#[(),(),(),(),?_];refine dB (λ(i:Nat)=>T.d (.int (i:Int))) (λi=>T.d (.str (Pe (dA cs 901 2) (dA cs 902 4) (dA cs 903 16) i))) _ [] _ (λi j R z=>?_) (by show 0+(Qt 16).9<=_;rw[qL];omega) ?_;simp![↓vA];have Y:=WA (dA cs 903 16+(i:Int)) (show(16:Int)≠0 by decide);have r:=wQ (dA cs 903 16+(i:Int)) (show(0:Int)<16 by decide);rw[h];refine#[(),?_];have v:fE (QS "bcdfgjkmnpqvwxyz").cps.toList ((dA cs 903 16+(i:Int)) % 16)=kv (gI eQ.cps.toList ((dA cs 903 16+(i:Int)) % 16) 0):=(GC (l:=eQ.cps.toList) (aK _ i).1 (aK _ i).2).1;refine#[_,v,?_];simp![↓vA];have p:=K4 a.1 a.2;have s:=T2 b.1 b.2;unfold Gm at p s;rw[Qb,ax]at p s;have e:(ZJ (QS "zq") (dA cs 901 2)++#[(qG [gI eQ.cps.toList ((dA cs 903 16+(i:Int)) % 16) 0])]:Str).9=(ZJ (QS "zq") (dA cs 901 2)).9+1:=Array.size_append;have g:(ZJ (QS "zq") (dA cs 901 2)).9<=3:=p.1;have f:(wq (QS "vzb") kf (kv (dA cs 902 4))).9<=3:=s.1;rw[e];exact#[by show _+1<=_;omega,(),z];rw[Qh,JA λi=>j3 (Pe (dA cs 901 2) (dA cs 902 4) (dA cs 903 16) i)];have e:((Qt 16).map λi=>j3 (Pe (dA cs 901 2) (dA cs 902 4) (dA cs 903 16) i))=(yD cs).map j3:=by unfold yD Np;rw[QX];rfl
 exact e▸q
def Jn(b:Bool):Int:=if b then 1 else 0
theorem jf{b:Bool}:LH .int [(.d (.bool b),n)] Q=Q (.d (.int (Jn b))) false:=by unfold LH CB;rw[aA];exact Cr b
theorem Et{f g h k:D}{t:T}:BA (.lst [.d d,.d e,.d f,.d g,.d h,.d k]) n t m R=BA (.lst ([d,e,f,g,h,k].map T.d)) n t m R:=rfl
def Pi(cs:LJ)(h:Int)(p:Str×Nat):Str×Int×Int×Int:=(p.1,dA cs (910+(p.2:Int)) h,dA cs (920+(p.2:Int)) h * Jn (decide (dA cs (930+(p.2:Int)) 3=0)),gI [1,1,1,2,2,3] (dA cs (940+(p.2:Int)) 6) 0)
def eL(cs:LJ):Int:=gI [4,100] (dA cs 904 2) 0
def cS(cs:LJ)(ns:LS):List (Str×Int×Int×Int):=ns.zipIdx.map (Pi cs (eL cs))
def OU:PSp where
 run:=λx Q _=>∃(cs:LJ) (h:LS),x=[.d (.list (cs.map j5)),.d (.list (h.map j3))]/\h.9<=100/\Q (.lst (((cS cs h).map VJ).map T.d)) []
def yt(cs:LJ)(ns:LS)(w:List (Str×Int×Int×Int))(o4 o5 o6 o7:Option Sl):kA:=[bD (.list (cs.map j5)),bD (.list (ns.map j3)),oW (.lst ((w.map VJ).map T.d)),bD (.int (eL cs)),o4,o5,o6,o7]
theorem M1(cs:LJ):0<eL cs:=by have a:=KA (cs:=cs) (k:=904) (m:=2) (by decide);have:=(GC (l:=[(4:Int),100]) (d:=0) a.1 a.2).2;show 0<gI _ _ _;rcases QM.mp this with e|e;rw[e];decide;rw[QI.mp e];decide
theorem gn(b:Bool):-(2 ^ 64)<Jn b/\Jn b<2 ^ 64:=by cases b<;>decide
theorem Eb{α:Type}{l:List α}{p:α×Nat}(h:p∈l.zipIdx i):p.1∈l/\p.2<i+l.length:=by let#[z,y,x]:=List.mem_zipIdx h;exact#[x▸qz _,y]
theorem sj(Y:Ψ.sp "_law_draw"=mC):EH Ψ OH OU pN cK:=by
 rintro _ Q _ ⟨cs,h,rfl,hl,q⟩;have a:=KA (cs:=cs) (k:=904) (m:=2) (by decide);have wp:=M1 cs;refine nA [bD (.list (cs.map j5)),bD (.list (h.map j3)),kf,kf,kf,kf,kf,kf] ?_;delta OH;simp![↓xA (md:=[.shal]) Y rfl rfl,↓gN,↓GB];refine#[(),(),jD (f:=j5) (l:=[4,100]) 0 a.1 a.2 ?_];rw[C7];refine rB (jr j3) (λr ρ=>∃w g v u z,w++r.map (Pi cs (eL cs))=cS cs h/\(w.9+r.9<=100/\∀p∈r,p.2<100)/\ρ=yt cs h w g v u z) ?_ ?_ _ _ #[[],kf,kf,kf,kf,rfl,#[by rw[List.length_zipIdx];show 0+_<=_;omega,λp s=>by have:=(Eb s).2;omega],rfl];rintro ρ ⟨w,g,v,u,z,e,_,rfl⟩;have e:w=cS cs h:=by rw[<- e];exact(qE _).symm
 subst e;delta yt;simp![↓vA];exact q;rintro⟨x,j⟩ r ρ N F ⟨w,g,v,u,z,e,⟨K,W⟩,rfl⟩;have K:w.9+(r.9+1)<=100:=K;have y:j<100:=W (x,j) QF;have b:=KA (cs:=cs) (k:=940+(j:Int)) (m:=6) (by decide);delta yt jr;delta zJ;simp_arith![↓xA (md:=[.shal]) Y rfl rfl,↓gN,↓GB,↓jf,↓Et,QE];have E:=dj y 910 rfl;have C:=dj y 920 rfl;have B:=dj y 930 rfl;have A:=dj y 940 rfl;refine#[E.1,E.2,wp,C.1,C.2,wp,B.1,B.2,iN.ok (.inr (gn _)),(),A.1,A.2,jD (f:=j5) (l:=[1,1,1,2,2,3]) 0 b.1 b.2 #[(),(),F _ #[w++[Pi cs (eL cs) (x,j)],bD (.int (j:Int)),bD (.str x),bD (.int (dA cs (910+(j:Int)) (eL cs))),bD (.int (dA cs (920+(j:Int)) (eL cs) * Jn (decide (dA cs (930+(j:Int)) 3=0)))),?_,#[?_,λp s=>W p (QD _ s)],?_]]];rw[Q2];exact e;rw[QJ];show w.9+1+r.9<=100;omega;delta yt;rw[QR,QR];rfl
theorem iO(cs:LJ)(ns:LS):(cS cs ns).map (λp=>p.1)=ns:=by unfold cS;rw[QX];exact List.zipIdx_map_fst 0 ns
noncomputable abbrev Ps:=List (Str×Int×Int×Int)
def Hm:Str×Int×Int×Int:=("",0,0,0)
def JS(w:Ps)(i:Int):Str:=(gI w i Hm).1
noncomputable def T4(w:Ps)(x:Str):LS:=(w.filter λp=>!decide (p.1=x)).map λp=>p.1
def CY(cs:LJ)(k:Int):Int:=gI [k,2 * (k / 2),dA cs (11 * k+3) 9,100 - k] (dA cs 905 4) 0
def Rn(cs:LJ)(k:Int):Str:=wq "abcdef" (kv (dA cs (11 * k+2) 6)) kf
def Nm(cs:LJ)(k:Int)(o:LS):Str:=gI o (dA cs (11 * k+1) (o.9:Int)) ""
def Kw(cs:LJ)(k:Int)(w:Ps):LS:=(Qt (dA cs (11 * k+7) 3).toNat).map λ(j:Nat)=>JS w (dA cs (11 * k+8+(j:Int)) (w.9:Int))
def uY(cs:LJ)(k:Int)(w:Ps)(o:LS):Evt:=.see (CY cs k) (JS w (dA cs (11 * k) (w.9:Int))) (Nm cs k o) (Rn cs k)
def bG(cs:LJ)(k:Int)(w:Ps)(a m:Str):Evt:=.tell (CY cs k) a (gI (T4 w a) (dA cs (11 * k+6) ((T4 w a).9:Int)) "") m (Rn cs k) (Kw cs k w)
def Xf(cs:LJ)(k:Int)(w:Ps)(o:LS):Option (Str×Str)->Evt
 |none=>uY cs k w o|some (a,b)=>if dA cs (11 * k+4) 4=0 then uY cs k w o else if 0<dA cs (11 * k+5) 3 then bG cs k w a b else bG cs k w (JS w (dA cs (11 * k) (w.9:Int))) (Nm cs k o)
def yc:Option (Str×Str)->D
 |none=>.none|some p=>pr p
def Ym(w:Ps)(o:LS):Option (Str×Str)->Prop
 |none=>True|some (a,b)=>(∃p∈w,p.1=a)/\b∈o
structure BdOk(w:Ps)(o:LS):Prop where
 p2:2<=w.9
 pl:w.9<=11
 nd:(w.map λp=>p.1).Nodup
 m1:1<=o.9
 ml:o.9<=10
theorem R4(h:BdOk w o)(x:Str):0<(T4 w x).length:=by
 have y:=h.p2;have nd:=h.nd;cases w with
 |nil=>simp at y|cons p r=>cases r with|nil=>simp at y|cons q r=>have z:p.1≠q.1:=λe=>(Qe.mp nd).1 (show p.1∈_ from e.symm▸QF);refine Wh (a:=if p.1=x then q.1 else p.1) ?_;unfold T4;split;rename_i c;exact QY.mpr #[q,QZ.mpr #[QD _ QF,by rw[dF λe=>z (c.trans e.symm)];rfl],rfl];rename_i c;exact QY.mpr #[p,QZ.mpr #[QF,by rw[dF c];rfl],rfl]
def GL:PSp where
 run:=λh Q _=>∃(cs:LJ) (k:Int) (w:Ps) (o:LS) (X:Option (Str×Str)),h=[.d (.list (cs.map j5)),.d (.int k),.d (.list (w.map VJ)),.d (.list (o.map j3)),.d (yc X)]/\(0<=k/\k<=100)/\BdOk w o/\Q (.d (rD (Xf cs k w o X))) []
theorem dq{a:D}:UE [.d a,.d b,.d c,.d d,.d e]=.d (.tuple [a,b,c,d,e]):=rfl
theorem Jv{a f g:D}:UE [.d a,.d b,.d c,.d d,.d e,.d f,.d g]=.d (.tuple [a,b,c,d,e,f,g]):=rfl
theorem Rp{ds:List D}:LH .tuple [(.lst (ds.map T.d),n)] Q=Q (.d (.tuple ds)) false:=by unfold LH CB;rw[BD];show GW .tuple [.ls (ds.map T.d)] Q=_;rw[zg];exact Az #[λ#[_,e,q]=>by rw[YA]at e;cases e;exact q,λq=>#[_,YA _,q]]
theorem Dh:(QS "abcdef").9=6:=rfl
def yn(cs:LJ)(k:Int)(w:Ps)(o:LS)(X:Option (Str×Str))(mt:Str)(o8:Option Sl)(o10 z y x h:Option Sl):kA:=[bD (.list (cs.map j5)),bD (.int k),bD (.list (w.map VJ)),bD (.list (o.map j3)),bD (yc X),bD (.int (dA cs (11 * k) (w.9:Int))),bD (.str mt),bD (.str (Rn cs k)),o8,bD (.int (CY cs k)),o10,z,y,x,h]
theorem m11:Dz 11 k:=iN.ok (.inl #[by decide,by decide])
theorem Vf(f:Ψ.sp "_law_draw"=mC){Q:T->LT->Prop}{a mt:Str}{o8 z y x h:Option Sl}(hk:0<=k/\k<=100)(hb:BdOk w o)(q:Q (.d (rD (bG cs k w a mt))) []):pF Ψ rF (eZ Q) (yn cs k w o X mt o8 (bD (.str a)) z y x h):=by
 have E:=R4 hb a;have B:=hb.pl;have C:=hb.p2;delta yn;delta rF;simp![↓vA];rw[<- JA VJ];refine rA (λp=>T.d (VJ p)) (λ(p:Str×Int×Int×Int)=>T.d (.str p.1)) (λp=>!decide (p.1=a)) w [] _ (λp v R u=>?_) (by show 0+w.9<=_;omega) ?_;simp![↓ZN];split at u;rename_i c;rw[t6 c];exact u;rename_i c;rw[t3 c];exact u;rw[Qh,JA λp:Str×Int×Int×Int=>j3 p.1];have e:((w.filter λp=>!decide (p.1=a)).map λp=>j3 p.1)=(T4 w a).map j3:=by unfold T4;rw[QX];rfl
 rw[e];simp![↓xA (md:=[.shal]) f rfl rfl,↓gN,↓GB,QE];have W:=KA (cs:=cs) (k:=11 * k+6) (m:=((T4 w a).9:Int)) ();have G:=KA (cs:=cs) (k:=11 * k+7) (m:=3) (by decide);have s:=dk hk 7 rfl;refine#[m11,(dk hk 6 rfl).1,(dk hk 6 rfl).2,(),jD (α:=Str) "" W.1 W.2 ?_];refine#[(),m11,s.1,s.2,(),(),?_];refine rB (λ(i:Nat)=>T.d (.int (i:Int))) (λr ρ=>∃bs h,bs++r.map (λ(j:Nat)=>JS w (dA cs (11 * k+8+(j:Int)) (w.9:Int)))=Kw cs k w/\(bs.9+r.9<=3/\∀j∈r,j<3)/\ρ=yn cs k w o X mt o8 (bD (.str a)) (bD (.list ((T4 w a).map j3))) (bD (.str (gI (T4 w a) (dA cs (11 * k+6) ((T4 w a).9:Int)) ""))) (oW (.lst ((bs.map j3).map T.d))) h) ?_ ?_ _ _ #[[],h,rfl,#[by rw[qL];show 0+_<=3;omega,λj K=>by have:=qA.mp K;omega],rfl];rintro ρ ⟨bs,h,e,_,rfl⟩;have e:bs=Kw cs k w:=by rw[<- e];exact(qE _).symm
 subst e;delta yn;simp![↓Rp,↓Jv];exact#[(),q];rintro j r ρ N A ⟨bs,h,e,⟨l,g⟩,rfl⟩;have l:bs.9+(r.9+1)<=3:=l;have F:j<3:=g j QF;have Y:=KA (cs:=cs) (k:=11 * k+8+(j:Int)) (m:=(w.9:Int)) ();delta yn;delta CK;simp_arith![↓xA (md:=[.shal]) f rfl rfl,↓gN,↓GB,QE];refine#[m11,(),(),(),jD Hm Y.1 Y.2 ?_];simp![↓ZN,QE];refine#[(),A _ #[bs++[JS w (dA cs (11 * k+8+(j:Int)) (w.9:Int))],bD (.int (j:Int)),?_,#[?_,λp v=>g p (QD _ v)],?_]];rw[Q2];exact e;rw[QJ];show bs.9+1+r.9<=3;omega;delta yn;rw[QR,QR];rfl
theorem Of{L:Bool->Prop}:JB .Is (.d (yc X)) (.d .none) L=L X.isNone:=by cases X<;>rfl
theorem Hn:BA (.d (yc (kv p))) n (.d (.int 0)) m R=R (.d (.str p.1)):=FA (i:=0) rfl
theorem Gn:BA (.d (yc (kv p))) n (.d (.int 1)) m R=R (.d (.str p.2)):=FA (i:=1) rfl
theorem bx{E:XE}{r:PT}{a:D}:FK Ψ E r Z i (.lst [.d a,.d b,.d c,.d d]) kd ρ=xB Ψ E r Z (ρ.set i (bD (.list [a,b,c,d]))):=Zt (ds:=[a,b,c,d])
theorem Kj(x:Ψ.sp "_law_draw"=mC):EH Ψ TJ GL gP vM:=by
 rintro _ Q _ ⟨cs,k,w,o,X,rfl,hk,hb,q⟩;have K:=hb.pl;have A:=hb.p2;have B:=hb.m1;have h:=KA (cs:=cs) (k:=11 * k) (m:=(w.9:Int)) ();have W:=KA (cs:=cs) (k:=11 * k+1) (m:=(o.9:Int)) ();have C:=KA (cs:=cs) (k:=11 * k+2) (m:=6) (by decide);have Y:=KA (cs:=cs) (k:=905) (m:=4) (by decide);refine nA [bD (.list (cs.map j5)),bD (.int k),bD (.list (w.map VJ)),bD (.list (o.map j3)),bD (yc X),kf,kf,kf,kf,kf,kf,kf,kf,kf,kf] ?_;delta TJ;simp_arith![↓mR,↓cw,↓u4,↓xA (md:=[.shal]) x rfl rfl,↓gN,↓GB,QE,↓fU,↓Of];have s:=dk hk 1 rfl;have r:=dk hk 2 rfl;have j:=dk hk 3 rfl;refine#[m11,(),(),(),m11,s.1,s.2,(),jD (α:=Str) "" W.1 W.2 ?_];rw[Dh];refine#[m11,r.1,r.2,(),iN.ok (.inl #[by decide,by decide]),m11,j.1,j.2,(),?_];simp![↓bx,↓xA (md:=[.shal]) x rfl rfl,↓gN,↓GB,↓fU,↓Of];refine jD (f:=j5) (l:=[k,2 * (k / 2),dA cs (11 * k+3) 9,100 - k]) 0 Y.1 Y.2 ?_;cases X with|none=>simp![Option.isNone_none];refine jD Hm h.1 h.2 ?_;simp![↓ZN,↓dq];exact#[(),q]|some p=>simp![Option.isNone_some];have g:=dk hk 4 rfl;refine#[m11,g.1,g.2,?_];have q:Q (.d (rD (if dA cs (11 * k+4) 4=0 then uY cs k w o else if 0<dA cs (11 * k+5) 3 then bG cs k w p.1 p.2 else bG cs k w (JS w (dA cs (11 * k) (w.9:Int))) (Nm cs k o)))) []:=q;by_cases u:dA cs (11 * k+4) 4=0;rw[t6 u]at q;rw[t6 (dT u)];refine jD Hm h.1 h.2 ?_;simp![↓ZN,↓dq];exact#[(),q];rw[t3 u]at q;rw[t3 (λz=>u (aj z))];refine jD Hm h.1 h.2 ?_;simp![↓ZN,↓xA (md:=[.shal]) x rfl rfl,↓gN,↓GB,↓Hn,↓Gn];have v:=dk hk 5 rfl;refine#[m11,v.1,v.2,?_];by_cases y:0<dA cs (11 * k+5) 3;rw[t6 y]at q;rw[t6 (dT y)];exact Vf (mt:=p.2) x hk hb q;rw[t3 y]at q;rw[t3 (λz=>y (aj z))];exact Vf (mt:=Nm cs k o) x hk hb q
theorem Me{i:Int}(x:0<=i)(h:i<(w.9:Int)):∃p∈w,p.1=JS w i:=#[_,(GC (d:=Hm) x h).2,rfl]
def dn(w:Ps)(o:LS):Evt->Prop
 | .see _ p m h=>(∃x∈w,x.1=p)/\m∈o/\OkS h|.tell _ a b m h q=>(∃x∈w,x.1=a)/\(∃x∈w,x.1=b)/\m∈o/\a≠b/\OkS h/\∀y∈q,∃x∈w,x.1=y
theorem Fh:((Qt 6).all λ(a:Nat)=>qW (wq "abcdef" (kv (a:Int)) kf))=true:=by decide +kernel
theorem N1(cs:LJ)(k:Int):OkS (Rn cs k):=by have h:=KA (cs:=cs) (k:=11 * k+2) (m:=6) (by decide);unfold Rn;let#[a,e]:=qd h.1;rw[e]at h ⊢;exact Ql.mp Fh a (qA.mpr ())
noncomputable def V6:Evt->Str×Str
 | .see _ p m _=>(p,m)|.tell _ _ b m _ _=>(b,m)
theorem Pq(hb:BdOk w o)(hl:Ym w o X):dn w o (Xf cs k w o X):=by
 have B:=hb.p2;have E:=hb.m1;have r:=KA (cs:=cs) (k:=11 * k) (m:=(w.9:Int)) ();have q:=KA (cs:=cs) (k:=11 * k+1) (m:=(o.9:Int)) ();have u:=Me r.1 r.2;have h:Nm cs k o∈o:=(GC q.1 q.2).2;have v:∀a m,(∃x∈w,x.1=a)->m∈o->dn w o (bG cs k w a m):=λa m K W=>by have C:=R4 hb a;have l:=KA (cs:=cs) (k:=11 * k+6) (m:=((T4 w a).9:Int)) ();let#[x,Y,e]:=QY.mp (GC (d:=("":Str)) l.1 l.2).2;let#[A,f]:=QZ.mp Y;refine#[K,#[x,A,e],W,λz=>?_,N1 cs k,λy s=>?_];rw[dT (e.trans z.symm)]at f;cases f;let#[j,_,rfl]:=QY.mp s;have g:=KA (cs:=cs) (k:=11 * k+8+(j:Int)) (m:=(w.9:Int)) ();exact Me g.1 g.2
 cases X with
 |none=>exact#[u,h,N1 cs k]|some p =>
  let#[a,b]:=p;show dn w o (if dA cs (11 * k+4) 4=0 then uY cs k w o else if 0<dA cs (11 * k+5) 3 then bG cs k w a b else bG cs k w (JS w (dA cs (11 * k) (w.9:Int))) (Nm cs k o));split;exact#[u,h,N1 cs k];split
  ·exact v a b hl.1 hl.2
  exact v _ _ u h
theorem xc{e:Evt}(h:dn w o e):Ym w o (kv (V6 e)):=by
 cases e with|see t p m x=>exact#[h.1,h.2.1]|tell t a b m x q=>exact#[h.2.1,h.2.2.1]
theorem RI{α:Type}(xs:List α)(a b:Option Int):(mD xs a b).Sublist xs:=(QBz _ _).trans (List.drop_sublist _ _)
theorem Rc{α:Type}{xs:List α}{b:Int}(y:0<=a)(x:a<=b)(h:b<=xs.9):(mD xs (kv a) (kv b)).9=(b - a).toNat:=by let#[a,rfl]:=qd y;let#[b,rfl]:=qd (QAT y x);have x:a<=b:=QBD.mp x;have h:b<=xs.length:=QBD.mp h;unfold mD;rw[HT.sIx_nat,HT.sIx_nat,wn,Wt,We h,We (QW x h),We (Nat.sub_le_sub_right h a),<- Int.ofNat_sub x];rfl
theorem VT{α:Type}{xs:List α}{b:Int}(x:0<=b)(h:b<=xs.9):(mD xs kf (kv b)).9=b.toNat:=by let#[b,rfl]:=qd x;have h:b<=xs.length:=QBD.mp h;unfold mD;rw[HT.sIx_nat,HT.sIx_none,wn,Wt,We h,Nat.sub_zero,Nat.sub_zero,We h];rfl
theorem gW{α z:Type}{f:α->List z}{c:Nat}:∀(l:List α),(∀x∈l,(f x).9<=c)->(l.flatMap f).9<=c * l.9
 |[],_=>Qs _|x::l,h=>by have a:=h x QF;have b:=gW l λy u=>h y (QD _ u);rw[WF,QJ,QL,Nat.mul_add];omega
def Ud(cs:LJ)(o:LS)(k j:Nat):rC:=if 0<dA cs (950+3 * (k:Int)+(j:Int)) 3 then[gI [(gI o (k:Int) "",gI o (j:Int) ""),(gI o (j:Int) "",gI o (k:Int) "")] (dA cs (960+3 * (k:Int)+(j:Int)) 2) ("","")] else[]
def um(cs:LJ)(o:LS)(k:Nat):rC:=(Qt k).flatMap (Ud cs o k)
def zn(cs:LJ)(o:LS):rC:=(Qt o.9).flatMap (um cs o)
theorem rY(cs:LJ)(o:LS)(k j:Nat):(Ud cs o k j).9<=1:=by unfold Ud;split;exact QT _;exact Qs _
theorem sY(cs:LJ)(o:LS)(k:Nat):(um cs o k).9<=k:=by have:=gW (Qt k) λj _=>rY cs o k j;rw[qL]at this;show(List.flatMap _ _).9<=k;omega
theorem Cd(h:o.9<=10):(zn cs o).9<=100:=by have:=gW (c:=10) (Qt o.9) λk hk=>QW (sY cs o k) (by have:=qA.mp hk;omega);rw[qL]at this;show(List.flatMap _ _).9<=100;omega
theorem MQ{α:Type}{l:List α}{k:Nat}{d:α}(h:k<l.9):fE l (k:Int)=kv (gI l (k:Int) d)/\gI l (k:Int) d∈l:=GC (QBv k) ()
theorem cm(h:p∈zn cs o):p.1∈o/\p.2∈o:=by let#[k,hk,h]:=wu.mp h;let#[j,x,h]:=wu.mp h;have hk:=qA.mp hk;have x:=qA.mp x;have a:=(MQ (d:=("":Str)) hk).2;have b:=(MQ (d:=("":Str)) (show j<o.9 by omega)).2;unfold Ud at h;split at h;have d:=KA (cs:=cs) (k:=960+3 * (k:Int)+(j:Int)) (m:=2) (by decide);have g:=(GC (l:=[(gI o (k:Int) ("":Str),gI o (j:Int) ""),(gI o (j:Int) "",gI o (k:Int) "")]) (d:=("","")) d.1 d.2).2;rw[<- QI.mp h]at g;rcases QM.mp g with g|g;rw[g];exact#[a,b];rw[QI.mp g];exact#[b,a];cases h
def CH(cs:LJ)(w:Ps)(o:LS)(s:List Evt×Option (Str×Str))(k:Nat):List Evt×Option (Str×Str):=(s.1++[Xf cs (k:Int) w o s.2],kv (V6 (Xf cs (k:Int) w o s.2)))
def tw(cs:LJ)(w:Ps)(o:LS):List Evt:=((Qt cs.9).foldl (CH cs w o) ([],kf)).1
theorem Uf{cs:LJ}{w:Ps}{o:LS}(hb:BdOk w o):∀(l:LN) (s:List Evt×Option (Str×Str)),(∀e∈s.1,dn w o e)->Ym w o s.2->(∀e∈(l.foldl (CH cs w o) s).1,dn w o e)/\(l.foldl (CH cs w o) s).1.length=s.1.9+l.9
 |[],s,h,_=>#[h,rfl]|k::l,s,h,h2=>by have e:=Pq (cs:=cs) (k:=(k:Int)) hb h2;let#[a,b]:=Uf hb l (CH cs w o s k) (λx y=>by rcases Qg.mp y with y|y;exact h x y;rw[QI.mp y];exact e) (xc e);refine#[a,b.trans ?_];show(s.1++[_]).9+l.9=s.1.9+(l.9+1);rw[QJ];show s.1.9+1+l.9=_;omega
def Dj(cs:LJ)(most:Int):LS:=mD (yD cs) kf (kv (2+dA cs 906 (most - 1)))
def HV(cs:LJ):LS:=mD (yD cs) (kv 6) (kv (7+dA cs 907 3))
def j9(cs:LJ):LS:=if dA cs 908 3=0 then mD (yD cs) kf (kv ((HV cs).9:Int)) else HV cs
def lu(cs:LJ)(w:Ps)(o:LS):Wd:=#[w,o,zn cs o,tw cs w o]
def aL(ns:LJ)(most:Int):Wd:=lu (MB 24 ns) (cS (MB 24 ns) (Dj (MB 24 ns) most)) (j9 (MB 24 ns))
theorem GX(cs:LJ):1<=(HV cs).9/\(HV cs).9<=6:=by have m:=KA (cs:=cs) (k:=907) (m:=3) (by decide);have n:=(EF cs).2.2;unfold HV;rw[Rc (by decide) () (by rw[n];omega)];omega
theorem yf(cs:LJ):(1<=(j9 cs).9/\(j9 cs).9<=6)/\(j9 cs).Sublist (yD cs):=by have n:=(EF cs).2.2;have m:=GX cs;unfold j9;split;rw[VT () (by rw[n];omega)];exact#[(),RI _ _ _];exact#[m,RI _ _ _]
theorem xg(cs:LJ)(h:2<=most/\most<=10):BdOk (cS cs (Dj cs most)) (j9 cs):=by have n:=EF cs;have d:=KA (cs:=cs) (k:=906) (m:=most - 1) ();have e:=iO cs (Dj cs most);have l:=ak wI e;have c:(Dj cs most).9=(2+dA cs 906 (most - 1)).toNat:=VT () (by rw[n.2.2];omega);rw[QE,c]at l;have m:=(yf cs).1;exact#[(),(),by rw[e];exact(RI _ _ _).nodup n.1,m.1,()]
theorem dW(ns:LJ):(MB 24 ns).9<=24:=FM (by decide) ns 0 [] (by decide) (QT _) (λ_=>rfl)
theorem L1(ns:LJ)(h:2<=most/\most<=10):WOk (aL ns most):=by
 have n:=EF (MB 24 ns);have hb:=xg (MB 24 ns) h;have m:=yf (MB 24 ns);have f:=dW ns;have y:∀x∈j9 (MB 24 ns),OkS x:=λx j=>n.2.1 x (m.2.mem j);let#[r,v]:=Uf (cs:=MB 24 ns) hb (Qt (MB 24 ns).9) ([],kf) (λ_ z=>by cases z) trivial;rw[qL]at v;refine#[λp u=>?_,Cd hb.ml,hb.pl,hb.nd,λp u=>?_,hb.ml,y,m.2.nodup n.1,?_,λe l=>?_];let#[a,b]:=cm u;exact#[y _ a,y _ b];have:p.1∈Dj (MB 24 ns) most:=(iO (MB 24 ns) (Dj (MB 24 ns) most))▸QY.mpr #[p,u,rfl];exact n.2.1 _ ((RI _ _ _).mem this);exact QW (w4 v) (by show 0+_<=60;omega);have:=r e l;cases e with|see t p m g=>exact this|tell t a b m g q=>exact this
def ZR(cs:LJ)(most:Int)(nm:LS)(w:Ps)(o:LS)(y o7 o8 o9 o10 x h:Option Sl):kA:=[bD (.list (cs.map j5)),bD (.int most),bD (.list (nm.map j3)),bD (.list (w.map VJ)),bD (.list (o.map j3)),y,o7,o8,o9,o10,x,h]
noncomputable def K8(h:rC):Option Sl:=kv (.own (.lst ((h.map pr).map T.d)))
def jn(es:List Evt):Option Sl:=kv (.own (.lst ((es.map rD).map T.d)))
theorem Cf(ds:List D):(T.lst (ds.map T.d)).er=.list ds:=by show PyData.list (ersT (ds.map T.d))=_;rw[DA]
theorem cx{E:XE}{r:PT}{a:D}:FK Ψ E r Z i (.lst [.d a,.d b]) kd ρ=xB Ψ E r Z (ρ.set i (bD (.list [a,b]))):=Zt (ds:=[a,b])
end
section
variable{Ψ:PEv}{Z:PEnds}{cs:LJ}{most:Int}{w:LS}{u:Ps}{h:LS}{o7 o8 o9 o10 v y:Option Sl}
theorem du(e:Ψ.sp "_law_draw"=mC){x:rC}{k j:Nat}(hk:k<h.9)(b:j<h.9)(n:h.9<=10)(o:x.9<=200)(q:∀o9,Z.nx (ZR cs most w u h (K8 (x++Ud cs h k j)) (bD (.int (k:Int))) (bD (.int (j:Int))) o9 o10 v y)):pF Ψ oG Z (ZR cs most w u h (K8 x) (bD (.int (k:Int))) (bD (.int (j:Int))) o9 o10 v y):=by
 have g:fE (h.map j3) (k:Int)=kv (.str (gI h (k:Int) "")):=by rw[OG,(MQ (d:=("":Str)) hk).1];rfl
 have i:fE (h.map j3) (j:Int)=kv (.str (gI h (j:Int) "")):=by rw[OG,(MQ (d:=("":Str)) b).1];rfl
 have d:=KA (cs:=cs) (k:=960+3 * (k:Int)+(j:Int)) (m:=2) (by decide);have a:Dz 3 (k:Int):=iN.ok (.inl #[by decide,by decide]);delta ZR K8;delta oG;simp![g,i,↓cx,↓xA (md:=[.shal]) e rfl rfl,↓gN,↓GB,QE];refine#[(),(),(),a,(),(),?_];by_cases c:0<dA cs (950+3 * (k:Int)+(j:Int)) 3;rw[show Ud cs h k j=_ from t6 c]at q;rw[t6 (dT c)];refine#[a,(),(),jD (f:=pr) (l:=[(gI h (k:Int) ("":Str),gI h (j:Int) ""),(gI h (j:Int) "",gI h (k:Int) "")]) ("","") d.1 d.2 #[(),?_]];have q:=q (bD (.list [pr (gI h (k:Int) ("":Str),gI h (j:Int) ""),pr (gI h (j:Int) ("":Str),gI h (k:Int) "")]));unfold K8 at q;rw[QR,QR]at q;exact q;rw[show Ud cs h k j=_ from t3 c,qE]at q;rw[t3 (λz=>c (aj z))];exact q _
theorem bu(p:Ψ.sp "_law_draw"=mC){z:rC}{k:Nat}(hk:k<h.9)(l:h.9<=10)(X:z.9<=100)(q:∀o8 o9,Z.nx (ZR cs most w u h (K8 (z++um cs h k)) (bD (.int (k:Int))) o8 o9 o10 v y)):pF Ψ nG Z (ZR cs most w u h (K8 z) (bD (.int (k:Int))) o8 o9 o10 v y):=by
 delta ZR K8;delta nG;simp![qN];refine#[(),(),?_];refine rB (λ(i:Nat)=>T.d (.int (i:Int))) (λr b=>∃a o8 o9,a++r.flatMap (Ud cs h k)=z++um cs h k/\(a.9+r.9<=200/\∀j∈r,j<h.9)/\b=ZR cs most w u h (K8 a) (bD (.int (k:Int))) o8 o9 o10 v y) ?_ ?_ _ _ #[z,o8,o9,rfl,#[by rw[qL];omega,λj n=>by have:=qA.mp n;omega],rfl];rintro b ⟨a,o8,o9,e,_,rfl⟩;have e:a=z++um cs h k:=by rw[<- e];exact(qE _).symm
 subst e;delta ZR;simp![↓vA];exact q _ _;rintro j r b N o ⟨a,o8,o9,e,⟨g,f⟩,rfl⟩;have g:a.9+(r.9+1)<=200:=g;have s:=rY cs h k j;refine du p hk (f j QF) l () λo9=>o _ #[a++Ud cs h k j,_,o9,?_,#[by rw[QJ];omega,λx m=>f x (QD _ m)],rfl];rw[Q2];exact e
theorem xu(g:Ψ.sp "_law_event"=GL){z:Option Sl}{k:Nat}{es:List Evt}{x:Option (Str×Str)}(hk:k<=100)(hb:BdOk u h)(j:es.9<=100)(q:∀y,Z.nx (ZR cs most w u h z (bD (.int (k:Int))) o8 o9 (jn (es++[Xf cs (k:Int) u h x])) (bD (yc (kv (V6 (Xf cs (k:Int) u h x))))) y)):pF Ψ mG Z (ZR cs most w u h z (bD (.int (k:Int))) o8 o9 (jn es) (bD (yc x)) y):=by
 delta ZR jn;delta mG;simp_arith![↓xA (md:=[]) g rfl rfl];refine#[_,_,_,_,_,rfl,#[(),()],hb,?_];generalize Xf cs (k:Int) u h x=e at *;simp![↓JR,QE];refine#[(),?_];have q:=λo=>q o;unfold jn at q;rw[QR,QR]at q;cases e with|see t p m f=>simp![↓JR,y9,↓Td,↓C1];refine#[(),kG (show decide ((QS "see")=(QS "tell"))≠kd by decide) ?_];exact q _|tell t a b m f i=>simp![↓JR,y9,↓V1,↓K1,↓Y1];exact#[(),(),q _]
theorem Ad(Y:Ψ.sp "_law_draw"=mC)(X:Ψ.sp "_law_event"=GL){Q:T->LT->Prop}(W:cs.9<=100)(hb:BdOk u h)(q:Q (.d (wD (lu cs u h))) []):pF Ψ oF (eZ Q) (ZR cs most w u h kf kf kf kf kf kf kf):=by
 have p:=hb.ml;delta ZR;delta oF;simp![QE,qN];refine#[(),(),(),?_];refine rB (λ(i:Nat)=>T.d (.int (i:Int))) (λr b=>∃a o7 o8 o9,a++r.flatMap (um cs h)=zn cs h/\(a.9+10 * r.9<=100/\∀j∈r,j<h.9)/\b=ZR cs most w u h (K8 a) o7 o8 o9 kf kf kf) ?_ ?_ _ _ #[[],kf,kf,kf,rfl,#[by rw[qL];show 0+_<=100;omega,λj n=>qA.mp n],rfl];rintro b ⟨a,o7,o8,o9,e,_,rfl⟩;have e:a=zn cs h:=by rw[<- e];exact(qE _).symm
 subst e;delta ZR;simp![QE,qN];refine#[(),(),(),?_];refine rB (λ(i:Nat)=>T.d (.int (i:Int))) (λr b=>∃z l o7 y,(r.foldl (CH cs u h) (z,l)).1=tw cs u h/\(z.9+r.9<=100/\∀j∈r,j<=100)/\b=ZR cs most w u h (K8 (zn cs h)) o7 o8 o9 (jn z) (bD (yc l)) y) ?_ ?_ _ _ #[[],kf,_,_,rfl,#[by rw[qL];show 0+_<=100;omega,λj n=>by have:=qA.mp n;omega],rfl];rintro b ⟨z,l,o7,y,e,_,rfl⟩;have e:z=tw cs u h:=e;subst e;delta ZR K8 jn;simp![↓vA];rw[Cf,Cf];exact#[(),q];rintro j r b N o ⟨z,l,o7,y,e,⟨g,f⟩,rfl⟩;have g:z.9+(r.9+1)<=100:=g;refine xu X (f j QF) hb () λy=>o _ #[_,_,_,y,e,#[?_,λx m=>f x (QD _ m)],rfl];rw[QJ];show z.9+1+r.9<=100;omega;rintro k r b N o ⟨a,o7,o8,o9,e,⟨g,f⟩,rfl⟩;have g:a.9+10 * (r.9+1)<=100:=g;have s:=f k QF;have K:=sY cs h k;refine bu Y s p () λo8 o9=>o _ #[a++um cs h k,_,o8,o9,?_,#[by rw[QJ];omega,λx m=>f x (QD _ m)],rfl];rw[Q2];exact e
end
def NC:PSp where
 md:=[.shal]
 run:=λy Q _=>∃(x:LJ) (h:Int),y=[.lst ((x.map j5).map T.d),.d (.int h)]/\(2<=h/\h<=10)/\Q (.d (wD (aL x h))) []
theorem Z5{Ψ:PEv}(y:Ψ.sp "_law_draw"=mC)(u:Ψ.sp "_law_event"=GL)(a:Ψ.sp "_law_folded"=tJ)(k:Ψ.sp "_law_names"=DL)(w:Ψ.sp "_law_people"=OU):EH Ψ PJ NC cP yM:=by rintro _ Q _ ⟨x,h,rfl,v,q⟩;have fl:=dW x;refine nA [kv (.bor (.lst ((x.map j5).map T.d))),bD (.int h),kf,kf,kf,kf,kf,kf,kf,kf,kf,kf] ?_;delta PJ;simp![↓xA (md:=[.shal]) a rfl rfl];refine#[_,_,rfl,by decide,?_];have q:Q (.d (wD (lu (MB 24 x) (cS (MB 24 x) (Dj (MB 24 x) h)) (j9 (MB 24 x))))) []:=q;generalize MB 24 x=cs at *;have b:=(EF cs).2.2;have hb:=xg cs v;have f:=GX cs;simp![↓xA (md:=[]) k rfl rfl];refine#[_,rfl,?_];simp_arith![↓xA (md:=[]) w rfl rfl,↓mR,↓uw,↓u4,↓xA (md:=[.shal]) y rfl rfl,↓gN,↓GB,AQ];refine#[(),#[_,_,rfl,(QW ((RI _ _ _).length_le) ()),?_]];simp![↓mR,↓bw,↓kw,↓u4,↓jf,↓xA (md:=[.shal]) y rfl rfl,↓gN,↓GB,AQ,QE];by_cases c:dA cs 908 3=0;rw[t6 (dT c)];have e:j9 cs=mD (yD cs) kf (kv ((HV cs).9:Int)):=t6 c;rw[e]at q hb;exact Ad y u () hb q;rw[t3 (λz=>c (aj z))];have e:j9 cs=HV cs:=t3 c;rw[e]at q hb;exact Ad y u () hb q
def Co(w:Wd):Gs->LN->List Stp
 |_,[]=>[]|g,n::r=>(n,T8 w g n,Oj w g n,Em w g n)::Co w (bC w g n) r
theorem LR(w:Wd):∀(ns:LN) (g:Gs),(ns.foldl (bC w) g).steps=g.steps++Co w g ns
 |[],g=>(qE _).symm|n::r,g=>by show(r.foldl (bC w) (bC w g n)).steps=_;rw[LR w r];show(g.steps++[_])++_=g.steps++(_::_);rw[Q2];rfl
def g0:Gs:=#[[],[],[],[]]
theorem HQ(w:Wd)(ns:LN):(CM w ns).steps=Co w g0 ns:=LR w ns g0
theorem nz(w:Wd):GsOk w g0:=#[λ_ z=>(by cases z),QT _,λ_ z=>(by cases z),λ_ z=>(by cases z),rfl]
section
variable{w:Wd}{es:List Evt}{f:Nat->Nat}(h:∀n,HA es n=HA w.es (f n))
include h
end
section
variable{es:List Evt}{n:Nat}{w:Wd}{ns:LN}{l:List D}{x:D}
def sR:Evt->Int
 | .see t _ _ _=>t|.tell t _ _ _ _ _=>t
def Ij(es:List Evt)(a b:Nat):Prop:=sR (HA es a)<sR (HA es b)∨sR (HA es a)=sR (HA es b)/\a<=b
theorem K7(h:n<es.9):(cG (es.map rD)).getD n (0,0)=(sR (HA es n),(n:Int)):=by
 have e:HJ (rD (es[n]'h))=kv (sR (es[n]'h)):=by cases es[n]'h<;>rfl
 unfold cG HA;rw[QE,List.getD_eq_getElem?_getD,Qd,WP h];simp only[Qx,Wv];rw[Qd,Qr h];simp only[Qx,Option.bind_some,Wv,e]
theorem tV(h:kO w ns):ns.Pairwise (Ij w.es):=by refine h.2.imp_of_mem λ{a b} y hb z=>?_;have z:=of_decide_eq_false z;rw[K7 (tS h a y),K7 (tS h b hb)]at z;unfold Ij;dsimp only at z;omega
theorem zj{l z:LN}(p:l.Perm z)(h:l.Pairwise (Ij es))(h':z.Pairwise (Ij es)):l=z:=WT (λa b _ _ x y=>by unfold Ij at x y;omega) h h' p
theorem aV{y:LN}(h:kO w ns)(h':kO w y):ns=y:=zj (h.1.trans h'.1.symm) (tV h) (tV h')
def UO(n:Nat)(x:D):Prop:=x.canLay0=kd/\x.depth<=n
theorem YM{n:Nat}:∀{l:List D},(∀x∈l,UO n x)->qk l=kd/\wb l<=n
 |[],_=>#[rfl,Qs _]|x::l,h=>by let#[a,k]:=h x QF;let#[u,z]:=YM (l:=l) λy v=>h y (QD _ v);exact#[by show(x.canLay0&&qk l)=kd;rw[a,u];rfl,Nat.max_le.mpr #[k,z]]
theorem DN(h:∀x∈l,UO n x):UO (n+1) (.list l):=#[(YM h).1,Wu (YM h).2]
theorem NV(h:∀x∈l,UO n x):UO (n+1) (.tuple l):=#[(YM h).1,Wu (YM h).2]
theorem KI{s:Str}(h:OkS s):UO n (.str s):=#[h,Qs _]
theorem CS{i:Int}:UO n (.int i):=#[rfl,Qs _]
theorem BS(h:UO n x)(y:n<=64):ZD x:=#[h.1,QW h.2 y]
theorem LX{m:Nat}(h:UO n x)(y:n<=m):UO m x:=#[h.1,QW h.2 y]
theorem RC(h:UO n x)(u:∀y∈l,UO n y):∀y∈x::l,UO n y:=λy z=>by rcases QM.mp z with rfl|z;exact h;exact u y z
theorem pZ:∀y∈([]:List D),UO n y:=λy h=>by cases h
theorem JM{α:Type}{f:α->D}{l:List α}(h:∀a∈l,UO n (f a)):∀y∈l.map f,UO n y:=λy z=>by let#[a,u,rfl]:=QY.mp z;exact h a u
theorem nV(l:LN):ZD (.list (l.map nD)):=BS (DN (n:=0) (JM λa _=>CS)) (by decide)
theorem uf{p:Pt}(h:OkS p.1/\OkS p.2):UO 1 (pr p):=NV (RC (KI h.1) (RC (KI h.2) pZ))
theorem mq{p:Str×Int×Int×Int}(h:OkS p.1):UO 1 (VJ p):=NV (RC (KI h) (RC CS (RC CS (RC CS pZ))))
theorem yi:OkS "see":=(by decide +kernel:qW "see"=kd)
theorem M9:OkS "tell":=(by decide +kernel:qW "tell"=kd)
theorem bf(y:WOk w){e:Evt}(h:Od w e):UO 2 (rD e):=by
 cases e with|see t p m z=>exact NV (RC (KI yi) (RC CS (RC (KI (y.nm h.1)) (RC (KI (y.mo _ h.2.1)) (RC (KI h.2.2) pZ)))))|tell t a b m z q=>exact NV (RC (KI M9) (RC CS (RC (KI (y.nm h.1)) (RC (KI (y.nm h.2.1)) (RC (KI (y.mo _ h.2.2.1)) (RC (KI h.2.2.2.2.1) (RC (NV (JM λx u=>KI (y.nm (h.2.2.2.2.2 x u)))) pZ)))))))
theorem K5(h:WOk w):ZD (wD w):=BS (n:=4) (NV (RC (LX (DN (JM λp y=>mq (h.po p y))) (by decide)) (RC (LX (DN (n:=0) (JM λm z=>KI (h.mo m z))) (by decide)) (RC (LX (DN (JM λp y=>uf (h.ag p y))) (by decide)) (RC (DN (JM λe u=>bf h (h.eo e u))) pZ))))) (by decide)
end
section
variable{ds es:List D}{L:Bool->Prop}{x:D}{op:h7}
theorem iw:JB op (.lst (ds.map T.d)) (.lst (es.map T.d)) L=SI op (.list ds) (.list es) L:=by show SI op (.list (ersT (ds.map T.d))) (.list (ersT (es.map T.d))) L=_;rw[DA,DA]
theorem JT(h:ZD (.list ds))(q:L kd):SI .Eq (.list ds) (.list ds) L:=#[h,h,by rw[WH _ h.1];exact q]
theorem rM(h:ZD (.list ds))(q:L kb):SI .NotEq (.list ds) (.list ds) L:=#[h,h,by rw[WH _ h.1];exact q]
end
noncomputable def CL:PSp where
 run:=λh Q _=>∃i:Int,h=[.d (.int i)]/\Q (.d (.bool kd)) []
theorem nj{Ψ:PEv}:EH Ψ RJ CL dP zM:=by rintro _ Q _ ⟨i,rfl,q⟩;refine nA [bD (.int i)] ?_;delta RJ;simp![↓uP,↓lh,↓Hv,↓Lv];exact q
def tP:PSp where
 run:=λh Q _=>∃s:Stp,h=[.d (pH s)]/\(s.2.2.1.9<=1000/\s.2.2.2.9<=1000)/\Q (.d (.bool kd)) []
section
variable{s:Stp}{n m:Bool}{R:T->Prop}{L:Bool->Prop}{x:Str}{ds:List D}{ts:LT}{b:Bool}{p:Pt}
theorem Cn:BA (.d (pH s)) n (.d (.int 0)) m R=R (.d (nD s.1)):=FA (i:=0) rfl
theorem Nt:BA (.d (pH s)) n (.d (.int 1)) m R=R (.d (.bool s.2.1)):=FA (i:=1) rfl
theorem Bn:BA (.d (pH s)) n (.d (.int 2)) m R=R (.d (.list (s.2.2.1.map nD))):=FA (i:=2) rfl
theorem Xn:BA (.d (pH s)) n (.d (.int 3)) m R=R (.d (.list (s.2.2.2.map pr))):=FA (i:=3) rfl
theorem Dv:VQ (.bty x "tuple") (.d (pH s)) L=L true:=DZ rfl rfl
theorem Fv:VQ (.bty x "tuple") (.d (pr p)) L=L true:=DZ rfl rfl
theorem Gk:VQ (.bty x "list") (.d (.list ds)) L=L true:=DZ rfl rfl
theorem Gv:VQ (.bty x "list") (.lst ts) L=L true:=Az #[λ#[_,e,_,q]=>by cases e;exact q,λq=>#[_,rfl,rfl,q]]
theorem uv{Q:T->Bool->Prop}:LH .len [(.d (pH s),n)] Q=Q (.d (.int 4)) false:=by unfold LH CB;rw[aA];exact Az #[λh=>by rcases h with⟨_,e,_⟩| ⟨_,e,_⟩| ⟨_,e,q⟩<;>cases e;exact q,λq=>.inr (.inr #[_,rfl,q])]
theorem bv{Q:T->Bool->Prop}:LH .len [(.d (pr p),n)] Q=Q (.d (.int 2)) false:=by unfold LH CB;rw[aA];exact Az #[λh=>by rcases h with⟨_,e,_⟩| ⟨_,e,_⟩| ⟨_,e,q⟩<;>cases e;exact q,λq=>.inr (.inr #[_,rfl,q])]
end
section
variable{Ψ:PEv}{a b c d:Int}{L:Bool->Prop}
theorem Z8{α:Type}(l:List α){Q:T->Bool->Prop}(q:Q (.d (.bool kd)) kb):LH .all [(.lst (l.map λ_=>T.d (.bool kd)),kd)] Q:=by rw[show(l.map λ_=>T.d (.bool kd))=(l.map λ_=>PyData.bool kd).map T.d by rw[QX];rfl,z6];refine#[l.map λ_=>kd,by rw[QX];rfl,?_];rw[show(l.map λ_=>kd).all id=kd by rw[QCI,Ql];exact λ_ _=>rfl];exact q
theorem Nr{E:XE}{ρ:kA}{L:Bool->kA->Prop}{f:Bi}{a:PX}:oK Ψ (.bi f a) E ρ L=mB Ψ (.bi f a) E ρ λt _ h=>D2 t λb=>L b h:=rfl
theorem oj(x:Ψ.sp "_law_whole"=CL):EH Ψ zD tP XF JE:=by rintro _ Q _ ⟨s,rfl,⟨v,u⟩,q⟩;refine nA [bD (pH s)] ?_;delta zD;simp![↓fU,↓uP,↓Dv,↓uv,↓Cn,↓Nt,↓Bn,↓Xn,↓Mv,↓Gk,↓xA (md:=[]) x rfl rfl];delta nD;refine#[_,rfl,?_];simp![↓Nr,↓Bn];rw[<- JA nD];refine dB (λn=>T.d (nD n)) (λ_=>T.d (.bool kd)) s.2.2.1 [] _ (λn z R h=>?_) (by show 0+_<=_;omega) ?_;delta nD;simp![↓xA (md:=[]) x rfl rfl];refine#[_,rfl,?_];simp![↓vA];exact h;rw[Qh];refine Z8 _ ?_;simp![↓uP,↓Xn,↓Gk];rw[<- JA pr];refine dB (λp=>T.d (pr p)) (λ_=>T.d (.bool kd)) s.2.2.2 [] _ (λp y R h=>?_) (by show 0+_<=_;omega) ?_;simp![↓uP,↓lh,↓Fv,↓bv];exact h;rw[Qh];refine Z8 _ ?_;simp![↓vA];exact q
theorem Bt{e:Evt}{n m:Bool}{R:T->Prop}:BA (.d (rD e)) n (.d (.int 1)) m R=R (.d (.int (sR e))):=by
 cases e with|see t p h w=>exact FA (i:=1) rfl|tell t a b h w q=>exact FA (i:=1) rfl
theorem Jr:JB .GtE (.d (.tuple [.int a,.int b])) (.d (.tuple [.int c,.int d])) L=L (iC [a,b] [c,d]):=Az #[λ#[h,z,k,w,q]=>by have v:[a,b]=h:=(wP λx y e=>by injection e).mp (show[a,b].map j5=h.map j5 from k);have u:[c,d]=z:=(wP λx y e=>by injection e).mp (show[c,d].map j5=z.map j5 from w);subst v u;exact q,λq=>#[_,_,rfl,rfl,q]]
theorem Yr{n:Nat}:JB .GtE (.d (.tuple [.int a,.int b])) (.d (.tuple [.int c,nD n])) L=L (iC [a,b] [c,(n:Int)]):=Jr
theorem Ej(h:a<c∨a=c/\b<d):iC [a,b] [c,d]=false:=by
 show(if a=c then(if b=d then kd else decide (d<=b)) else decide (c<=a))=kb;rcases h with h|⟨rfl,h⟩
 rw[t3 ()];exact dF ();rw[t6 rfl,t3 ()];exact dF ()
def lB(is:LJ)(w:Wd)(ns:LN)(a b:Int)(o5:Option Sl):kA:=[kv (.bor (.lst ((is.map j5).map T.d))),bD (wD w),bD (.list (w.es.map rD)),kv (.bor (MK ns)),bD (.tuple [.int a,.int b]),o5,kf,kf,kf]
end
section
variable{Ψ:PEv}{Z:PEnds}{is:LJ}{w:Wd}{ns:LN}
theorem Vv(y:Ψ.sp "_law_whole"=CL){a b:Int}{n:Nat}(x:n<w.es.9)(h:a<sR (HA w.es n)∨a=sR (HA w.es n)/\b<(n:Int))(q:Z.nx (lB is w ns (sR (HA w.es n)) n (bD (nD n)))):pF Ψ zR Z (lB is w ns a b (bD (nD n))):=by delta lB at q ⊢;delta zR;simp![↓fU,↓xA (md:=[]) y rfl rfl];refine#[(n:Int),rfl,?_];simp![↓YR x,↓Bt,↓Yr,Ej h];exact#[(),(),q]
end
section
variable{Ψ:PEv}{Z:PEnds}{ρ:kA}
theorem oV{w:Wd}(h:WOk w):ZD (.list (w.es.map rD)):=BS (n:=3) (DN (JM λe x=>bf h (h.eo e x))) (by decide)
theorem Mg{E:XE}{c:PX}{a r:PT}(i:Nat){t:T}(h:ρ[i]?=kv (oW t))(q:oK Ψ c (λ_=>False) (lockA (ρ.set i (bD t.er))) λb _=>b=kb/\xB Ψ E r Z ρ):xB Ψ E (.seq (.hs (.ife c a .nil)) r) Z ρ:=.inl #[i,t,c,a,rfl,h,q]
theorem Pr{E:XE}{r:PT}{ts:LT}(v:ρ[6]?=kv (kv (.own (.lst ts))))(u:8<ρ.9)(z:ts.9<=1000)(q:(ts=[]/\xB Ψ E r Z (ρ.set 8 kf))∨∃(x y:D) (l m:List D) (h:LT),ts=.tup [.d x,.d y,.lst (l.map T.d),.lst (m.map T.d)]::h/\l.9<=1000/\m.9<=1000/\∀d,xB Ψ E r Z ((ρ.set 6 (kv (.own (.lst ((d::ersT h).map T.d))))).set 8 kf)):xB Ψ E (.seq (.hs Hk) r) Z ρ:=.inr #[ts,rfl,v,u,z,q]
theorem Iq(l:LN):(MK l).er=.list (l.map nD):=by show PyData.list (ersT _)=_;rw[DA]
theorem Aq(s:Stp):(stT s).er=pH s:=by show PyData.tuple [_,_,(MK _).er,(E8 _).er]=_;rw[Iq,Bf];rfl
theorem OQ:∀l:List Stp,ersT (l.map stT)=l.map pH
 |[]=>rfl|s::l=>by show(stT s).er::ersT (l.map stT)=_;rw[Aq,OQ l];rfl
theorem RQ(l:List Stp):(T.lst (l.map stT)).er=.list (l.map pH):=by show PyData.list (ersT _)=_;rw[OQ]
end
section
variable{s:Stp}{m:Bool}{R:T->Prop}{Ψ:PEv}{E:XE}{ρ:kA}{K:TK}
theorem Aw{i:Int}:x3 (stT s) kb Ψ (.int i) E ρ K=K (.d (.int i)) kb ρ:=rfl
theorem g9{i:Nat}{t:T}(h:[T.d (nD s.1),.d (.bool s.2.1),.lst ((s.2.2.1.map nD).map T.d),.lst ((s.2.2.2.map pr).map T.d)][i]?=kv t):BA (stT s) kb (.d (.int (i:Int))) m R=R t:=by
 have e:∀k,(lA (.d (.int (i:Int))) k).vw=.sc (.int (i:Int)):=λk=>by rw[aA];rfl
 refine Az #[λz=>?_,λq=>.inl ?_];rcases z with z|⟨_,_,_,_,_,z,_⟩
 ·rw[e]at z
  have z:=(zW _ _).mp z;let#[u,y,x]:=z;have:=MC h;rw[show fE [T.d (nD s.1),.d (.bool s.2.1),.lst ((s.2.2.1.map nD).map T.d),.lst ((s.2.2.2.map pr).map T.d)] (i:Int)=kv u from y]at this;cases this;exact x
 cases z;rw[e];exact(zW _ _).mpr #[t,MC h,q]
theorem Ht:BA (stT s) kb (.d (.int 0)) m R=R (.d (nD s.1)):=g9 (i:=0) rfl
theorem Dt:BA (stT s) kb (.d (.int 1)) m R=R (.d (.bool s.2.1)):=g9 (i:=1) rfl
theorem Vn:BA (stT s) kb (.d (.int 2)) m R=R (.lst ((s.2.2.1.map nD).map T.d)):=g9 (i:=2) rfl
theorem Zn:BA (stT s) kb (.d (.int 3)) m R=R (.lst ((s.2.2.2.map pr).map T.d)):=g9 (i:=3) rfl
theorem uq{a b:D}{l m:LT}:UE [.d a,.d b,.lst l,.lst m]=.tup [.d a,.d b,.lst l,.lst m]:=rfl
theorem xx{r:PT}{Z:PEnds}{i:Nat}{l:List Stp}:FK Ψ E r Z i (.lst (l.map stT)) kd ρ=xB Ψ E r Z (ρ.set i (bD (.list (l.map pH)))):=by unfold FK;rw[RQ];exact Az #[λh=>h.2,λh=>#[rfl,h]]
end
structure StK(s:Stp):Prop where
 l:s.2.2.1.9<=1000
 n:s.2.2.2.9<=1000
 h:Nd s.2.2.2
theorem Gq{w:Wd}(y:WOk w)(l x:LN):(YK w l x).9<=1000:=by
 have z:=y.pl;have:∀h:List (Str×Int×Int×Int),(h.flatMap λp=>Kc w l x p.1).9<=10 * h.length:=λh=>by
  induction h with|nil=>exact QT _|cons p h u=>rw[WF,QJ,QL];have:=FQ y l x p.1;omega
 have:=this w.ps;unfold YK;omega
theorem fe{w:Wd}(y:WOk w):∀(ns:LN) (g:Gs),GsOk w g->g.past.9+ns.9<=60->(∀n∈ns,n<w.es.9)->∀s∈Co w g ns,StK s
 |[],_,_,_,_,s,h=>by cases h|n::r,g,hg,hl,hn,s,h=>by have u:=hn n QF;have z:=GQ y hg u;have hl:g.past.9+(r.9+1)<=60:=hl;have b:(bC w g n).past.9=g.past.9+1:=QJ;rcases QM.mp h with rfl|h;have v:=MR (VI w.es (iU w g n) (JN w (g.past++[n])));have fl:(VI w.es (iU w g n) (JN w (g.past++[n]))).9<=(iU w g n).length:=Q9 _ _;have a:(iU w g n).9<=(bC w g n).past.length:=z.tl;refine#[?_,Gq y _ _,IX y _ _];show(Oj w g n).9<=1000;unfold Oj;rw[v.length_eq];omega;exact fe y r _ z () (λx k=>hn x (QD _ k)) s h
theorem NU{w:Wd}:∀(ns:LN) (g:Gs),(Co w g ns).map (λs=>s.1)=ns
 |[],_=>rfl|n::r,g=>ak (n::·) (NU r _)
theorem xf{s:Stp}(h:StK s):UO 3 (pH s):=NV (RC CS (RC #[rfl,Qs _] (RC (LX (DN (n:=0) (JM λa _=>CS)) (by decide)) (RC (DN (JM λp x=>uf (h.h p x))) pZ))))
def lT(is:LJ)(w:Wd)(ns:LN)(o4 o5:Option Sl)(h:T)(o7 o8:Option Sl):kA:=[kv (.bor (.lst ((is.map j5).map T.d))),bD (wD w),bD (.list (w.es.map rD)),oW (MK ns),o4,o5,oW h,o7,o8]
section
variable{Ψ:PEv}{is:LJ}{w:Wd}{ns:LN}{o4 o5 o8:Option Sl}{Q:T->LT->Prop}{st:List Stp}
section
variable{op:h7}{L:Bool->Prop}
theorem Hf(l:List D):mD l (kv 1) kf=l.drop 1:=by
 unfold mD;rw[HT.sIx_none,show(kv 1:Option Int)=kv ((1:Nat):Int) from rfl,HT.sIx_nat];cases l with|nil=>rfl|cons a l=>simp
theorem yr(l:List D)(x:D):mD (l++[x]) kf (kv (-1))=l:=by unfold mD;rw[HT.sIx_none,QJ,Q8];show(List.drop 0 (l++[x])).take (((-1:Int)+((l.9+1:Nat):Int)).toNat - 0)=l;rw[show((-1:Int)+((l.9+1:Nat):Int)).toNat - 0=l.9 by omega];simp
theorem Bl{ds:List D}{e:D}:JB op (.lst (ds.map T.d)) (.d e) L=SI op (.list ds) e L:=by show SI op (.list (ersT (ds.map T.d))) e L=_;rw[DA]
theorem M8{E:XE}{ρ:kA}{K:TK}{a:PX}{i:Int}:mB Ψ (.slc a .nop (.ng i)) E ρ K=mB Ψ a E ρ λx n h=>lI x n kf (kv (-i)) λz k=>K z k h:=by
 show(pe Ψ a E).e ρ (λx n h=>sq (lA x n) h (λρ (R:Option Int->kA->Prop)=>R kf ρ) λl v=>sq (lA x n) v (λρ (R:Option Int->kA->Prop)=>R (kv (-i)) ρ) λu y=>EG (lA x n).vw l u λz k=>K z k y)=_;have:∀x n h,(sq (lA x n) h (λρ (R:Option Int->kA->Prop)=>R kf ρ) λl v=>sq (lA x n) v (λρ (R:Option Int->kA->Prop)=>R (kv (-i)) ρ) λu y=>EG (lA x n).vw l u λz k=>K z k y)=EG (lA x n).vw kf (kv (-i)) λz k=>K z k h:=by intro x n h;unfold sq;split<;>rfl
 simp only[this];rfl
theorem cr{l:List Stp}{e:D}:JB op (.lst (l.map stT)) (.d e) L=SI op (.list (l.map pH)) e L:=by show SI op (T.lst (l.map stT)).er e L=_;rw[RQ]
theorem vv{w:Wd}(h:WOk w)(q:L kb):JB .NotEq (.d (wD w)) (.d (wD w)) L:=#[K5 h,K5 h,by show L (!PyData.eqv (wD w) (wD w));rw[WH _ (K5 h).1];exact q]
theorem df(f:Ψ.sp "going_order"=Oa)(v:Ψ.sp "gone"=XG)(u:WOk w)(h:kO w ns)(es:st=(CM w ns).steps)(g:st.9<=60)(ok:ZD (.list (st.map pH)))(z:ZD (.list ((st.map pH).drop 1))){l6:List D}(j:l6.9<=1000)(e:l6.drop 1=(st.map pH).drop 1)(q:Q (.d (.bool kd)) []):pF Ψ yJ (eZ Q) (lT is w ns o4 o5 (.lst (l6.map T.d)) (bD (.list (st.map pH))) o8):=by have i:=eV h;have l:=u.el;delta lT MK;delta yJ;simp![↓xA (md:=[]) f rfl rfl,↓xA (md:=[]) v rfl rfl];rw[Hf,Hf,e,Bl];refine rM z ?_;simp![QE];refine#[(),(),SU u λb y=>?_];cases aV h y;refine#[rfl,?_];rw[show(ns.map nD).map T.d++[T.d (.int 7)]=(ns.map nD++[j5 7]).map T.d by rw[QR];rfl];delta MK;simp![↓M8,↓xA (md:=[]) v rfl rfl];rw[yr,Bl];refine JT (nV ns) (AX rfl (#[_,rfl,u,λa x=>?_]));cases aV h x;refine#[rfl,?_];rw[cr,<- es];exact JT (L:=λk=>Q (.d (.bool k)) []) ok q
theorem gu{ts:LT}{W:LT->Prop}:JK .val [(.lst ts,kb)] W=W ts:=zG ts
theorem nq(g:Ψ.sp "_law_world"=NC)(b:Ψ.sp "going_order"=Oa)(a:Ψ.sp "gone"=XG)(u:WOk w)(y:kO w ns)(es:st=(CM w ns).steps)(z:st.9<=60)(ok:ZD (.list (st.map pH)))(x:ZD (.list ((st.map pH).drop 1)))(k:∀{K:T->LT->Prop}{E:XE},K (.d (wD w)) []->OL NC [.lst ((is.map j5).map T.d),.d (.int 6)] K E)(i:∀s∈st,s.2.2.1.9<=1000/\s.2.2.2.9<=1000)(q:Q (.d (.bool kd)) []):pF Ψ vN (eZ Q) (lT is w ns o4 o5 (.lst (st.map stT)) (bD (.list (st.map pH))) o8):=by
 delta vN;refine Mg 6 rfl ?_;rw[RQ];show oK Ψ _ (λ_=>False) [kv (.bor (.lst ((is.map j5).map T.d))),bD (wD w),bD (.list (w.es.map rD)),kv (.bor (.lst ((ns.map nD).map T.d))),eB o4,eB o5,bD (.list (st.map pH)),bD (.list (st.map pH)),eB o8] _;generalize eB o4=p4;generalize eB o5=p5;generalize eB o8=p8;simp![↓fU];rw[<- JA pH];refine dB (λs=>T.d (pH s)) (λs=>T.d (nD s.1)) st [] _ (λs v R f=>?_) (by show 0+_<=_;omega) ?_;simp![↓Cn];exact f;rw[Qh,JA λs:Stp=>nD s.1,show(st.map λs=>nD s.1)=ns.map nD by rw[show(st.map λs=>nD s.1)=(st.map λs=>s.1).map nD by rw[QX];rfl,es,HQ,NU]];simp![↓iw,↓xA (md:=[.shal]) g rfl rfl];refine rM (nV ns) ?_;refine kG QG (k ?_);refine#[rfl,?_];rw[Zw];refine vv u ?_;refine#[rfl,?_];show pF Ψ (.seq (.hs Hk) yJ) (eZ Q) _;refine Pr (ts:=st.map stT) rfl (by show 8<9;decide) (by rw[QE];omega) ?_;cases e:st with|nil=>exact .inl #[rfl,by have:=df (o4:=o4) (o5:=o5) (o8:=kf) (is:=is) b a u y es z ok x (l6:=[]) (by decide) (by rw[e];rfl) q;rw[e]at this;exact this]|cons s r=>have v:=i s (by rw[e];exact QF);refine .inr #[nD s.1,.bool s.2.1,s.2.2.1.map nD,s.2.2.2.map pr,r.map stT,rfl,by rw[QE];exact v.1,by rw[QE];exact v.2,λd=>?_];have h:=z;rw[e]at h;have h:r.9+1<=60:=h;have:=df (o4:=o4) (o5:=o5) (o8:=kf) (is:=is) b a u y es z ok x (l6:=d::ersT (r.map stT)) (by rw[OQ];show(r.map pH).9+1<=_;rw[QE];omega) (by rw[e,OQ];rfl) q;rw[e]at this;exact this
theorem oq(j:Ψ.sp "_law_world"=NC)(i:Ψ.sp "going_order"=Oa)(a:Ψ.sp "gone"=XG)(g:Ψ.sp "_law_step_formed"=tP)(v:WOk w)(x:kO w ns)(es:st=(CM w ns).steps)(e:st.9<=60)(ok:ZD (.list (st.map pH)))(y:ZD (.list ((st.map pH).drop 1)))(z:∀{K:T->LT->Prop}{E:XE},K (.d (wD w)) []->OL NC [.lst ((is.map j5).map T.d),.d (.int 6)] K E)(b:∀s∈st,s.2.2.1.9<=1000/\s.2.2.2.9<=1000){o6 o7:Option Sl}(q:Q (.d (.bool kd)) []):pF Ψ xN (eZ Q) [kv (.bor (.lst ((is.map j5).map T.d))),bD (wD w),bD (.list (w.es.map rD)),oW (MK ns),o4,o5,o6,o7,o8]:=by delta xN;simp![↓xA (md:=[]) a rfl rfl];refine#[_,rfl,v,λf h=>?_];cases aV x h;rw[<- es];simp![↓vA];refine Mg 6 rfl ?_;rw[RQ];show oK Ψ _ (λ_=>False) [kv (.bor (.lst ((is.map j5).map T.d))),bD (wD w),bD (.list (w.es.map rD)),kv (.bor (MK ns)),eB o4,eB o5,bD (.list (st.map pH)),eB o7,eB o8] _;generalize eB o4=p4;generalize eB o5=p5;generalize eB o7=p7;generalize eB o8=p8;simp![↓fU,↓uP,↓Gk,↓Nr];rw[<- JA pH];refine dB (λs=>T.d (pH s)) (λ_=>T.d (.bool kd)) st [] _ (λs k R u=>?_) (by show 0+_<=_;omega) ?_;simp![↓xA (md:=[]) g rfl rfl];refine#[_,rfl,(b s k),?_];simp![↓vA];exact u;rw[Qh];refine Z8 _ ?_;simp![↓vA];rw[gu];refine dB stT stT st [] _ (λs k R u=>?_) (by show 0+_<=_;omega) ?_;simp![↓gm,↓Aw,↓Ht,↓Dt,↓Vn,↓Zn,↓uq];exact#[(),u];rw[Qh,xx];exact nq j i a v x es e ok y z b q
end
end
theorem uo{cs:LJ}{k:Int}(h:0<=k/\k<=100):0<=CY cs k:=by have d:=KA (cs:=cs) (k:=905) (m:=4) (by decide);have x:=KA (cs:=cs) (k:=11 * k+3) (m:=9) (by decide);have g:=(GC (l:=[k,2 * (k / 2),dA cs (11 * k+3) 9,100 - k]) (d:=(0:Int)) d.1 d.2).2;unfold CY;generalize gI [k,2 * (k / 2),dA cs (11 * k+3) 9,100 - k] (dA cs 905 4) 0=z at g ⊢;simp only[QM,wt,or_false]at g;omega
theorem Oq(cs:LJ)(k:Int)(h:Ps)(x:LS)(o:Option (Str×Str)):sR (Xf cs k h x o)=CY cs k:=by
 cases o with|none=>rfl|some p=>let#[a,b]:=p;show sR (if _ then _ else if _ then _ else _)=_;split;rfl;split<;>rfl
theorem Tq{cs:LJ}{y:Ps}{z:LS}:∀(l:LN) (s:List Evt×Option (Str×Str)),(∀e∈s.1,0<=sR e)->(∀j∈l,j<=100)->∀e∈(l.foldl (CH cs y z) s).1,0<=sR e
 |[],s,h,_=>h|k::l,s,h,hk=>Tq l (CH cs y z s k) (λe x=>by rcases Qg.mp x with x|x;exact h e x;rw[QI.mp x,Oq];have:=hk k QF;exact uo #[(),()]) λj u=>hk j (QD _ u)
theorem l9(ns:LJ):∀e∈(aL ns 6).es,0<=sR e:=Tq _ _ (λ_ z=>(nomatch z)) λj h=>by have:=qA.mp h;have:=dW ns;omega
theorem Zj{Ψ:PEv}(A:Ψ.sp "_law_world"=NC)(W:Ψ.sp "going_order"=Oa)(h3:Ψ.sp "_law_whole"=CL)(h4:Ψ.sp "gone"=XG)(h5:Ψ.sp "_law_step_formed"=tP)(ds Q E)(h:IP.run ds Q E):xy Ψ f8 IP jh Z4 ds Q:=by
 let#[is,hl,hb,rfl,q]:=h;refine nA [kv (.bor (.lst ((is.map j5).map T.d))),kf,kf,kf,kf,kf,kf,kf,kf] ?_;have k:=L1 is (most:=6) (by decide);have ht:=l9 is;delta f8;simp![↓xA (md:=[.shal]) A rfl rfl];refine#[_,_,rfl,by decide,?_];have p:∀{K:T->LT->Prop}{E:XE},K (.d (wD (aL is 6))) []->OL NC [.lst ((is.map j5).map T.d),.d (.int 6)] K E:=λq=>#[_,_,rfl,by decide,q];generalize aL is 6=w at *;have el:=k.el;simp![↓eR,↓xA (md:=[]) W rfl rfl];refine SU k λv u=>?_;have nl:=eV u;delta MK;simp![↓fU,↓uP,↓Gv,↓eR,QE];have G:v.map nD=(v.map λ(n:Nat)=>(n:Int)).map j5:=by rw[QX];rfl
 rw[G];refine Ae (by rw[QE];omega) λS O M=>?_;let#[Z,rfl,L,J]:=FX O M;have e2:Z=WQ 0 w.es.length:=by
  have pr:Z.Perm (Qt w.es.9):=by
   have:=L.trans u.1
   rwa [QE]at this
  rw[List.range_eq_range']at pr;exact WT (λa b _ _ x y=>QCd x y) J List.pairwise_le_range' pr
 subst e2;rw[<- G];simp![↓N8,QE];refine#[w.es.9,rfl,(),?_];simp only[↓Dl];rw[Bl,show((WQ 0 w.es.9).map λ(n:Nat)=>(n:Int)).map j5=(WQ 0 w.es.9).map nD by rw[QX];rfl];refine rM (nV _) ?_;refine kG QG ?_;simp![↓eR];refine#[oV k,oV k,?_];rw[WH _ (oV k).1];refine kG QG ?_;refine#[(),?_];have g:∀s∈(CM w v).steps,StK s:=by rw[HQ];exact fe k v g0 (nz w) (by show 0+v.9<=60;omega) (tS u)
 have I:(CM w v).steps.9<=60:=by have e:=ak wI (NU (w:=w) v g0);rw[QE]at e;rw[HQ];omega
 have nd:v.Nodup:=u.1.nodup_iff.mpr QAw;have R:=tV u;have Y:=tS u;have P:∀n∈v,0<=sR (HA w.es n):=λn j=>by have:=Y n j;unfold HA;rw[Qr this];exact ht _ (qz this)
 conv=>arg 4;rw[<- JA nD]
 refine rB (λn=>T.d (nD n)) (λr o=>∃a b o5,(r.Pairwise (Ij w.es)/\r.Nodup/\∀n∈r,n<w.es.9/\(a<sR (HA w.es n)∨a=sR (HA w.es n)/\b<(n:Int)))/\o=lB is w v a b o5) ?_ ?_ _ _ #[-1,-1,kf,#[R,nd,λn j=>#[Y n j,.inl (by have:=P n j;omega)]],?_];rintro o ⟨a,b,o5,_,rfl⟩;refine#[λi hi=>by rw[QI.mp hi];exact#[by decide,rfl],?_];have H:=oq (is:=is) (o4:=bD (.tuple [.int a,.int b])) (o5:=iK o5) (o6:=kf) (o7:=kf) (o8:=kf) A W h4 h5 k u rfl I (BS (n:=4) (DN (JM λs f=>xf (g s f))) (by decide)) (BS (n:=4) (DN λx hx=>JM (λs f=>xf (g s f)) x (List.mem_of_mem_drop hx)) (by decide)) p (λs f=>#[(g s f).l,(g s f).n]) q;exact H;rintro n r o N hN ⟨a,b,o5,⟨F,C,B⟩,rfl⟩;let#[k1,k2]:=B n QF;refine Vv h3 k1 k2 (hN _ #[_,_,_,#[(QAU.mp F).2,(Qe.mp C).2,λm X=>#[(B m (QD _ X)).1,?_]],rfl]);have l:=(QAU.mp F).1 m X;have ne:n≠m:=λz=>(Qe.mp C).1 (z▸X);unfold Ij at l;omega;delta lB MK;rfl
end L2.L3.K30
namespace L2.L3
open PySem PySem.Spec PyProof.Rows L2.L3.Q
section
variable{K:QA}{x:Str}{st:z4}
theorem cW{h:v5}:∀(y:List k0),(gt y h).In h
 |[],a,o,e=>nomatch e
 |b::y,a,o,e=>by
  unfold gt at e;rw[WO]at e;cases c:h.get? b with
  |none=>rw[c]at e;exact cW y a o e|some z =>
   rw[c]at e;have e:QCV a ((b,z)::gt y h)=kv o:=e;rw[wo]at e;cases d:a==b with|true=>rw[d]at e;cases e;rw[beq_iff_eq.mp d];exact c|false=>rw[d]at e;exact cW y a o e
theorem Nk{q:Str}{f:k0}{y:y3}{w:kn}{v:Option k0}{z:Array (Option kn)}(hl:K.lookup f=kv #[w,v,.func y,z])(h:Im y (Wm K y.code q&&wR K (.ref f))=Im (qq x q (lD st) (pC st) (OA st) .none .none .none .none kf .none .none) kd):∃y,Fun K x q st f y:=by let#[Y,X,s,r,p,o,n,m,l,j,i,g,e,b,a]:=y;unfold Im at h;injection h with h1 h2;injection h2 with h2 h3;injection h1 with b1 h1;injection h1 with b2 h1;injection h1 with b3 h1;injection h1 with b4 b5;injection h2 with c1 h2;injection h2 with c2 h2;injection h2 with c3 c4;let#[u,k]:=W5.mp h3;simp only at b1 b2 b3 b4 b5 c1 c2 c3 c4 u;subst b1 b2 b3 b4 b5 c1 c2 c3 c4;exact#[_,Pk hl u k]
theorem C3(h:fW K x=pT x st)(y:(pT x st).isSome=kd):JY K x st:=by
 have z:pT x st=kv (Im (qq x x (lD st) (pC st) (OA st) .none .none .none .none kf .none .none) kd):=by cases st<;>first|rfl|cases y
 rw[z]at h;unfold fW at h;split at h;rename_i f hf;split at h;rename_i hl;let#[u,F]:=Nk hl (Qi h);exact#[f,u,hf,F];cases h;cases h
theorem P9(h:JV K x=kd):qp K Vz x=kv none:=by unfold JV at h;split at h;assumption;cases h
theorem U3{i:Int}(h:Lh K x=kv i):dN K x (.int i):=by
 unfold Lh at h;split at h;rename_i u hu;cases u with|int j t=>cases h;exact#[_,_,hu,rfl,λ_=>.int i]|_=>cases h
 cases h
theorem GR:∀{us:LW}{xs:LS},us.map Bo=xs.map kv->us.map cN=xs.map λy=>kv (.str y)
 |[],[],_=>rfl|[],_::_,h=>by cases h|_::_,[],h=>by cases h|u::us,x::xs,h=>by
  injection h with h1 h2;rw[QU,QU,GR h2];cases u with|str z t=>cases h1;rfl|_=>cases h1
theorem HY{xs:LS}(h:Ph K x=kv (xs.map kv))(y:xs.9<=kt):dN K x (.tuple (xs.map j3)):=by unfold Ph at h;split at h;rename_i f hf;split at h;rename_i t od its n osl hl;split at h;rename_i et;subst et;injection h with h;exact E1 (its:=its.toList) hf (by simpa using hl) (GR h) y;cases h;cases h;cases h
theorem go_of(e:seen K=due):vG K tA=true:=(QAJ (QAJ (QAJ (QAJ e).2).2).2).2
end
section
variable{K:QA}{h:v5}{mg:Str->Option kn}{T:k0}
theorem cT(e:vG K T=kd)(X:K.In h)(G:h.Ns Vz mg):(∃f k w v z c,mg "going_order"=kv (.ref f)/\K.lookup f=kv #[k,w,.func v,z]/\v.code=.ref c/\QAr K c T=kd)/\(∀y:v5,K.In y->y.BuiltinsAt mg T)/\K.lookup T=kf/\Vz≠T:=by
 let#[u,e]:=zA e;let#[x,e]:=zA e;let#[g,a]:=zA e;refine#[?_,?_,QAd.mp g,bne_iff_ne.mp a];split at u
 ·rename_i f hf
  split at u;rename_i k w v z hl;split at u;rename_i c hc;exact#[f,k,w,v,z,c,Wc X G hf,hl,hc,u];cases u;cases u
 cases u;intro y Y;split at x;rename_i b hb;split at x;rename_i t d z hl;let#[n,x]:=zA x;let#[m,x]:=zA x;let#[l,x]:=zA x;let#[j,i]:=zA x;exact#[b,_,Wc X G hb,bne_iff_ne.mp l,bne_iff_ne.mp j,bne_iff_ne.mp i,Y _ _ hl,by rw[beq_iff_eq.mp n],by rw[beq_iff_eq.mp m],rfl];cases x;cases x
theorem Lk(e:vG K T=kd)(X:K.In h)(G:h.Ns Vz mg):∃v c,(∀x:v5,K.In x->∀P q,xP mg x P q->P=T/\q=v)/\QAr K c T=kd/\K.lookup T=none:=by let#[#[f,I,F,C,w,c,p,n,m,y],_,l,_]:=cT e X G;refine#[C.qualname++".<locals>.<lambda>",c,λx Y P q t=>?_,y,l];let#[M,o,B,N,A,W,Z,s,#[L,E,_,_,_,_,_,_,_,j,_,i,g,_],r]:=t;cases p.symm.trans A;have z:=W.symm.trans (Y _ _ n);cases z;cases Z;cases m.symm.trans s;let#[J,u,_,_,_,_,_,_,_,b,_,a,k,_]:=QAK Y y;cases j.symm.trans b;cases i.symm.trans a;cases g.symm.trans k;exact#[rfl,r]
end
theorem walk_seen{l:PySem.W.OpenLaw}{k:Nat}{q:vx}{loose:LS}{XP:(Str->Option kn)->v5->Prop}{YP:v8->v5->Prop}{d:DefRec}{x:Str}{Fs:QA->Prop}{T:k0}
  (hn:l.most=kv 63) (C:d.params.defaults=[]) (S:Room k ln) (hY:∀(w:v8) (h:v5),YP w h->∃K:QA,K.In h/\Fs K/\h.get? T=kv (QBR #[])) (B:∀K,Fs K->vG K T=kd)
  (F:∀(w:v8) (mg:Str->Option kn) (p:k0) (h:v5) (K:QA),K.In h->Fs K->vG K T=kd->h.Ns Vz mg->mg d.name=kv (.ref p) ->
   ∃E:y3,(∀(s:ku) (u:kn),Lz s E #[[u],[]] [(x,u)]) /\
    ∀y:v5,K.In y->y.Ns Vz mg->FnOk l.prog w K mg y R0 k p E [x] (lift K IP)) :
  PySem.W.WalkO q loose XP YP l.row.toRowW d [] (λf vs=>PySem.call f vs):=by
 intro w L J mg mb G Y p o pm cd doc dV kV ho hd hcd M A hg args I as j n R Z hlo;obtain rfl:dV=.none:=PySem.W.Dflts.none M C;obtain rfl:kV=.none:=PySem.W.Dflts.noKw M;let#[a,vs,P,rfl,rfl,m,i,v]:=Att.script_of hn j Z;let#[K,X,fs,Q]:=hY w _ Y;have N:=B K fs;let#[tq,c,g1,g2,g3]:=Lk N X G.T.g;let#[E,hb,hF]:=F w mg p _ K X fs N G.T.g A;refine PySem.W.enter_call (QCF (K6 g1 ((QAK X g2).tab Q) g3 X G.T.g G.T.b G.T.builtins G.T.nolimit hg m i (QW v (by decide)) S hF hb (λH hO hS=>zk _ H a P v (Zd n) hS) λH e O=>λz=>z) λr O hq=>?_);let#[rfl,h2,h3,h4]:=hq;exact#[.inl #[.bool kd,.bool kd,[],rfl,λ_=>rfl,.bool kd,Att.post_true l _,λ_=>#[List.Pairwise.nil,λ_ hm=>(nomatch hm)]],h2,h3,h4]
end L2.L3
namespace L2.L3.K30
open PySem PySem.Spec PyProof.Rows L2 L2.L3 L2.L3.Q
def Ow:Nat->(LW->Prop)->Prop
 |0,p=>p []|n+1,p=>∀u,Ow n λh=>p (u::h)
theorem Kx:∀{n:Nat}{p:LW->Prop},Ow n p->∀us:LW,us.9=n->p us
 |0,_,h,us,e=>by rw[QAp.mp e];exact h|_+1,_,_,[],e=>nomatch e
 |_+1,_,h,u::us,e=>Kx (h u) us (Nat.succ.inj e)
def az(x q:Str)(st:z4)(u:LS):Prop:=∀(kV h v:kn) (k:Option k0) (y w:kn),Ow u.9 λz=>d9 (qq x q (lD st) (pC st) (OA st) .none kV h v k y w) #[z,[]]=rk (u.zip z)
noncomputable def Dm:List (Str×D):=tT.map (λp=>(p.1,.tuple (p.2.map j3)))++sT.map λp=>(p.1,.int p.2)
structure Cx(K:QA)(h:v5)(mg:Str->Option kn):Prop where
 X:K.In h
 G:h.Ns Vz mg
 V:∀p∈Dm,dN K p.1 p.2
 N:∀y∈nT,qp K Vz y=kv kf
 D:∀p∈fT,JY K p.1 (top p.2)
theorem GE{α:Type}{d:α}:∀{l:List α}{i:Nat},QCg i l.9=kd->l.getD i d∈l
 |[],_,h=>nomatch h
 |_::_,0,_=>.head _|_::_,_+1,h=>.tail _ (GE (Nat.blt_eq.mpr (wv (Nat.blt_eq.mp h))))
theorem gf{α:Type}{l:List (Str×α)}{p:Str×α}(nd:(l.map qy).Nodup)(h:p∈l):l.lookup p.1=kv p.2:=by
 induction l with|nil=>cases h|cons a l y=>let#[x,s]:=a;rw[QU,Qe]at nd;rw[wo];rcases QM.mp h with rfl|h;rw[beq_self_eq_true];have v:p.1∈l.map qy:=QBY h;have u:(p.1==x)=false:=beq_eq_false_iff_ne.mpr λz=>nd.1 (by rw[<- z];exact v);rw[u];exact y nd.2 h
def Oe:LS:=fT.map qy
def fx(i:Nat):Str×Nat:=fT.getD i ("",0)
def tbl(r:List PSp):PEv:=ue (Oe.zip r) Dm
theorem DR{r:List PSp}(i:Nat)(h:QCg i Dm.length=true:=by rfl):(tbl r).va (Dm.getD i ("",.none)).1=kv (Dm.getD i ("",.none)).2:=gf (VE (by kernel_rfl)) (GE h)
theorem Ho{r:List PSp}(nd:UJ ((Oe.zip r).map qy)=kd)(i:Nat)(h:QCg i (Oe.zip r).9=kd):(tbl r).sp ((Oe.zip r).getD i ("",Lm)).1=((Oe.zip r).getD i ("",Lm)).2:=by show(QCV _ _).getD Lm=_;rw[gf (VE nd) (GE h)];rfl
noncomputable def nB(n:Need)(fs:LS):Bool:=n.fn.all (λx=>fs.contains x)&&((n.va.all λx=>(Dm.map qy).contains x)&&n.no.all (λx=>nT.contains x))
section
variable{P:vx}{w:v8}{K:QA}{h base:v5}{mg:Str->Option kn}{r v:List PSp}{R:PSp}{u:LS}{k:Nat}{b:PT}{n:Need}{N z:LS}
theorem hv(C:Cx K h mg)(A:∀g∈u,JG P w K mg base (tbl r) k g)(i:Nat)(zC:YB n b N z (top (fx i).2)=kd)
  (body:∀ts Q E,R.run ts Q E->ts.9=z.9/\xB (tbl r) (λ_=>False) b (cD R z.9 Q) (oB N R.md ts)) (o:(tbl v).sp (fx i).1=R) (hc:AF (UB 0 R.md z.9) b=true:=by kernel_rfl)
  (hb:az (fx i).1 (fx i).1 (top (fx i).2) z:=by(repeat intro _);rfl)
  (x:nB n u=true:=by kernel_rfl) (l:QCg i fT.length=true:=by rfl):JG P w K mg base (tbl v) (k+1) (fx i).1:=by
 let#[s,x]:=zA x;let#[q,p]:=zA x;exact b7 C.X C.G (C.D _ (GE l)) zC hc (λa b c d e f=>Kx (hb a b c d e f)) (λg m=>A g (oP s g m)) (yX C.X C.G C.V q) (λy j=>C.N y (oP p y j)) body o
theorem hc(A:∀g∈u,JG P w K mg base (tbl r) k g){x:Str}(Z:JG P w K mg base (tbl r) (k+1) x):∀g∈x::u,JG P w K mg base (tbl r) (k+1) g:=by intro g y;rcases QM.mp y with rfl|y;exact Z;exact(A g y).mono (wJ _)
theorem hl(C:Cx K h mg)(A:∀g∈u,JG P w K mg base (tbl r) k g){x q:Str}{st:z4}{f:k0}{e:y3}(F:Fun K x q st f e)(zC:YB n b N z st=kd)
  (body:∀ts Q E,R.run ts Q E->ts.9=z.9/\xB (tbl r) (λ_=>False) b (cD R z.9 Q) (oB N R.md ts)) (hc:AF (UB 0 R.md z.9) b=true:=by kernel_rfl) (a:nB n u=true:=by kernel_rfl):FnOk P w K mg base R0 (k+1) f e z (lift K R):=by
 let#[o,a]:=zA a;let#[m,l]:=zA a;exact i7 F zC hc (λg j=>A g (oP o g j)) (yX C.X C.G C.V m) (λy i=>QAS C.X C.G (C.N y (oP l y i))) body
theorem cx_of(X:K.In h)(G:h.Ns Vz mg)(e:seen K=due)(o:(fT.all λp=>(pT p.1 (top p.2)).isSome)=kd)(m:(tT.all λp=>decide (p.2.9<=1000))=kd):Cx K h mg:=by injection e with j e;injection e with i e;injection e with g e;injection e with f _;have j:=Wl.mp j;have i:=Wl.mp i;have g:=Wl.mp g;have f:=Wl.mp f;refine#[X,G,λp x=>?_,λy l=>P9 (f y l),λp x=>C3 (j p x) (Ql.mp o p x)];rcases Qg.mp x with x|x;let#[q,a,rfl]:=QY.mp x;have:=aj (Ql.mp m q a);exact HY (i q a) ();let#[q,a,rfl]:=QY.mp x;exact U3 (g q a)
end
section
variable{P:vx}{w:v8}{h:v5}{mg:Str->Option kn}
def Fm:List PSp:=[tJ,mC,DL,OU,GL,NC,Oa,CL,KP,eP,FL,OR,yL,eD,jE,ZP,aP,BG,fI,uI,LF,iP,UG,bI,JP,cI,xI,dI,PU,zL,UC,XG,tP,IP]
theorem eA(i:Nat)(h:QCg i (Oe.zip Fm).9=true:=by rfl):(tbl Fm).sp ((Oe.zip Fm).getD i ("",Lm)).1=((Oe.zip Fm).getD i ("",Lm)).2:=Ho (by kernel_rfl) i h
theorem mz{K:QA}{x:v5}{k:Nat}(C:Cx K h mg)(q:vG K tA=kd)(v:K.In x)(m:x.Ns Vz mg):JG P w K mg x (tbl Fm) (k+1) "going_order":=by let#[f,M,p,#[#[J,I,kV,B,F,R,b,Q,i,rfl,lk,a],n]]:=C.D (fx 6) (GE rfl);let#[#[O,l,j,A,e,c,g,W,Z,Y],s,L,r]:=cT q C.X C.G;cases(Wc C.X C.G p).symm.trans g;cases lk.symm.trans W;cases(show b=.ref c from Z);have z:=λy (o:nT.contains y=kd)=>QAS C.X C.G (C.N y (Qk.mp o));exact Xc v m g lk a n (QAK v Y) (s x v) r (z _ (by kernel_rfl)) (z _ (by kernel_rfl)) (z _ (by kernel_rfl)) (λE hl=>by let#[u,rfl]:=QA1.mp hl;rfl) (eA 6)
theorem all{K:QA}{v:k0}(C:Cx K h mg)(b:vG K tA=kd)(y:mg "law"=kv (.ref v)) :
  ∃z:y3,(∀(s:ku) (u:kn),Lz s z #[[u],[]] [("_law_script",u)])/\∀x:v5,K.In x->x.Ns Vz mg->FnOk P w K mg x R0 34 v z ["_law_script"] (lift K IP):=by
 refine vk C.X C.G (C.D (fx 33) (GE rfl)) rfl y (eA 33) (λ_ _ _ _ _ _ e hl=>by let#[u,rfl]:=QA1.mp hl;rfl) λx a k f z F _=>?_;have A:∀g∈([]:LS),JG P w K mg x (tbl Fm) 0 g:=nofun;have A:=hc A (hv C A 0 OT zZ (eA 0));have A:=hc A (hv C A 1 AZ Bb (eA 1));have A:=hc A (hv C A 2 VW (X5 (eA 1)) (eA 2));have A:=hc A (hv C A 3 NT (sj (eA 1)) (eA 3));have A:=hc A (hv C A 4 XW (Kj (eA 1)) (eA 4));have A:=hc A (hv C A 5 ZW (Z5 (eA 1) (eA 4) (eA 0) (eA 2) (eA 3)) (eA 5));have A:=hc A (mz C b a k);have A:=hc A (hv C A 7 KW nj (eA 7));have A:=hc A (hv C A 8 IM Xj (eA 8));have A:=hc A (hv C A 9 YW Jb (eA 9));have A:=hc A (hv C A 10 AT U5 (eA 10));have A:=hc A (hv C A 11 RT (Mp (eA 9) (eA 10) (eA 8)) (eA 11));have A:=hc A (hv C A 12 SN gb (eA 12));have A:=hc A (hv C A 13 AM (Y5 (eA 12) (eA 8)) (eA 13));have A:=hc A (hv C A 14 TN Yb (eA 14));have A:=hc A (hv C A 15 ET Vj (eA 15));have A:=hc A (hv C A 16 FT pj (eA 16));have A:=hc A (hv C A 17 UW Cb (eA 17));have A:=hc A (hv C A 18 IT (Db (eA 17)) (eA 18));have A:=hc A (hv C A 19 GT (yZ (eA 18) (eA 17) (DR 0) (DR 1)) (eA 19));have A:=hc A (hv C A 20 AI (V5 (DR 0)) (eA 20));have A:=hc A (hv C A 21 IQ (Yj (DR 0)) (eA 21));have A:=hc A (hv C A 22 EM kZ (eA 22));have A:=hc A (hv C A 23 jO (C5 (eA 22)) (eA 23));have A:=hc A (hv C A 24 IN Ub (eA 24));have A:=hc A (hv C A 25 IK (D5 (eA 19) (eA 20) (eA 21) (eA 23) (eA 24) (DR 0)) (eA 25));have A:=hc A (hv C A 26 SK (cb (eA 25)) (eA 26));have A:=hc A (hv C A 27 AK (G5 (eA 26)) (eA 27));have A:=hc A (hv C A 28 MT ij (eA 28));have A:=hc A (hv C A 29 AN (Kb (eA 27) (eA 28)) (eA 29));have A:=hc A (hv C A 30 EN (Vb (eA 12) (eA 16) (eA 15) (eA 29)) (eA 30));have A:=hc A (hv C A 31 zd (Xb (eA 6) (eA 11) (eA 13) (eA 14) (eA 30)) (eA 31));have A:=hc A (hv C A 32 MJ (oj (eA 7)) (eA 32));exact hl C A F il (Zj (eA 5) (eA 6) (eA 7) (eA 31) (eA 32))
def hk:PySem.W.Hook:=#[tY×Option Obj,ob,λ_=>(due,kv (QBR #[])),λ_ h=>∃K:QA,K.In h/\seen K=due/\h.get? tA=kv (QBR #[]),λ_ _ e=>#[_,cW _,(QAJ e).1,(QAJ e).2],λ_ _ _ #[K,X,e,t] k=>#[K,X.keeps k,e,k _ _ t]]
end
end L2.L3.K30
open PySem PySem.W PyProof.Rows
set_option maxRecDepth 100000 in
set_option maxHeartbeats 0 in
theorem PySem.Challenge.cw_quoteweave_k30_going_order_holds : PySem.Challenge.rw_quoteweave_k30_going_order.Holds := by
 refine holds_law L2.L3.Q.ws λy=>?_;refine holds_open (q:=L2.L3.Q.qv) (loose:=[]) (Xt:=L2.L3.Q.xt) (XP:=XL L2.L3.Q.qv []) (Yf:=Hook.obs L2.L3.K30.hk) (Ya:=Hook.val L2.L3.K30.hk) (YP:=Hook.says L2.L3.K30.hk) (N:=2252) L2.L3.Q.lf (Hook.of L2.L3.K30.hk) (Hook.keeps L2.L3.K30.hk) (λs e=>xl_of s (W5.mp e).1) XL.keeps (by rfl) (by rfl) (by rfl) (λs e=>recFacts_of (W5.mp e).2) (by rfl) (by first|assumption|decide +kernel) (by decide +kernel) ⟨rfl,rfl,rfl,rfl,rfl,by decide +kernel⟩ ?hw ?hc
 case hw=>w_witness2
 case hc=>exact L2.L3.walk_seen (l:=qD) (k:=34) (x:="_law_script") (Fs:=λK=>L2.L3.Q.seen K=L2.L3.Q.due) rfl rfl ⟨rfl,by decide,by decide⟩ (λw h Y=>Y) (λK e=>L2.L3.go_of e) λw u v h K X e z G m=>L2.L3.K30.all (L2.L3.K30.cx_of X G e (by kernel_rfl) (by kernel_rfl)) z m
