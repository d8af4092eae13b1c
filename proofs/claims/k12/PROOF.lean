import PyProof.Rows.All
import Wide.All
import OpenK.AllK
import Wide.FinOn
import Lean
import PyProof.EqAt
import PyProof.EqKinds
import PyProof.TupleCall
import PySem.Challenge.RW_quoteweave_k12_whole_cut_walked
set_option Elab.async false
set_option linter.all false
set_option genInjectivity false
set_option genSizeOf false
set_option maxRecDepth 100000
set_option maxHeartbeats 4000000
open PySem renaming wpAny_bind->QA,wpAny_pure->QI,sizeLine_eq->QW,wpAny_newObj_type->Qp,wpAny_call_entry->Q0,wpAny_callSpecial?_slot->qA,wpAny_loadPart'->qF,mem_of_lookup->qR,wpAny_holding->qT,wpAny_setField->qt,wpAny_typeNameOfWhole_itemiter->qw,wpAny_Call_Name_kw->qy,wpAny_typeNameOfWhole_keyiter->wA,wpAny_truthy_bool->wD,wpAny_dictEntries->wF,codeAny_builtin->wL,wpAny_mono->wO,wpAny_setField_rec->wR,wpAny_field->wU,wpAny_passesOwn->wZ,wpAny_setState_of->wf,wpAny_askSetting->wr,Spec->wt,tupleKind_room_in1->wy,wpAny_dictEpoch->WA,wpAny_pyIter_list->WD,wpAny_fieldsOf->WJ,wpAny_of_eq->WP,wpAny_attempt->WV,plainId_quiet->WW,wpAny_isOneOf_itemiter->Wb,wpAny_pyIter_slot->We,wpAny_notOrdered_dict->Wk,wpAny_isInstance->Wu,wpAny_execs_nil->W4,wpAny_setEntries_of->W5,codeAny_mono->QAG,wpAny_typeOf->QAH,wpAny_rule->QAV,wpAny_Call_method0_late->QAd,wpAny_handled->QAf,wpAny_isOneOf_keyiter->QAx,builtinLookup_eq_fast->QAz,call_meets->QA2,wpAny_seqItems->QBC,wpAny_newTuple->QBD,isSubtype_type->QBE,evalArgs_none->QBG,wpAny_setItem_pairs->QBH,wpAny_throw->QBJ,wpAny_standAt->QBU,wpAny_pyIter_tuple->QBX,wpAny_newList->QBY,wpAny_assign_Name->QBd,slot_list_getitem->QBf,wpAny_pyIter_enum->QBj,wpAny_storeSet_of->QBm,concat_meets->QBr,seqIndex_neg->QBs,wpAny_execs_cons->QBx,noFill_tuple_add->QBz,seqIndex_of->QB5,storedH_new->QB8,wpAny_Name->QCB,typeIs_str->QCC,typeIs_int->QCD,Fin->QCJ
open Bool renaming false_ne_true->QC,and_eq_true->Qb,not_eq_true'->Qs,false_eq_true->qO,eq_iff_iff->qQ,or_eq_true->wM,not_false->WF,true_and->QAa,false_or->QAb,and_false->QA7,false_and->QA8,and_true->QBP,or_false->QBQ,true_or->QBp
open PySem.W renaming Frag->QD,nsIn->qB,kia_one->qL,fnOf->wQ,keepIn->wu,WData->W0,codeIn->QAM,methodObj->QAP,kitx_list->QAR,cellsFrom_some->QAl,instObj->QAs,lookIn->QA9,kitOne->QBA,kitx_tuple->QBW,mg_of->QBa,mg_none_of->QBb,kitx_dict->QBe,plainGet->QBy
open List renaming mem_cons_of_mem->QE,mem_cons_self->QF,length_map->QG,mem_singleton->QJ,mem_cons->QK,length_cons->QL,length_append->QM,map_cons->QR,size_toArray->QS,mem_append_right->QV,getElem?_map->QY,getElem?_eq_some_iff->Qa,mem_append->Qd,map_append->Qe,nodup_cons->Qf,mem_map->Qg,length_nil->Qi,mem_filter->Qj,mem_append_left->Qk,length_singleton->Ql,contains_iff_mem->Qm,map_map->Qq,getElem?_append_left->Qr,isEmpty_iff->Qu,replicate->Qw,getElem?_eq_getElem->Qx,getElem?_append_right->Qy,not_mem_nil->Q4,nodup_nil->Q7,mem_of_getElem?->qC,nil_append->qD,range->qE,getElem?_eq_none->qH,filter_sublist->qK,all_eq_true->qM,length_range->qN,getElem?_set_ne->qU,mem_flatMap->qY,length_replicate->qZ,all_cons->qf,length_eq_zero_iff->qg,getElem?_set_self->qk,replicate_succ->qm,flatten_cons->qp,append_assoc->qq,nodup_append->qr,length_set->qu,length->qz,getElem?_set->wG,append_nil->wH,find?_cons->wK,ext_getElem?->we,getElem?_cons_succ->wk,getElem?_replicate->wm,foldl_cons->wz,map_nil->w8,any_cons->WC,drop_eq_getElem_cons->WK,map_fst_zip->WM,filter_cons->WN,filterMap_cons->WO,map_congr_left->WQ,set->WZ,drop_eq_nil_of_le->Wc,foldl_append->Wf,mem_range->Wh,mem_iff_getElem?->Wn,length_take->Wo,lookup_cons->Wp,map_snd_zip->Wr,getElem_mem->Ws,any_eq_true->Wt,getElem?_modify->Ww,length_eraseIdx_of_lt->QAC,zip_cons_cons->QAK,pairwise_cons->QAL,any_eq_false->QAQ,length_erase_of_mem->QAX,flatMap_cons->QAY,getElem?_cons_zero->QAZ,zip_map'->QAk,length_pos_of_mem->QAp,modify_succ_cons->QAq,modify_zero_cons->QAr,of_mem_zip->QAt,forIn_cons->QAu,getD->QAw,toArray->QAy,length_filter_le->QA0,mem_erase_of_ne->QA6,forIn_nil->QBB,getElem_of_mem->QBI,getElem?_range->QBK,mem_map_of_mem->QBM,set_cons_zero->QBN,set_cons_succ->QBO,mem_filterMap->QBV,length_zipIdx->QBc,mapM_toArray->QBh,all_map->QBt,map_set->QBu,any_map->QBv,cons_append->QBw,length_drop->QB0,mem_flatten->QB4,foldl->QCE
open PySem.Heap renaming get?_push_of_some->QH,get?_push_size->QN,lt_size->QO,get?_update_self->Q1,get?_update_other->Q6,SameBut->qP,size_push->wV,ExtBut->QAe,get?_push_cases->QA5,IsList->QB7
open Array renaming length_toList->QT,getElem?_toList->qv,getElem?_eq_getElem->WI,toList_inj->Wq,perm_iff_toList_perm->QAB,getElem?_eq_none->QAo,mem_toList_iff->QA3,toList_append->QBL,toList_push->QBl,toList->QBq
open Nat renaming le_refl->QU,le_trans->QX,ne_of_lt->Qc,lt_of_lt_of_le->Qo,zero_le->qG,lt_succ_of_lt->qb,lt_irrefl->wC,le_succ->wJ,ne_of_gt->wP,lt_succ_self->WL,le_of_eq->Wi,zero_add->QAD,le_of_lt->QAE,lt_or_ge->QAv,sub_self->QA1,lt_of_le_of_lt->QBR
open False renaming elim->QZ
open Option.some renaming injEq->Qh,inj->Q9
open Int renaming emod_lt_of_pos->Qn,emod_nonneg->Qz,toNat_natCast->wc,lt_irrefl->wq
open PySem.Str renaming ofString->Qt,join->QCH
open Ne renaming symm->Q2
open PySem.Obj renaming data_mapFields->Q3,mapSeq->qI,mapFields->qX,isFreed_of_fields->qd,cls_mapFields->WE,data_mapDictKeys->QA4,putSet->QBk
open PySem.PyData renaming eqv->Q5,strOk->qi,canLayAll0->wE,depthAll->w9,canLay0->WH,depth->QAI
open Option renaming map_some->Q8,map_none->wg,isSome_map->QAU,getD_none->QB1,getD_some->QB2
open PySem.Heap.SameBut renaming update->qJ,refl->QBg
open PySem.Paired renaming length->qS
open PySem.Builtin.SmallTypes renaming nextOf->qV
open PySem.F renaming slot_dict_itemiterator_next->qW,slot_dict_keyiterator_next->qe,slot_tuple_iterator_next->qj,called_set->WB,args_tuple_iterator_next_1->WT,entry_tuple_iterator_next->WU,args_dict_itemiterator_next_1->Wd,entry_dict_itemiterator_next->Wj,args_dict_keyiterator_next_1->Wm,entry_dict_keyiterator_next->Wv,slot_dict_getitem->QAN,args_tuple_add_2->QAT,entry_tuple_add->QAc,plainAttrs_dict->QAi,plainAttrs_list->QAj,slot_tuple_add->QAm,slot_dict_items_iter->QAn,plain_list_iadd->QBo,slot_dict_iter->QB3,slot_int_rmul->QB6,plain_set_new->QB9,slot_set_iter->QCA
open LawfulBEq renaming eq_of_beq->qa
open PySem.Around renaming under_plainId->qh
open PySem.SeqAt renaming EqAt->ql
open Lean.Parser.Tactic renaming tacticSeq->wB
open PyProof.Rows renaming callWith_type1->wI,slot_tuple_getitem->wa,callWith_builtin1->wj,subscriptTail_builtinR->wx,boot_sorted->QAW
open PySem.Challenge renaming rw_quoteweave_k12_whole_cut_walked->wN
open PySem.Builtin.Slice renaming slicePlaces->wT,sliceAdjust->WG,sliceApplied->QAA
open PySem.Builtin.Dict_items renaming addrOf->wW,ownsTuple->Wz
open Classical renaming byContradiction->wX
open PySem.SetTable renaming below->wY,grown->ww,orStandIn->QBZ
open PySem.Builtin.Tuple renaming tupleExact->wb
open PySem.Builtin.Str renaming occurrences->wl
open PySem.W.WData renaming weightAll->wn,weight->Wx
open Prod renaming fst->wo,ext->QCG
open List.Perm renaming refl->wv
open PySem.Builtin.List renaming listTooLong->WR,listExtendWith->W6
open List.Pairwise renaming imp_of_mem->WS,map->Wg
open PyProof.Rows.F renaming plain_set_update_loop->WX,entry_set_update_loop->QAg
open Iff renaming rfl->WY
open PySem.Calls renaming callWith_builtin->Wa,Name_function_global->W9,spliced_cons->QAF,call_function_entry->QAO,spliced_nil->QAS
open PySem.Builtin.Dict renaming showsAll->Wl
open List.cons renaming injEq->W7
open PySem.Builtin.Int renaming intBits->W8
open Nat.succ renaming inj->QAJ
open PySem.Txt renaming join->QAh,slice->QCI
open PySem.Value renaming isStrOf_shape->QBF
open PySem.SeqAt.EqAt renaming int_str->QBS,str_int->QBT
open PyProof.Rows.SortSt renaming mk'->QBi
open PySem.SetTable.below renaming go->QBn
open PySem.Walks renaming list->QCF
theorem dF{p:Prop}[Decidable p](h:¬p):decide p=false:=_root_.decide_eq_false h
theorem dT{p:Prop}[Decidable p](h:p):decide p=true:=_root_.decide_eq_true h
abbrev LAO:=List (PySem.Addr×PySem.Obj)
abbrev VSP:=PySem.Value -> PySem.Shared -> Prop
abbrev AdP:=PySem.Addr -> Prop
abbrev LSS:=List (PySem.Str×PySem.Str)
set_option hygiene false in
local macro_rules | `(tactic| omega)=>do
 let f:=fun(s:String)=>(s.splitOn " ").toArray.map fun x=>Lean.mkIdent x.toName
 let a<-(f "L2.szA L2.szB L2.szC L2.unA Nat.le_trans Nat.lt_of_le_of_lt").mapM fun x=>`(wB| exact $x (by assumption) (by decide))
 let b<-(f "Nat.lt_of_lt_of_le Nat.lt_of_le_of_lt Nat.le_trans").mapM fun x=>`(wB| exact $x (by assumption) (by assumption))
 let c<-(f "Nat.le_of_lt Nat.ne_of_lt Nat.ne_of_gt Nat.lt_succ_of_lt Nat.le_of_lt_succ L2.prA").mapM fun x=>`(wB| exact $x (by assumption))
 let d<-(f "Nat.le_refl Nat.le_succ Nat.zero_le Nat.succ_pos").mapM fun x=>`(wB| exact $x _)
 `(tactic| first|decide|assumption|exact L2.szL (by decide) $[| $a]* $[| $b]* $[| $c]* $[| $d]*|omega (config:={}))
set_option hygiene false in
local macro_rules | `(tactic| simp_arith [$ls,*])=>do
 let a<-("jAF jVA jVD jPf jVC jVE jVG jU9 jPe jVB jPd jVF jU8 jVR jVY jVT jX9 jVW jVc jU6 jVb jVd jU7 jU4 jPc jYA jPj jVV jJr jPk jVa jVZ jJq jVX jVS jPl jUu jXx jXw jUv jVf jPm jJt jJu jVH jX0 jVL jVK jX1 jVJ jVI jPh G_s G_b G_o G_l G_m jX7 H_s H_b H_o Q_d Q_n Q_l J_d J_n J_l M_d K_d K_l O_n C_d C_n jLm jXh jXi N_0 N_1 N_2 N_3 N_4 N_5 N_6 N_7 N_9 jX6 jX5 jX4 jVN P_d P_l P_b jX2 jVP L_d L_l jVe jYB jXr jU2 jUx jUz jUy jU1 jU0 jXz jXe jXd jUa jUZ jUV jUT jXl jXm jXo jXn jUW jPZ jUU jRv jMn t_b a_b jXc jXb jTW x_l jW3 jVg jW5 jW4 x_s jXK jXg jXf w_l jXA jW9 jXB jSL jU3 jUB jB5 reduceIte".splitOn " ").toArray.mapM fun x=>`(Lean.Parser.Tactic.simpLemma| ↓ $(Lean.mkIdent x.toName):ident)
 let b<-("esc jGI jGf jOb T.isD lockA jEc lock kill jD6 Tg.ix jBZ jKb jGc jIe isMut jMG frzAt jRe jVn jEV.eq_1 jEV.eq_2 jLT.eq_1 jLT.eq_2 jLT.eq_3 jLT.eq_4 jPK jPJ jG3.eq_1 List.modify_succ_cons List.modify_zero_cons Option.map_some List.length_cons List.length_nil List.getElem?_cons_zero List.getElem?_cons_succ List.cons_append List.nil_append List.set_cons_zero List.set_cons_succ Nat.reduceAdd Nat.reduceSub Nat.zero_add Bool.and_true Bool.true_and Bool.not_true Bool.not_false Bool.or_true Bool.true_or Bool.or_false Bool.false_or Bool.and_false Bool.false_and if_true if_false Bool.false_eq_true true_and and_true false_implies ne_eq reduceCtorEq not_false_eq_true not_true_eq_false implies_true forall_const Int.reduceLT Int.reduceLE Int.reducePow Int.reduceNeg Nat.reducePow and_self eq_self Option.some.injEq Sl.own.injEq Sl.bor.injEq and_assoc decide_true decide_false".splitOn " ").toArray.mapM fun x=>`(Lean.Parser.Tactic.simpLemma| $(Lean.mkIdent x.toName):ident)
 `(tactic| simp only [$ls,*,$a,*,$b,*])
set_option hygiene false in
local macro_rules | `(tactic| simp_arith! [$ls,*])=>do
 let a<-("jAF jVA jVD jPf jVC jVE jVG jU9 jPe jVB jPd jVF jU8 jVR jVY jVT jX9 jVW jVc jU6 jVb jVd jU7 jU4 jPc jYA jPj jVV jJr jPk jVa jVZ jJq jVX jVS jPl jUu jXx jXw jUv jVf jPm jJt jJu jVH jX0 jVL jVK jX1 jVJ jVI jPh G_s G_b G_o G_l G_m jX7 H_s H_b H_o Q_d Q_n Q_l J_d J_n J_l M_d K_d K_l O_n C_d C_n jLm jXh jXi N_0 N_1 N_2 N_3 N_4 N_5 N_6 N_7 N_9 jX6 jX5 jX4 jVN P_d P_l P_b jX2 jVP L_d L_l jVe jYB jXr jU2 jUx jUz jUy jU1 jU0 jXz jXe jXd jUa jUZ jUV jUT jXl jXm jXo jXn jUW jPZ jUU jRv jMn t_b a_b jXc jXb jTW x_l jW3 jVg jW5 jW4 x_s jXK jXg jXf w_l jXA jW9 jXB jSL jU3 jUB jB5 reduceIte".splitOn " ").toArray.mapM fun x=>`(Lean.Parser.Tactic.simpLemma| ↓ $(Lean.mkIdent x.toName):ident)
 let b<-("esc jGI jGf jOb T.isD lockA jEc lock kill jD6 Tg.ix jBZ jKb jGc jIe isMut jMG frzAt jRe jVn jEV.eq_1 jEV.eq_2 jLT.eq_1 jLT.eq_2 jLT.eq_3 jLT.eq_4 jPK jPJ jG3.eq_1 List.modify_succ_cons List.modify_zero_cons Option.map_some List.length_cons List.length_nil List.getElem?_cons_zero List.getElem?_cons_succ List.cons_append List.nil_append List.set_cons_zero List.set_cons_succ Nat.reduceAdd Nat.reduceSub Nat.zero_add Bool.and_true Bool.true_and Bool.not_true Bool.not_false Bool.or_true Bool.true_or Bool.or_false Bool.false_or Bool.and_false Bool.false_and if_true if_false Bool.false_eq_true true_and and_true false_implies ne_eq reduceCtorEq not_false_eq_true not_true_eq_false implies_true forall_const Int.reduceLT Int.reduceLE Int.reducePow Int.reduceNeg Nat.reducePow and_self eq_self Option.some.injEq Sl.own.injEq Sl.bor.injEq and_assoc decide_true decide_false".splitOn " ").toArray.mapM fun x=>`(Lean.Parser.Tactic.simpLemma| $(Lean.mkIdent x.toName):ident)
 `(tactic| simp -implicitDefEqProofs only [$ls,*,$a,*,$b,*])
namespace L2
open PySem PySem.Spec PyProof.Rows
theorem szL{n:Nat}(h:n<=16777216):n<=sizeLine:=by rw[QW];exact h
theorem szS{n:Nat}(h:n<16777216):n<sizeLine:=by rw[QW];exact h
theorem szA{n m:Nat}(h:n<=m)(k:m<=16777216):n<=sizeLine:=szL (QX h k)
theorem szB{n m:Nat}(h:n<=m)(k:m<16777216):n<sizeLine:=szS (QBR h k)
theorem szC{n m:Nat}(h:n<=m)(k:m<=16777216):0+n<=sizeLine:=by rw[QAD];exact szA h k
theorem unA{n k c m:Nat}(h:n+k<c)(l:m<=k):n+m<c:=QBR (Nat.add_le_add_left l n) h
theorem prA{m n:Nat}(h:m<n):n - 1<n:=by cases n with|zero=>exact(nomatch h)|succ n=>exact WL n
noncomputable abbrev Key:=Sum Int Str
noncomputable def jKC:Key->Value->Bool
 | .inl k,v=>Value.isInt k v
 | .inr x,v=>Value.isStrOf x v
noncomputable def jYo(w:World):Key->Int
 | .inl k=>hashInt k
 | .inr x=>hashStr w x
theorem jAR:∀{k:Key}{v:Value},jKC k v=true->(∃i t,k=Sum.inl i/\v=Value.int i t)∨(∃x t,k=Sum.inr x/\v=Value.str x t)
 | .inl i,v,h=>by
  obtain⟨t,e⟩:=Value.isInt_shape (k:=i) (v:=v) h;exact .inl ⟨i,t,rfl,e⟩
 | .inr x,v,h=>by
  obtain⟨t,e⟩:=QBF (x:=x) (v:=v) h;exact .inr ⟨x,t,rfl,e⟩
theorem jL9(i:Int)(t:Tok):jKC (.inl i) (.int i t)=true:=by simp[jKC,Value.isInt]
theorem jL8(x:Str)(t:Tok):jKC (.inr x) (.str x t)=true:=by simp[jKC,Value.isStrOf]
theorem jTq(a b:Int):decide ((Sum.inl a:Key)=Sum.inl b)=(a==b):=by
 by_cases e:a=b
 ·subst e;simp
 ·have h:¬ (Sum.inl a:Key)=Sum.inl b:=fun q=>e (Sum.inl.inj q)
  rw[dF h];exact(beq_eq_false_iff_ne.mpr e).symm
theorem jTn(a b:Str):decide ((Sum.inr a:Key)=Sum.inr b)=decide (a=b):=by
 by_cases e:a=b
 ·subst e;simp
 ·have h:¬ (Sum.inr a:Key)=Sum.inr b:=fun q=>e (Sum.inr.inj q)
  rw[dF h,dF e]
theorem jTp(a:Int)(b:Str):decide ((Sum.inl a:Key)=Sum.inr b)=false:=dF (fun q=>nomatch q)
theorem jTo(a:Str)(b:Int):decide ((Sum.inr a:Key)=Sum.inl b)=false:=dF (fun q=>nomatch q)
noncomputable def jAh(prog:Program)(w:World):PySem.KeyKind prog w Key where
 is:=jKC
 hash:=jYo w
 inj:=fun v a b ha hb=>by
  rcases jAR ha with⟨i,t,rfl,rfl⟩| ⟨x,t,rfl,rfl⟩
  ·rcases jAR hb with⟨j,u,rfl,e⟩| ⟨y,u,rfl,e⟩
   ·injection e with e1 _;rw[e1]
   ·exact nomatch e
  ·rcases jAR hb with⟨j,u,rfl,e⟩| ⟨y,u,rfl,e⟩
   ·exact nomatch e
   ·injection e with e1 _;rw[e1]
 byValue:=fun k v h=>by
  rcases jAR h with⟨i,t,rfl,rfl⟩| ⟨x,t,rfl,rfl⟩<;>rfl
 pyHash:=fun hv h=>by
  rcases jAR hv with⟨i,t,rfl,rfl⟩| ⟨x,t,rfl,rfl⟩
  ·exact wpAny_pyHash_int h
  ·exact wpAny_pyHash_str h
 eqBool:=fun hu hv h=>by
  rcases jAR hu with⟨i,t,rfl,rfl⟩| ⟨x,t,rfl,rfl⟩
  ·rcases jAR hv with⟨j,u,rfl,rfl⟩| ⟨y,u,rfl,rfl⟩
   ·rw[jTq]at h;exact wpAny_eqBool_int h
   ·rw[jTp]at h;exact QBS i t y u _ _ _ _ h
  ·rcases jAR hv with⟨j,u,rfl,rfl⟩| ⟨y,u,rfl,rfl⟩
   ·rw[jTo]at h;exact QBT x t j u _ _ _ _ h
   ·rw[jTn]at h;exact wpAny_eqBool_str h
 «strs»:=fun k x t v h=>by
  rcases jAR h with⟨i,u,rfl,e⟩| ⟨y,u,rfl,e⟩
  ·exact nomatch e
  ·injection e with e1 _
   subst e1;cases v<;>rfl
theorem jH6(prog:Program)(w:World)(i:Int)(t:Tok):(jAh prog w).is (.inl i) (.int i t)=true:=jL9 i t
theorem jH5(prog:Program)(w:World)(x:Str)(t:Tok):(jAh prog w).is (.inr x) (.str x t)=true:=jL8 x t
set_option genInjectivity true in
inductive V where
 |non|bl (b:Bool)|int (i:Int)|str (x:Str)|byt (b:Array UInt8)|flt (b:UInt64)|ref (a:Addr)|ty (n:String)
 deriving DecidableEq
noncomputable def jAm:V->Value->Prop
 | .non,u=>u=Value.none
 | .bl b,u=>u=Value.bool b
 | .int i,u=>∃t,u=Value.int i t
 | .str x,u=>∃t,u=Value.str x t
 | .byt b,u=>∃t,u=Value.bytes b t
 | .flt b,u=>∃t,u=Value.float b t
 | .ref a,u=>u=Value.ref a
 | .ty n,u=>u=Value.type n
noncomputable abbrev jAQ:List V->List Value->Prop:=Paired jAm
theorem jAQ.length{xs:List V}{us:List Value}(r:jAQ xs us):xs.length=us.length:=qS r
theorem jAQ.get:∀{xs:List V}{us:List Value}{i:Nat}{x:V},jAQ xs us->xs[i]?=some x->∃u,us[i]?=some u/\jAm x u
 |_,_,_,_,.nil,e=>by simp at e
 |_,_,0,_,.cons r _,e=>by simp at e;subst e;exact⟨_,rfl,r⟩
 |_,_,i+1,x,.cons _ t,e=>by
  obtain⟨u,h1,h2⟩:=jAQ.get (i:=i) (x:=x) t (by simpa using e);exact⟨u,by simpa using h1,h2⟩
theorem jAQ.set{x:V}{u:Value}(r:jAm x u):∀{xs:List V}{us:List Value}(i:Nat),jAQ xs us->jAQ (xs.set i x) (us.set i u)
 |_,_,_,.nil=>.nil
 |_,_,0,.cons _ t=>.cons r t
 |_,_,i+1,.cons q t=>.cons q (jAQ.set r i t)
theorem jAQ.append:∀{xs ys:List V}{us ws:List Value},jAQ xs us->jAQ ys ws->jAQ (xs++ys) (us++ws)
 |_,_,_,_,.nil,s=>s
 |_,_,_,_,.cons r t,s=>.cons r (jAQ.append t s)
theorem jAQ.take:∀{xs:List V}{us:List Value}(n:Nat),jAQ xs us->jAQ (xs.take n) (us.take n)
 |_,_,0,_=>.nil
 |_,_,_+1,.nil=>.nil
 |_,_,n+1,.cons r t=>.cons r (jAQ.take n t)
theorem jAQ.drop:∀{xs:List V}{us:List Value}(n:Nat),jAQ xs us->jAQ (xs.drop n) (us.drop n)
 |_,_,0,r=>r
 |_,_,_+1,.nil=>.nil
 |_,_,n+1,.cons _ t=>jAQ.drop n t
noncomputable def jPg:Option V->Option Value->Prop
 |some v,some u=>jAm v u
 |none,none=>True
 |_,_=>False
noncomputable def KV{κ:Type}:List (κ×V)->List (κ×Value)->Prop:=Paired fun(p:κ×V) (q:κ×Value)=>p.1=q.1/\jAm p.2 q.2
noncomputable def kV:Key->V
 | .inl i=>.int i
 | .inr x=>.str x
inductive HO where
 |lst (xs:List V)
 |tup (xs:List V)
 |dK (kvs:List (Key×V))|dT (ep:Nat) (kvs:List (List Key×Addr×V))
 |set (S:Int->Bool) (n:Nat)
 |ins (C dx:Addr) (fs:List (Str×V))
 |own (x:Addr)
 |xd (fs:List (Str×V))
 |met (f x:Addr)
 |rng (lo hi:Int)
 |frz (o:Obj) (u:HO)
 |tbl (ps:Array Value)
 |ext (φ:Heap->Prop)
noncomputable abbrev Hp:=Addr->Option HO
noncomputable def upd(H:Hp)(a:Addr)(o:HO):Hp:=fun b=>if b=a then some o else H b
theorem jAM{H:Hp}{a:Addr}{o:HO}:upd H a o a=some o:=by unfold upd;rw[if_pos rfl]
theorem jAD{H:Hp}{a b:Addr}{o:HO}(h:b≠a):upd H a o b=H b:=by unfold upd;rw[if_neg h]
theorem jPy{H:Hp}{a:Addr}{o u:HO}:upd (upd H a o) a u=upd H a u:=by
 funext b;unfold upd;split<;>rfl
theorem jAI{H:Hp}{a b:Addr}{o:HO}(h:H a=some o)(h':H b=none):a≠b:=by
 intro e;subst e;rw[h]at h';cases h'
section
variable(P:Program)(w:World)
noncomputable def jAk(H:Hp)(h:Heap)(a:Addr):HO->Prop
 | .lst xs=>xs.length<=sizeLine/\∃(its:List Value) (n:Nat),jAQ xs its/\h.get? a=some { cls:=.type "list",data:=.seq its.toArray n }
 | .tup xs=>xs.length<=sizeLine/\∃its:List Value,jAQ xs its/\IsTup h a its.toArray
 | .dK kvs=>kvs.length<=sizeLine/\(a==sysModules)=false/\∃vs,KV kvs vs/\h.DictOf (jAh P w) a vs
 | .dT ep kvs=>kvs.length<=sizeLine/\(a==sysModules)=false/\∃xs:List (List Key×Addr×Value),
   Paired (fun(p:List Key×Addr×V) (q:List Key×Addr×Value)=>p.1=q.1/\p.2.1=q.2.1/\jAm p.2.2 q.2.2) kvs xs /\
   ∃o es,h.get? a=some o/\o.ExactDict/\o.data=.dict es ep/\es.toList=xs.map (entryOfKey (tupleKind (jAh P w)))/\(xs.map (·.1)).Nodup
 | .set S n=>h.SetOf (intKind P w) a S n
 | .ins C dx fs=>H dx=some (.own a)/\fs.length<=1000/\dx≠a/\h.get? a=some (QAs C dx) /\
   ∃mA,h.Ns1 dx mA/\(∀f,jPg (fs.lookup f) (mA f))/\PySem.Within mA (fs.map (·.1))
 | .own _=>∃o,h.get? a=some o
 | .xd fs=>∃mA,h.Ns1 a mA/\∀f,jPg (fs.lookup f) (mA f)
 | .rng lo hi=>∃t u v,h.get? a=some { cls:=.type "range",data:=.fields #[.int lo t,.int hi u,.int 1 v] }
 | .frz o u=>h.get? a=some o/\jAk H h a u
 | .tbl ps=>h.get? a=some { cls:=.none,data:=.fields ps }
 | .met f x=>h.get? a=some (QAP (.ref f) (.ref x))
 | .ext φ=>φ h/\(∃o,h.get? a=some o)/\∀h1 h2:Heap,φ h1->(∀o,h1.get? a=some o->h2.get? a=some o)->φ h2
def HOk(H:Hp)(h:Heap):Prop:=∀a o,H a=some o->jAk P w H h a o
end
section
variable{P:Program}{w:World}{H H':Hp}{h h':Heap}{a:Addr}{o:HO}
theorem jAk.lt(x:jAk P w H h a o):a<h.objs.size:=by
 cases o with
 |lst xs=>obtain⟨_,_,_,_,e⟩:=x;exact QO e
 |tup xs=>obtain⟨_,_,_,p⟩:=x;exact p.lt
 |dK kvs=>obtain⟨_,_,_,_,o,_,_,e,_⟩:=x;exact QO e
 |dT ep kvs=>obtain⟨_,_,_,_,o,_,e,_⟩:=x;exact QO e
 |set S n=>obtain⟨o,_,_,_,e,_⟩:=x;exact QO e
 |ins C dx fs=>obtain⟨_,_,_,e,_⟩:=x;exact QO e
 |own y=>obtain⟨_,e⟩:=x;exact QO e
 |xd fs=>obtain⟨_,⟨_,_,_,e,_⟩,_⟩:=x;exact QO e
 |rng lo hi=>obtain⟨_,_,_,e⟩:=x;exact QO e
 |frz ob u=>obtain⟨e,_⟩:=x;exact QO e
 |tbl ps=>exact QO (show h.get? a=some _ from x)
 |met f y=>exact QO (show h.get? a=some _ from x)
 |ext φ=>obtain⟨_,⟨_,e⟩,_⟩:=x;exact QO e
theorem jAk.stay(x:jAk P w H h a o)(k:∀b u,(b=a∨H b=some (.own a))->h.get? b=some u->h'.get? b=some u)
  (ho:∀b,H b=some (.own a)->H' b=some (.own a)) (ht:∀b xs,H b=some (.tup xs)->H' b=some (.tup xs)):jAk P w H' h' a o:=by
 induction o with
 |lst xs=>obtain⟨z,its,n,r,e⟩:=x;exact⟨z,its,n,r,k _ _ (.inl rfl) e⟩
 |tup xs=>obtain⟨z,its,r,ob,e,c⟩:=x;exact⟨z,its,r,ob,k _ _ (.inl rfl) e,c⟩
 |dK kvs=>obtain⟨z,y,vs,r,ob,es,ep,e,c⟩:=x;exact⟨z,y,vs,r,ob,es,ep,k _ _ (.inl rfl) e,c⟩
 |dT ep kvs =>
  obtain⟨z,y,xs,r,ob,es,e,c⟩:=x;exact⟨z,y,xs,r,ob,es,k _ _ (.inl rfl) e,c⟩
 |set S n=>obtain⟨ob,es,ep,t,e,c⟩:=x;exact⟨ob,es,ep,t,k _ _ (.inl rfl) e,c⟩
 |ins C dx fs =>
  obtain⟨d,z,ne,e,mA,⟨od,es,ep,e2,c⟩,r⟩:=x;exact⟨ho _ d,z,ne,k _ _ (.inl rfl) e,mA,⟨od,es,ep,k _ _ (.inr d) e2,c⟩,r⟩
 |own y=>obtain⟨ob,e⟩:=x;exact⟨ob,k _ _ (.inl rfl) e⟩
 |xd fs=>obtain⟨mA,⟨od,es,ep,e,c⟩,r⟩:=x;exact⟨mA,⟨od,es,ep,k _ _ (.inl rfl) e,c⟩,r⟩
 |rng lo hi=>obtain⟨t,u,v,e⟩:=x;exact⟨t,u,v,k _ _ (.inl rfl) e⟩
 |frz ob u ih=>obtain⟨e,q⟩:=x;exact⟨k _ _ (.inl rfl) e,ih q⟩
 |tbl ps =>
  have e:h.get? a=some { cls:=.none,data:=.fields ps }:=x;show h'.get? a=some { cls:=.none,data:=.fields ps };exact k a _ (.inl rfl) e
 |met f y =>
  have e:h.get? a=some (QAP (.ref f) (.ref y)):=x;show h'.get? a=some (QAP (.ref f) (.ref y));exact k a _ (.inl rfl) e
 |ext φ=>obtain⟨p,⟨o,e⟩,st⟩:=x;exact⟨st _ _ p fun o q=>k _ _ (.inl rfl) q,⟨o,k _ _ (.inl rfl) e⟩,st⟩
theorem HOk.lt(x:HOk P w H h)(e:H a=some o):a<h.objs.size:=(x a o e).lt
theorem HOk.fresh(x:HOk P w H h)(e:h.objs.size<=a):H a=none:=by
 cases q:H a with
 |none=>rfl
 |some u=>exact absurd (Qo (x.lt q) e) (wC _)
theorem HOk.kept(x:HOk P w H h)(k:∀b u,h.get? b=some u->h'.get? b=some u):HOk P w H h':=fun a o e =>
 (x a o e).stay (fun b u _ q=>k b u q) (fun _ q=>q) fun _ _ q=>q
theorem HOk.laid(x:HOk P w H h)(k:∀b u,h.get? b=some u->h'.get? b=some u)(hp:h.objs.size<=a)(new:jAk P w (upd H a o) h' a o):HOk P w (upd H a o) h':=fun b u e=>by
 have hn:=x.fresh hp;by_cases hb:b=a
 ·subst hb;rw[jAM]at e;cases e;exact new
 ·rw[jAD hb]at e
  exact(x b u e).stay (fun c v _ q=>k c v q) (fun c q=>by rw[jAD (jAI q hn)];exact q) fun c xs q=>by rw[jAD (jAI q hn)];exact q
end
def Rd(H:Hp)(a:Addr)(u:HO):Prop:=H a=some u∨∃o,H a=some (.frz o u)
theorem Rd.ok{P:Program}{w:World}{H:Hp}{h:Heap}{a:Addr}{u:HO}(r:Rd H a u)(x:HOk P w H h):jAk P w H h a u:=by
 rcases r with r|⟨o,r⟩
 ·exact x a u r
 ·obtain⟨_,q⟩:=x a _ r
  exact q
noncomputable def Mut:Option HO->Prop
 |some (.lst _)=>True
 |some (.dK _)=>True
 |some (.dT _ _)=>True
 |some (.set _ _)=>True
 |some (.ins _ _ _)=>True
 |some (.ext _)=>True
 |_=>False
section
variable{P:Program}{w:World}{H:Hp}{h h':Heap}{x e:Addr}{o':HO}
theorem HOk.write(ok:HOk P w H h)(mu:Mut (H x))(he:e=x∨H e=some (.own x))(k:∀b u,b≠e->h.get? b=some u->h'.get? b=some u)(heo:∃u,h'.get? e=some u)
  (new:jAk P w (upd H x o') h' x o'):HOk P w (upd H x o') h':=fun b u q=>by
 have nown:∀c y,H c=some (.own y)->c≠x:=fun c y r z=>by subst z;rw[r]at mu;exact mu
 have ntup:∀c xs,H c=some (.tup xs)->c≠x:=fun c xs r z=>by subst z;rw[r]at mu;exact mu
 by_cases hb:b=x
 ·subst hb;rw[jAM]at q;cases q;exact new
 ·rw[jAD hb]at q
  by_cases hbe:b=e
  ·have q':H b=some (.own x):=by
    rcases he with z|z
    ·exact absurd (hbe.trans z) hb
    ·rw[hbe];exact z
   rw[q]at q';cases q';obtain⟨v,hv⟩:=heo;exact⟨v,by rw[hbe];exact hv⟩
  ·refine(ok b u q).stay (fun c v hc r=>k c v ?_ r) (fun c r=>by rw[jAD (nown c b r)];exact r) fun c xs r=>by rw[jAD (ntup c xs r)];exact r
   rcases hc with rfl|hc
   ·exact hbe
   ·rintro rfl
    rcases he with z|z
    ·exact nown c b hc z
    ·rw[hc]at z;cases z;exact hb rfl
end
structure Un(fs ex:List Addr)(H H':Hp)(h h':Heap):Prop where
 keep:∀b o,h.get? b=some o->H b=none->b∉fs->b∉ex->h'.get? b=some o
 slot:∀b o,h.get? b=some o->H b=none->b∈fs->b∉ex->∃sl,h'.get? b=some { o with slots:=sl }
 free:∀b o,h.get? b=some o->H b=none->b∉ex->H' b=none
 there:∀b o,h.get? b=some o->b∉ex->∃o',h'.get? b=some o'
 tups:∀b xs,H b=some (.tup xs)->H' b=some (.tup xs)
 frzs:∀b o u,H b=some (.frz o u)->H' b=some (.frz o u)
 tbls:∀b ps,H b=some (.tbl ps)->∃more,H' b=some (.tbl (ps++more))
section
variable{fs fs' ex ex':List Addr}{H H1 H2:Hp}{h h1 h2 h':Heap}{a x e:Addr}{o:HO}
theorem Un.any(u:Un fs ex H H1 h h1){b:Addr}{ob:Obj}(q:h.get? b=some ob)(n:H b=none)(hx:b∉ex):∃sl,h1.get? b=some { ob with slots:=sl }:=by
 by_cases hb:b∈fs
 ·exact u.slot b ob q n hb hx
 ·exact⟨ob.slots,u.keep b ob q n hb hx⟩
theorem Un.kept(k:∀b u,h.get? b=some u->h'.get? b=some u):Un fs ex H H h h' :=
 ⟨fun b ob q _ _ _=>k b ob q,fun b ob q _ _ _=>⟨ob.slots,k b ob q⟩,fun _ _ _ n _=>n,fun b ob q _=>⟨ob,k b ob q⟩,fun _ _ q=>q,fun _ _ _ q=>q,fun _ ps q=>⟨#[],by rw[q];simp⟩⟩
theorem Un.refl:Un fs ex H H h h:=Un.kept fun _ _ q=>q
theorem Un.laid(k:∀b u,h.get? b=some u->h'.get? b=some u)(hp:h.objs.size<=a)(hn:H a=none):Un fs ex H (upd H a o) h h' where
 keep:=fun b u q _ _ _=>k b u q
 slot:=fun b u q _ _ _=>⟨u.slots,k b u q⟩
 free:=fun b u q n _=>by rw[jAD (Qc (Qo (QO q) hp))];exact n
 there:=fun b u q _=>⟨u,k b u q⟩
 tups:=fun b xs q=>by rw[jAD (jAI q hn)];exact q
 frzs:=fun b u xs q=>by rw[jAD (jAI q hn)];exact q
 tbls:=fun b ps q=>⟨#[],by rw[jAD (jAI q hn),q];simp⟩
theorem Un.write(mu:Mut (H x))(he:e=x∨H e=some (.own x))(k:∀b u,b≠e->h.get? b=some u->h'.get? b=some u)(heo:∃u,h'.get? e=some u):Un fs ex H (upd H x o) h h':=by
 have hx:∀b,H b=none->b≠x:=fun b n z=>by subst z;rw[n]at mu;exact mu
 have hb:∀b,H b=none->b≠e:=fun b n z=>by
  subst z;rcases he with r|r
  ·exact hx b n r
  ·rw[n]at r;cases r
 have hm:∀b u,H b=some u->¬ Mut (some u)->b≠x:=fun b u q nm z=>by subst z;rw[q]at mu;exact nm mu
 refine⟨fun b u q n _ _=>k b u (hb b n) q,fun b u q n _ _=>⟨u.slots,k b u (hb b n) q⟩,fun b u q n _=>by rw[jAD (hx b n)];exact n,fun b u q _=>?_,
  fun b xs q=>by rw[jAD (hm b _ q fun z=>z)];exact q,fun b u xs q=>by rw[jAD (hm b _ q fun z=>z)];exact q,fun b ps q=>⟨#[],by rw[jAD (hm b _ q fun z=>z),q];simp⟩⟩
 by_cases hbe:b=e
 ·subst hbe;exact heo
 ·exact⟨u,k b u hbe q⟩
end
noncomputable def trk(h:Heap)(H:Hp):List Addr:=(qE h.objs.size).filter fun a=>(H a).isSome
noncomputable def jOE(h:Heap)(H:Hp):Heap:=PySem.W.hideAll h (trk h H)
theorem jMJ(h:Heap)(H:Hp):(jOE h H).objs.size=h.objs.size:=PySem.W.hideAll_size _ _
theorem jOD{h:Heap}{H:Hp}{b:Addr}{o:Obj}(e:h.get? b=some o)(n:H b=none):(jOE h H).get? b=some o :=
 PySem.W.hideAll_get _ e fun hm=>by
  have q:(H b).isSome=true:=(Qj.mp hm).2;rw[n]at q;simp at q
theorem jQz{h:Heap}{H:Hp}{b:Addr}{o:Obj}(e:(jOE h H).get? b=some o):h.get? b=some o/\H b=none:=by
 have e':h.get? b=some o:=PySem.W.of_hideAll (trk h H) e;refine⟨e',?_⟩;cases q:H b with
 |none=>rfl
 |some x =>
  have hm:b∈trk h H:=Qj.mpr ⟨Wh.mpr (QO e'),by simp[q]⟩;have z:(jOE h H).get? b=none:=PySem.W.hideAll_none (trk h H) hm;rw[z]at e;cases e
structure Mod(K:QD)(mg:Str->Option Value)(base:Heap):Prop where
 kin:K.In base
 glob:base.Ns mainGlobals mg
 blt:∃mb,base.Ns builtinsNs mb/\∀x:Str,x≠"__name__"->mb x=bootBuiltins x
 nolimit:base.NoLimit
structure Cx where
 prog:Program
 w:World
 K:QD
 mg:Str->Option Value
 base:Heap
 A:Around
 N:List Str
 s₀:Shared
 H₀:Hp
 env:Env
 outer:List Env
 stack:List Env
 ex:List Addr
 fn:Str->Bool
 calm:Bool
 pn:LAO
 xe:Value->Shared->Prop
noncomputable def frs(l:List Env):List Addr:=l.filterMap (·.frame)
noncomputable abbrev Cx.fs(X:Cx):List Addr:=frs X.outer
def Vis(sc:Scope)(x:Str):Prop:=sc.names.lookup x=some .local∨sc.names.lookup x=some .cell∨sc.names.lookup x=some .free
def Loc(sc:Scope)(x:Str):Prop:=sc.names.lookup x=some .local∨sc.names.lookup x=some .cell
def jZC(env:Env)(h:Heap)(m:Str->Option Value)(x:Str)(u:Value):Prop :=
 (env.kindOf x=some .local/\m x=some u)∨((env.kindOf x=some .cell∨env.kindOf x=some .free)/\∃c,env.cells.lookup x=some c/\h.IsCell c (some u))
structure Cx.Ok(X:Cx):Prop where
 mod:Mod X.K X.mg X.base
 kind:X.env.scope.kind=.function
 glob:X.env.globals=mainGlobals
 blt:X.env.builtins=builtinsNs
 above:X.s₀.heap.objs.size<=X.env.locals
 inj:∀x y c,X.env.cells.lookup x=some c->X.env.cells.lookup y=some c->x=y
 has:∀x,(X.env.kindOf x=some .cell∨X.env.kindOf x=some .free)->∃c,X.env.cells.lookup x=some c
 cab:∀x c,X.fn x=true->X.env.cells.lookup x=some c->X.s₀.heap.objs.size<=c
 hd:X.calm=true->X.A.handled=none
 frames:X.A.frames=some X.stack
 stk:X.stack=X.outer∨(X.stack=X.env::X.outer/\X.env.frame=some X.env.locals)
 exf:∀b∈X.ex,b≠X.env.locals/\∀x c,X.env.cells.lookup x=some c->c≠b
 bs:∀b o,X.base.get? b=some o->X.s₀.heap.get? b=some o/\X.H₀ b=none
 bsz:X.base.objs.size<=X.s₀.heap.objs.size
 noex:∀b o,X.base.get? b=some o->b∉X.ex
 exfs:∀b∈X.ex,b∉X.fs
 funs:X.s₀.heap.FunFrames X.base X.outer
 frf:∀b∈X.fs,X.H₀ b=none
structure Inv(X:Cx)(pins:LAO)(σ:List (Option V))(H:Hp)(s:Shared):Prop where
 ok:X.Ok
 os:s.os=X.s₀.os
 bare:AllBare s.gens
 base:Un X.fs X.ex X.H₀ H X.s₀.heap s.heap
 loc:∃m,s.heap.Ns X.env.locals m/\∀(i:Nat) (x:Str) (v:V),X.N[i]?=some x->σ[i]?=some (some v)->Vis X.env.scope x->∃u,jAm v u/\jZC X.env s.heap m x u
 cell:∀x c,X.env.cells.lookup x=some c->∃v,s.heap.IsCell c v
 free:H X.env.locals=none
 freeC:∀x c,X.env.cells.lookup x=some c->H c=none
 pin:∀p∈X.pn++pins,s.heap.get? p.1=some p.2/\H p.1=none/\p.1≠X.env.locals/\p.1∉X.fs/\∀v,p.2.data≠.cell v
 hok:HOk X.prog X.w H s.heap
 len:σ.length=X.N.length
section
variable{X:Cx}{pins:LAO}{σ:List (Option V)}{H H':Hp}{s:Shared}{h':Heap}
theorem Cx.Ok.nofr(ok:X.Ok){b:Addr}{o:Obj}(e:X.base.get? b=some o):b∉X.fs:=fun hb=>by
 have:=(ok.funs.mem hb).1;rw[e]at this;cases this
theorem Inv.bs(I:Inv X pins σ H s):∀b o,X.base.get? b=some o->s.heap.get? b=some o/\H b=none:=fun b o e =>
 ⟨I.base.keep b o (I.ok.bs b o e).1 (I.ok.bs b o e).2 (I.ok.nofr e) (I.ok.noex b o e),I.base.free b o (I.ok.bs b o e).1 (I.ok.bs b o e).2 (I.ok.noex b o e)⟩
theorem Inv.bk(I:Inv X pins σ H s):∀b o,X.base.get? b=some o->s.heap.get? b=some o:=fun b o e=>(I.bs b o e).1
theorem Inv.mod(I:Inv X pins σ H s):Mod X.K X.mg X.base:=I.ok.mod
theorem Inv.kIn(I:Inv X pins σ H s):X.K.In s.heap:=I.ok.mod.kin.keeps I.bk
theorem Inv.lt(I:Inv X pins σ H s):X.env.locals<s.heap.objs.size:=let⟨_,hn,_⟩:=I.loc;hn.lt
theorem Inv.sz(I:Inv X pins σ H s):X.s₀.heap.objs.size<=s.heap.objs.size:=QX I.ok.above (QAE I.lt)
theorem Inv.nofs(I:Inv X pins σ H s){a:Addr}(h:s.heap.objs.size<=a):a∉X.fs:=fun hb=>by
 obtain⟨_,o,ho,_⟩:=I.ok.funs.mem hb;exact absurd (Qo (QO ho) (QX I.sz h)) (wC _)
theorem Inv.cne(I:Inv X pins σ H s):∀x c,X.env.cells.lookup x=some c->c≠X.env.locals:=fun x c e z=>by
 obtain⟨v,o,ho,hd⟩:=I.cell x c e;obtain⟨m,⟨o',es,ep,ho',hd',_⟩,_⟩:=I.loc;rw[z,ho']at ho;cases ho;rw[hd']at hd;cases hd
theorem Inv.funs(I:Inv X pins σ H s):s.heap.FunFrames X.base X.outer:=by
 have all:∀(l:List Env),(∀b∈frs l,b∈X.fs)->X.s₀.heap.FunFrames X.base l->s.heap.FunFrames X.base l:=by
  intro l
  induction l with
  |nil=>intro _ _;trivial
  |cons env r ih =>
   intro hs hl;obtain⟨hk,⟨L,o,hf,hn,ho,hd⟩,hr⟩:=hl;have hL:L∈X.fs:=hs L (by unfold frs;rw[WO,hf];exact QF);obtain⟨sl,e⟩:=I.base.slot L o ho (I.ok.frf L hL) hL fun z=>I.ok.exfs L z hL;exact⟨hk,⟨L,_,hf,hn,e,hd⟩,ih (fun b hb=>hs b (by unfold frs;rw[WO,hf];exact QE _ hb)) hr⟩
 exact all X.outer (fun _ hb=>hb) I.ok.funs
theorem Inv.stack(I:Inv X pins σ H s):s.heap.FunFrames X.base X.stack:=by
 rcases I.ok.stk with e|⟨e,hf⟩
 ·rw[e];exact I.funs
 ·rw[e]
  obtain⟨m,hn,_⟩:=I.loc;refine .cons (by rw[I.ok.kind];decide) hf hn ?_ I.funs;exact Heap.get?_none_of_le (QX I.ok.bsz I.ok.above)
theorem Inv.stkSub(I:Inv X pins σ H s):∀b∈frs X.stack,b∈X.env.locals::X.fs:=fun b hb=>by
 rcases I.ok.stk with e|⟨e,hf⟩
 ·rw[e]at hb;exact QE _ hb
 ·rw[e]at hb
  unfold frs at hb;rw[WO,hf]at hb;exact hb
theorem Inv.stkFree(I:Inv X pins σ H s):∀b∈frs X.stack,H b=none:=fun b hb=>by
 rcases QK.mp (I.stkSub b hb) with e|hb
 ·rw[e];exact I.free
 ·obtain⟨_,o,ho,_⟩:=I.ok.funs.mem hb
  exact I.base.free b o ho (I.ok.frf b hb) fun z=>I.ok.exfs b z hb
theorem Inv.step{g':Array GenState}{t':Nat}{d':Drawn}{ch:List Addr}(I:Inv X pins σ H s)
  (hch:∀b∈ch,(b∈X.ex∨X.s₀.heap.objs.size<=b)/\b≠X.env.locals/\(∀x c,X.env.cells.lookup x=some c->c≠b)/\∀p∈X.pn++pins,p.1≠b)
  (keep:∀b o,b≠X.env.locals->b∉X.fs->b∉ch->s.heap.get? b=some o->H b=none->h'.get? b=some o)
  (slot:∀b o,b≠X.env.locals->b∈X.fs->b∉ch->s.heap.get? b=some o->H b=none->∃sl,h'.get? b=some { o with slots:=sl }) (free:∀b o,b∉ch->s.heap.get? b=some o->H b=none->H' b=none)
  (there:∀b o,b∉ch->s.heap.get? b=some o->∃o',h'.get? b=some o')
  (tups:∀b xs,H b=some (.tup xs)->H' b=some (.tup xs)) (frzs:∀b o u,H b=some (.frz o u)->H' b=some (.frz o u)) (tbls:∀b ps,H b=some (.tbl ps)->∃more,H' b=some (.tbl (ps++more)))
  (ns:∀m,s.heap.Ns X.env.locals m->h'.Ns X.env.locals m) (hok:HOk X.prog X.w H' h') (hg:AllBare g') :
  Inv X pins σ H' { s with heap:=h',gens:=g',drawn:=d',toks:=t' }:=by
 have neL:∀b o,X.s₀.heap.get? b=some o->b≠X.env.locals:=fun b o e=>Qc (Qo (QO e) I.ok.above);have neC:∀b o,X.s₀.heap.get? b=some o->b∉X.ex->b∉ch:=fun b o e hx hb=>by
  rcases(hch b hb).1 with z|z
  ·exact hx z
  ·exact absurd (Qo (QO e) z) (wC _)
 have cellK:∀x c,X.env.cells.lookup x=some c->∀v,s.heap.IsCell c v->h'.IsCell c v:=fun x c e v ⟨o,ho,hd⟩=>by
  have nch:c∉ch:=fun z=>(hch c z).2.2.1 x c e rfl;by_cases hc:c∈X.fs
  ·obtain⟨sl,q⟩:=slot c o (I.cne x c e) hc nch ho (I.freeC x c e)
   exact⟨_,q,hd⟩
  ·exact⟨o,keep c o (I.cne x c e) hc nch ho (I.freeC x c e),hd⟩
 refine⟨I.ok,I.os,hg,⟨fun b o e n hb hx=>?_,fun b o e n hb hx=>?_,fun b o e n hx=>?_,fun b o e hx=>?_,fun b xs e=>tups b xs (I.base.tups b xs e),fun b o xs e=>frzs b o xs (I.base.frzs b o xs e),fun b ps e=>?_⟩,?_,fun x c e=>?_,?_,fun x c e=>?_,fun p hp=>?_,hok,I.len⟩
 ·exact keep b o (neL b o e) hb (neC b o e hx) (I.base.keep b o e n hb hx) (I.base.free b o e n hx)
 ·obtain⟨sl,e1⟩:=I.base.slot b o e n hb hx
  obtain⟨sl',e2⟩:=slot b _ (neL b o e) hb (neC b o e hx) e1 (I.base.free b o e n hx);exact⟨sl',e2⟩
 ·obtain⟨o',e1⟩:=I.base.there b o e hx
  exact free b o' (neC b o e hx) e1 (I.base.free b o e n hx)
 ·obtain⟨o',e1⟩:=I.base.there b o e hx
  exact there b o' (neC b o e hx) e1
 ·obtain⟨m1,e1⟩:=I.base.tbls b ps e
  obtain⟨m2,e2⟩:=tbls b _ e1;exact⟨m1++m2,by rw[e2,Array.append_assoc]⟩
 ·obtain⟨m,hn,hl⟩:=I.loc
  refine⟨m,ns m hn,fun i x v e1 e2 e3=>?_⟩;obtain⟨u,r,l⟩:=hl i x v e1 e2 e3;refine⟨u,r,?_⟩;rcases l with l|⟨k,c,e,z⟩
  ·exact .inl l
  ·exact .inr ⟨k,c,e,cellK x c e _ z⟩
 ·obtain⟨v,z⟩:=I.cell x c e
  exact⟨v,cellK x c e v z⟩
 ·obtain⟨m,⟨o,_,_,ho,_⟩,_⟩:=I.loc
  exact free _ o (fun z=>(hch _ z).2.1 rfl) ho I.free
 ·obtain⟨v,o,ho,hd⟩:=I.cell x c e
  exact free c o (fun z=>(hch c z).2.2.1 x c e rfl) ho (I.freeC x c e)
 ·obtain⟨e,n,ne,nf,d⟩:=I.pin p hp
  have nch:p.1∉ch:=fun z=>(hch p.1 z).2.2.2 p hp rfl;exact⟨keep p.1 p.2 ne nf nch e n,free p.1 p.2 nch e n,ne,nf,d⟩
theorem Inv.un{t':Nat}(I:Inv X pins σ H s)(u:Un X.fs [] H H' s.heap h')(hok:HOk X.prog X.w H' h'):Inv X pins σ H' { s with heap:=h',toks:=t' }:=by
 obtain⟨m,⟨o,es,ep,ho,r⟩,_⟩:=id I.loc;obtain⟨sl,hL⟩:=u.any ho I.free (by simp);exact I.step (g':=s.gens) (d':=s.drawn) (ch:=[]) (fun _ z=>nomatch z) (fun b o _ hb _ e n=>u.keep b o e n hb (by simp)) (fun b o _ hb _ e n=>u.slot b o e n hb (by simp)) (fun b o _ e n=>u.free b o e n (by simp)) (fun b o _ e=>u.there b o e (by simp)) u.tups u.frzs u.tbls (fun m' hm=>by
  obtain⟨o',es',ep',ho',r'⟩:=hm;rw[ho]at ho';cases ho';exact⟨_,es',ep',hL,r'⟩) hok I.bare
theorem Inv.call{g':Array GenState}{t':Nat}{d':Drawn}{ch:List Addr}(I:Inv X pins σ H s)(u:Un (frs X.stack) ch H H' s.heap h')(hok:HOk X.prog X.w H' h')(hg:AllBare g')
  (hch:∀b∈ch,(b∈X.ex∨X.s₀.heap.objs.size<=b)/\b≠X.env.locals/\(∀x c,X.env.cells.lookup x=some c->c≠b)/\∀p∈X.pn++pins,p.1≠b) :
  Inv X pins σ H' { s with heap:=h',gens:=g',drawn:=d',toks:=t' }:=by
 obtain⟨m,⟨o,es,ep,ho,r⟩,_⟩:=id I.loc;obtain⟨sl,hL⟩:=u.any ho I.free fun z=>(hch _ z).2.1 rfl;exact I.step (ch:=ch) hch (fun b o hL hb hc e n=>u.keep b o e n (fun z=>(QK.mp (I.stkSub b z)).elim hL hb) hc) (fun b o _ _ hc e n=>u.any e n hc) (fun b o hc e n=>u.free b o e n hc) (fun b o hc e=>u.there b o e hc) u.tups u.frzs u.tbls (fun m' hm=>by
  obtain⟨o',es',ep',ho',r'⟩:=hm;rw[ho]at ho';cases ho';exact⟨_,es',ep',hL,r'⟩) hok hg
theorem Inv.turned{t':Nat}{it:Addr}(I:Inv X pins σ H s)(k:∀b o,b≠it->s.heap.get? b=some o->h'.get? b=some o)(hn:H it=none)(hL:it≠X.env.locals)
  (h1:it∈X.ex∨X.s₀.heap.objs.size<=it) (h2:∀x c,X.env.cells.lookup x=some c->c≠it) (h3:∀p∈X.pn++pins,p.1≠it):Inv X pins σ H { s with heap:=h',toks:=t' }:=by
 have nit:∀b u,H b=some u->b≠it:=fun b u e z=>by rw[z,hn]at e;cases e
 refine I.step (g':=s.gens) (d':=s.drawn) (ch:=[it]) (fun b hb=>?_) (fun b o _ _ hc e _=>k b o (fun z=>hc (by simp[z])) e) (fun b o _ _ hc e _=>⟨o.slots,k b o (fun z=>hc (by simp[z])) e⟩) (fun _ _ _ _ n=>n)
  (fun b o hc e=>⟨o,k b o (fun z=>hc (by simp[z])) e⟩) (fun _ _ e=>e) (fun _ _ _ e=>e) (fun b ps e=>⟨#[],by rw[e];simp⟩) (fun m hm=>?_) (fun b u e=>?_) I.bare
 ·have e:b=it:=by simpa using hb
  subst e;exact⟨h1,hL,h2,h3⟩
 ·obtain⟨o,es,ep,ho,r⟩:=hm
  exact⟨o,es,ep,k _ o (Q2 hL) ho,r⟩
 ·refine(I.hok b u e).stay (fun c v hc q=>k c v ?_ q) (fun _ q=>q) fun _ _ q=>q
  rcases hc with z|z
  ·rw[z];exact nit b u e
  ·exact nit c _ z
theorem Inv.tok(I:Inv X pins σ H s)(t:Nat):Inv X pins σ H { s with toks:=t }:=I.un (h':=s.heap) (t':=t) Un.refl I.hok
theorem Inv.kept{t':Nat}(I:Inv X pins σ H s)(k:∀b u,s.heap.get? b=some u->h'.get? b=some u):Inv X pins σ H { s with heap:=h',toks:=t' }:=I.un (Un.kept k) (I.hok.kept k)
theorem Inv.laid{a:Addr}{o:HO}{t':Nat}(I:Inv X pins σ H s)(k:∀b u,s.heap.get? b=some u->h'.get? b=some u)(hp:s.heap.objs.size<=a)(new:jAk X.prog X.w (upd H a o) h' a o) :
  Inv X pins σ (upd H a o) { s with heap:=h',toks:=t' }:=I.un (Un.laid k hp (I.hok.fresh hp)) (I.hok.laid k hp new)
theorem Inv.write{x e:Addr}{o:HO}{t':Nat}(I:Inv X pins σ H s)(mu:Mut (H x))(he:e=x∨H e=some (.own x))(k:∀b u,b≠e->s.heap.get? b=some u->h'.get? b=some u)(heo:∃u,h'.get? e=some u)
  (new:jAk X.prog X.w (upd H x o) h' x o):Inv X pins σ (upd H x o) { s with heap:=h',toks:=t' }:=I.un (Un.write mu he k heo) (I.hok.write mu he k heo new)
theorem Inv.pins_of{pins':LAO}(I:Inv X pins σ H s)(h:∀p∈pins',s.heap.get? p.1=some p.2/\H p.1=none/\p.1≠X.env.locals/\p.1∉X.fs/\∀v,p.2.data≠.cell v):Inv X pins' σ H s :=
 ⟨I.ok,I.os,I.bare,I.base,I.loc,I.cell,I.free,I.freeC,fun p hp=>(Qd.mp hp).elim (fun z=>I.pin p (Qk _ z)) (h p),I.hok,I.len⟩
theorem jI7{N:List Str}(hN:N.Nodup){i j:Nat}{x:Str}(a:N[i]?=some x)(b:N[j]?=some x):i=j:=by
 obtain⟨h1,e1⟩:=Qa.mp a;obtain⟨h2,e2⟩:=Qa.mp b;exact(List.getElem_inj hN).mp (e1.trans e2.symm)
theorem jGh{M:Model}{A:Around}{E:VSP}{i:Nat}{x:Str}{v:V}{u:Value}{Q:Unit->Shared->Prop}(I:Inv X pins σ H s)(hN:X.N.Nodup)(hi:X.N[i]?=some x)(hx:Loc X.env.scope x)(r:jAm v u)
  (h:∀s',Inv X pins (σ.set i (some v)) H s'->(∃a,qP a s.heap s'.heap/\(a=X.env.locals∨X.env.cells.lookup x=some a))->Q () s') (hf:X.fn x=true∨X.env.scope.names.lookup x=some .local):wpAny M A (storeName X.env x u) Q E s:=by
 obtain⟨m,hn,hl⟩:=id I.loc;have hcls:(X.env.scope.kind==.class||(X.env.scope.kind==.module&&X.env.locals != X.env.globals))=false:=by rw[I.ok.kind];rfl
 have hiσ:i<σ.length:=by rw[I.len];exact(Qa.mp hi).1
 have cne:=I.cne;have tracked:∀{a:Addr}{h':Heap},(∃o,s.heap.get? a=some o/\H a=none)->qP a s.heap h'->HOk X.prog X.w H h':=fun {a h'} ha hs b ob e=>by
  obtain⟨_,_,hfree⟩:=ha;refine(I.hok b ob e).stay (fun c w' hc q=>(hs.2 c ?_).trans q) (fun _ q=>q) fun _ _ q=>q;rintro rfl;rcases hc with rfl|hc
  ·rw[hfree]at e;cases e
  ·rw[hfree]at hc;cases hc
 rcases hx with hk|hk
 ·refine wpAny_storeName_local hk hn (fun h' hn' hs=>?_) hcls
  obtain⟨oL,_,_,hoL,_⟩:=id hn;refine h _ ⟨I.ok,I.os,I.bare,⟨fun b o e n hb hx=>?_,fun b o e n hb hx=>?_,I.base.free,fun b o e hx=>?_,I.base.tups,I.base.frzs,I.base.tbls⟩,⟨_,hn',fun j y v' e1 e2 e3=>?_⟩,fun y c e=>?_,I.free,I.freeC,fun p hp=>?_,tracked ⟨oL,hoL,I.free⟩ hs,by simpa using I.len⟩ ⟨_,hs,.inl rfl⟩
  ·exact(hs.2 b (Qc (Qo (QO e) I.ok.above))).trans (I.base.keep b o e n hb hx)
  ·obtain⟨sl,e1⟩:=I.base.slot b o e n hb hx
   exact⟨sl,(hs.2 b (Qc (Qo (QO e) I.ok.above))).trans e1⟩
  ·obtain⟨o',e1⟩:=I.base.there b o e hx
   exact⟨o',(hs.2 b (Qc (Qo (QO e) I.ok.above))).trans e1⟩
  ·by_cases hj:j=i
   ·subst hj
    rw[hi]at e1;cases e1;rw[qk hiσ]at e2;cases e2;exact⟨u,r,.inl ⟨hk,by simp⟩⟩
   ·rw[qU (Q2 hj)]at e2
    obtain⟨u',r',q⟩:=hl j y v' e1 e2 e3;refine⟨u',r',?_⟩;rcases q with⟨k,e⟩| ⟨k,c,e,z⟩
    ·refine .inl ⟨k,?_⟩
     have:y≠x:=fun e=>hj (jI7 hN e1 (e▸hi));simp[this,e]
    ·exact .inr ⟨k,c,e,z.sameBut hs (cne y c e)⟩
  ·obtain⟨w',z⟩:=I.cell y c e
   exact⟨w',z.sameBut hs (cne y c e)⟩
  ·obtain⟨e,n,ne,nf,d⟩:=I.pin p hp
   exact⟨(hs.2 p.1 ne).trans e,n,ne,nf,d⟩
 ·have hfn:X.fn x=true:=by
   rcases hf with z|z
   ·exact z
   ·rw[z]at hk;cases hk
  obtain⟨c,hc⟩:=I.ok.has x (.inl hk);obtain⟨w',z⟩:=I.cell x c hc;refine wpAny_storeName_cell I.ok.kind hk hc z (fun h' hc' hs=>?_);obtain⟨oc,hoc,hocd⟩:=id z;refine h { s with heap:=h' } ⟨I.ok,I.os,I.bare,⟨fun b o e n hb hx=>?_,fun b o e n hb hx=>?_,I.base.free,fun b o e hx=>?_,I.base.tups,I.base.frzs,I.base.tbls⟩,⟨m,hn.sameBut hs (Q2 (cne x c hc)),fun j y v' e1 e2 e3=>?_⟩,fun y c' e=>?_,I.free,I.freeC,fun p hp=>?_,tracked ⟨oc,hoc,I.freeC x c hc⟩ hs,by simpa using I.len⟩ ⟨c,hs,.inr hc⟩
  ·exact(hs.2 b (Qc (Qo (QO e) (I.ok.cab x c hfn hc)))).trans (I.base.keep b o e n hb hx)
  ·obtain⟨sl,e1⟩:=I.base.slot b o e n hb hx
   exact⟨sl,(hs.2 b (Qc (Qo (QO e) (I.ok.cab x c hfn hc)))).trans e1⟩
  ·obtain⟨o',e1⟩:=I.base.there b o e hx
   exact⟨o',(hs.2 b (Qc (Qo (QO e) (I.ok.cab x c hfn hc)))).trans e1⟩
  ·by_cases hj:j=i
   ·subst hj
    rw[hi]at e1;cases e1;rw[qk hiσ]at e2;cases e2;exact⟨u,r,.inr ⟨.inl hk,c,hc,hc'⟩⟩
   ·rw[qU (Q2 hj)]at e2
    obtain⟨u',r',q⟩:=hl j y v' e1 e2 e3;refine⟨u',r',?_⟩;rcases q with q|⟨k,c',e,z'⟩
    ·exact .inl q
    ·refine .inr ⟨k,c',e,z'.sameBut hs ?_⟩
     rintro rfl;exact hj (jI7 hN e1 (I.ok.inj _ _ _ e hc▸hi))
  ·by_cases hcc:c'=c
   ·subst hcc;exact⟨_,hc'⟩
   ·obtain⟨w2,z2⟩:=I.cell y c' e
    exact⟨w2,z2.sameBut hs hcc⟩
  ·obtain⟨e,n,ne,nf,d⟩:=I.pin p hp
   refine⟨(hs.2 p.1 ?_).trans e,n,ne,nf,d⟩;intro q;rw[q,hoc]at e;have q':oc=p.2:=Q9 e;exact d w' (by rw[<- q'];exact hocd)
theorem jIj{M:Model}{A:Around}{E:VSP}{i:Nat}{x:Str}{v:V}{u:Value}{Q:Unit->Shared->Prop}(I:Inv X pins σ H s)(hN:X.N.Nodup)(hi:X.N[i]?=some x)(hx:Loc X.env.scope x)(r:jAm v u)
  (h:∀s',Inv X pins (σ.set i (some v)) H s'->Q () s') (hf:X.fn x=true∨X.env.scope.names.lookup x=some .local):wpAny M A (storeName X.env x u) Q E s :=
 jGh I hN hi hx r (fun s' I' _=>h s' I') hf
theorem Inv.call'{s':Shared}{ch:List Addr}(I:Inv X pins σ H s)(ho:s'.os=s.os)(u:Un (frs X.stack) ch H H' s.heap s'.heap)(hok:HOk X.prog X.w H' s'.heap)(hg:AllBare s'.gens)
  (hch:∀b∈ch,(b∈X.ex∨X.s₀.heap.objs.size<=b)/\b≠X.env.locals/\(∀x c,X.env.cells.lookup x=some c->c≠b)/\∀p∈X.pn++pins,p.1≠b):Inv X pins σ H' s':=by
 obtain⟨h',g',d',t',o'⟩:=s';have e:o'=s.os:=ho;subst e;exact I.call (g':=g') (t':=t') (d':=d') u hok hg hch
end
noncomputable abbrev XK:=Value->Option Addr->Hp->Prop
noncomputable abbrev St:=List (Option V)
noncomputable abbrev VK:=V->Hp->Prop
noncomputable abbrev TE:=St->Hp->VK->Prop
noncomputable abbrev TT:=St->Hp->(Bool->Hp->Prop)->Prop
noncomputable abbrev TA:=St->Hp->(List V->Hp->Prop)->Prop
structure Ends where
 nx:St->Hp->Prop
 rt:VK
 bk:St->Hp->Prop:=fun _ _=>False
 ct:St->Hp->Prop:=fun _ _=>False
noncomputable abbrev TS:=Ends->St->Hp->Prop
def EP(X:Cx)(pins:LAO)(σ:St)(Q:VK)(u:Value)(s':Shared):Prop:=∃v H',Inv X pins σ H' s'/\jAm v u/\Q v H'
def TP(X:Cx)(pins:LAO)(σ:St)(Q:Bool->Hp->Prop)(b:Bool)(s':Shared):Prop:=∃H',Inv X pins σ H' s'/\Q b H'
def AP(X:Cx)(pins:LAO)(σ:St)(Q:List V->Hp->Prop)(us:List Value)(s':Shared):Prop:=∃vs H',Inv X pins σ H' s'/\jAQ vs us/\Q vs H'
def SP(X:Cx)(pins:LAO)(D:Ends)(f:Flow)(s':Shared):Prop :=
 match f with
 | .next=>∃σ' H',Inv X pins σ' H' s'/\D.nx σ' H'
 | .brk=>∃σ' H',Inv X pins σ' H' s'/\D.bk σ' H'
 | .cont=>∃σ' H',Inv X pins σ' H' s'/\D.ct σ' H'
 | .ret u=>∃v σ' H',Inv X pins σ' H' s'/\jAm v u/\D.rt v H'
def PE(X:Cx)(e:Expr)(t:TE):Prop :=
 ∀(pins:LAO) (s:Shared) (σ:St) (H:Hp) (Q:VK),Inv X pins σ H s->t σ H Q->wpAny (model X.prog X.w) X.A (eval e X.env) (EP X pins σ Q) X.xe s
def PT(X:Cx)(e:Expr)(t:TT):Prop :=
 ∀(pins:LAO) (s:Shared) (σ:St) (H:Hp) (Q:Bool->Hp->Prop),Inv X pins σ H s->t σ H Q->wpAny (model X.prog X.w) X.A (isTrue e X.env (eval e X.env)) (TP X pins σ Q) X.xe s
def PW(X:Cx)(e:Expr)(t:TT):Prop :=
 ∀(whole:Sem Value) (pins:LAO) (s:Shared) (σ:St) (H:Hp) (Q:Bool->Hp->Prop),Inv X pins σ H s->t σ H Q->wpAny (model X.prog X.w) X.A (isTrue e X.env whole) (TP X pins σ Q) X.xe s
theorem PW.pt{X:Cx}{e:Expr}{t:TT}(h:PW X e t):PT X e t:=h _
def PA(X:Cx)(es:List Expr)(t:TA):Prop :=
 ∀(pos:Pos) (pins:LAO) (s:Shared) (σ:St) (H:Hp) (Q:List V->Hp->Prop),Inv X pins σ H s->t σ H Q->wpAny (model X.prog X.w) X.A (spliced (backTo pos (starEach es X.env))) (AP X pins σ Q) X.xe s
def PS(X:Cx)(st:Stmt)(t:TS):Prop :=
 ∀(pins:LAO) (s:Shared) (σ:St) (H:Hp) (D:Ends),Inv X pins σ H s->t D σ H->wpAny (model X.prog X.w) X.A (exec st X.env) (SP X pins D) X.xe s
def PSs(X:Cx)(st:List Stmt)(t:TS):Prop :=
 ∀(pins:LAO) (s:Shared) (σ:St) (H:Hp) (D:Ends),Inv X pins σ H s->t D σ H->wpAny (model X.prog X.w) X.A (execs st X.env) (SP X pins D) X.xe s
theorem thn{α:Type}{t:Sem α}{Q Q':α->Shared->Prop}{M:Model}{A:Around}{E:VSP}{s:Shared}(h:wpAny M A t Q E s)(hQ:∀a s,Q a s->Q' a s):wpAny M A t Q' E s:=wO h hQ fun _ _ x=>x
section
variable{X:Cx}
theorem bin{a b:Expr}{ta tb:TE}(ha:PE X a ta)(hb:PE X b tb){pins:LAO}{s:Shared}{σ:St}{H:Hp}{R:V->V->Hp->Prop}(I:Inv X pins σ H s)(h:ta σ H fun x H1=>tb σ H1 fun y H2=>R x y H2)
  {α:Type}{Q:α->Shared->Prop}{f:Value->Value->Sem α}
  (hf:∀v u s2 x y H2,Inv X pins σ H2 s2->jAm x v->jAm y u->R x y H2->wpAny (model X.prog X.w) X.A (f v u) Q X.xe s2) :
  wpAny (model X.prog X.w) X.A (eval a X.env) (fun v s₁=>wpAny (model X.prog X.w) X.A (eval b X.env) (fun u s₂=>wpAny (model X.prog X.w) X.A (f v u) Q X.xe s₂) X.xe s₁) X.xe s:=by
 refine thn (ha pins s σ H _ I h) fun v s1 ⟨x,H1,I1,r1,q1⟩=>?_;refine thn (hb pins s1 σ H1 _ I1 q1) fun u s2 ⟨y,H2,I2,r2,q2⟩=>?_;exact hf v u s2 x y H2 I2 r1 r2 q2
noncomputable def jYC(i:Nat):TE:=fun σ H Q=>∃v,σ[i]?=some (some v)/\Q v H
noncomputable def tC(v:V):TE:=fun _ H Q=>Q v H
theorem jS1{i:Nat}{x:Str}{pos:Pos}(hN:X.N[i]?=some x)(hv:Vis X.env.scope x)(hd:(x==("__debug__":Str))=false:=by decide)(hcd:(x==("__classdict__":Str))=false:=by decide):PE X (.Name x pos) (jYC i):=by
 intro pins s σ H Q I h;obtain⟨v,e,h⟩:=h;obtain⟨m,hn,hl⟩:=I.loc;obtain⟨u,r,l⟩:=hl i x v hN e hv;have fin:EP X pins σ Q u s:=⟨v,H,I,r,h⟩
 rcases l with⟨hk,hm⟩| ⟨hk,c,hc,hcell⟩
 ·exact QCB (wpAny_loadName_local I.ok.kind hk hn hm fin) hd
 ·rcases hk with hk|hk
  ·exact QCB (wpAny_loadName_cell I.ok.kind hk hc hcell fin) hd
  ·exact QCB (wpAny_loadName_free I.ok.kind hk hc hcell fin hcd) hd
theorem jO8{i j pos}:PE X (.Constant (.int i) j pos) (tC (.int i)):=fun _ _ _ H _ I h=>wpAny_Constant_int ⟨.int i,H,I.tok _,⟨_,rfl⟩,h⟩
theorem jS8{b j pos}:PE X (.Constant (.bool b) j pos) (tC (.bl b)):=fun _ _ _ H _ I h=>Constant_bool ⟨.bl b,H,I,rfl,h⟩
theorem jO7{j pos}:PE X (.Constant .none j pos) (tC .non):=fun _ _ _ H _ I h=>Constant_none ⟨.non,H,I,rfl,h⟩
theorem jS3{x j pos}:PE X (.Constant (.str x) j pos) (tC (.str x)):=fun _ _ _ H _ I h=>Calls.Constant_str ⟨.str x,H,I.tok _,⟨_,rfl⟩,h⟩
def Gl(X:Cx)(x:Str):Prop:=X.env.kindOf x=some .globalImplicit
theorem jH9{E:VSP}{pins:LAO}{s:Shared}{σ:St}{H:Hp}{x:Str}{u:Value}{pos:Pos}{Q:VSP}(I:Inv X pins σ H s)(hg:Gl X x)(hm:X.mg x=some u)(h:Q u s)
  (hd:(x==("__debug__":Str))=false:=by decide):wpAny (model X.prog X.w) X.A (eval (.Name x pos) X.env) Q E s :=
 W9 I.ok.kind hg (Calls.loadGlobal_global (by rw[I.ok.glob];exact I.mod.glob.keeps I.bk) hm h) hd
theorem jDt{E:VSP}{pins:LAO}{s:Shared}{σ:St}{H:Hp}{x:Str}{u:Value}{pos:Pos}{Q:VSP}(I:Inv X pins σ H s)(hg:Gl X x)(hm:X.mg x=none)(hv:bootBuiltins x=some u)(h:Q u s)
  (hn:x≠"__name__":=by decide) (hd:(x==("__debug__":Str))=false:=by decide):wpAny (model X.prog X.w) X.A (eval (.Name x pos) X.env) Q E s:=by
 obtain⟨mb,h1,h2⟩:=I.mod.blt;exact W9 I.ok.kind hg (Calls.loadGlobal_builtin (by rw[I.ok.glob];exact I.mod.glob.keeps I.bk) hm (by rw[I.ok.blt];exact h1.keeps I.bk) ((h2 x hn).trans hv) h) hd
theorem jQd{x:Str}{v:V}{u:Value}{pos:Pos}(hg:Gl X x)(hm:X.mg x=some u)(r:jAm v u)(hd:(x==("__debug__":Str))=false:=by decide):PE X (.Name x pos) (tC v) :=
 fun _ _ _ H _ I h=>jH9 I hg hm ⟨v,H,I,r,h⟩ hd
theorem jQj{x:Str}{v:V}{u:Value}{pos:Pos}(hg:Gl X x)(hm:X.mg x=none)(hv:bootBuiltins x=some u)(r:jAm v u)(hn:x≠"__name__":=by decide)(hd:(x==("__debug__":Str))=false:=by decide):PE X (.Name x pos) (tC v) :=
 fun _ _ _ H _ I h=>jDt I hg hm hv ⟨v,H,I,r,h⟩ hn hd
variable{a b:Expr}{ta tb:TE}{pos:Pos}
variable{tA tB':TT}{rest:List Expr}
noncomputable def jYM(t u:TT):TT:=fun σ H Q=>t σ H fun c H1=>if c=true then u σ H1 Q else Q false H1
noncomputable def tOr(t u:TT):TT:=fun σ H Q=>t σ H fun c H1=>if c=true then Q true H1 else u σ H1 Q
noncomputable def jYH(t:TT):TT:=fun σ H Q=>t σ H fun c H1=>Q (!c) H1
theorem jQM(ha:PT X a tA):PW X (.BoolOp .And [a] pos) tA:=by
 intro wh pins s σ H Q I h;refine isTrue_and (thn (ha pins s σ H Q I h) fun c s1 e=>?_);cases c with
 |true=>exact isTrue_and_nil e
 |false=>exact e
theorem jSo(ha:PT X a tA):PW X (.BoolOp .Or [a] pos) tA:=by
 intro wh pins s σ H Q I h;refine isTrue_or (thn (ha pins s σ H Q I h) fun c s1 e=>?_);cases c with
 |false=>exact isTrue_or_nil e
 |true=>exact e
theorem jO3(ha:PT X a tA)(hb:PW X (.BoolOp .And (b::rest) pos) tB'):PW X (.BoolOp .And (a::b::rest) pos) (jYM tA tB'):=by
 intro wh pins s σ H Q I h;refine isTrue_and (thn (ha pins s σ H _ I h) fun c s1 ⟨H1,I1,q1⟩=>?_);cases c with
 |true=>exact hb wh pins s1 σ H1 Q I1 q1
 |false=>exact⟨H1,I1,q1⟩
theorem jSp(ha:PT X a tA)(hb:PW X (.BoolOp .Or (b::rest) pos) tB'):PW X (.BoolOp .Or (a::b::rest) pos) (tOr tA tB'):=by
 intro wh pins s σ H Q I h;refine isTrue_or (thn (ha pins s σ H _ I h) fun c s1 ⟨H1,I1,q1⟩=>?_);cases c with
 |true=>exact⟨H1,I1,q1⟩
 |false=>exact hb wh pins s1 σ H1 Q I1 q1
theorem jSq(ha:PT X a tA):PT X (.UnaryOp .Not a pos) (jYH tA):=by
 intro pins s σ H Q I h;exact isTrue_not (ha pins s σ H (fun c H1=>Q (!c) H1) I h)
noncomputable def jWA(ta tb:TE):TE:=fun σ H Q=>ta σ H fun x H1=>∃c,x=.bl c/\if c=true then tb σ H1 Q else Q (.bl false) H1
noncomputable def jYG(ta tb:TE):TE:=fun σ H Q=>ta σ H fun x H1=>∃c,x=.bl c/\if c=true then Q (.bl true) H1 else tb σ H1 Q
theorem jO6{op}{t:TE}(h:PE X a t):PE X (.BoolOp op [a] pos) t:=fun pins s σ H Q I hw=>BoolOp_one (h pins s σ H Q I hw)
theorem jO9(ha:PE X a ta)(hb:PE X (.BoolOp .And (b::rest) pos) tb):PE X (.BoolOp .And (a::b::rest) pos) (jWA ta tb):=by
 intro pins s σ H Q I h;refine BoolOp_and (thn (ha pins s σ H _ I h) fun v s1 ⟨x,H1,I1,r1,q1⟩=>?_);obtain⟨c,rfl,q1⟩:=q1;cases r1;refine wD ?_;cases c with
 |true=>exact hb pins s1 σ H1 Q I1 q1
 |false=>exact⟨.bl false,H1,I1,rfl,q1⟩
theorem jS4(ha:PE X a ta)(hb:PE X (.BoolOp .Or (b::rest) pos) tb):PE X (.BoolOp .Or (a::b::rest) pos) (jYG ta tb):=by
 intro pins s σ H Q I h;refine BoolOp_or (thn (ha pins s σ H _ I h) fun v s1 ⟨x,H1,I1,r1,q1⟩=>?_);obtain⟨c,rfl,q1⟩:=q1;cases r1;refine wD ?_;cases c with
 |false=>exact hb pins s1 σ H1 Q I1 q1
 |true=>exact⟨.bl true,H1,I1,rfl,q1⟩
end
def SqL(K:QD)(H:Hp)(a:Addr)(xs:List V):Prop :=
 Rd H a (.lst xs) ∨
  ∃(o:Obj) (its:Array Value) (n:Nat),K.lookup a=some o/\o.cls=.type "list"/\o.dict=none/\o.data=.seq its n/\its.size<=sizeLine/\jAQ xs its.toList
def SqT(K:QD)(H:Hp)(a:Addr)(xs:List V):Prop :=
 Rd H a (.tup xs) ∨
  ∃(o:Obj) (its:Array Value) (n:Nat),K.lookup a=some o/\o.cls=.type "tuple"/\o.data=.seq its n/\its.size<=sizeLine/\jAQ xs its.toList
noncomputable def jM7:Value->Option V
 | .none=>some .non
 | .bool b=>some (.bl b)
 | .int i _=>some (.int i)
 | .str x _=>some (.str x)
 | .bytes b _=>some (.byt b)
 | .float b _=>some (.flt b)
 | .ref a=>some (.ref a)
 | .type n=>some (.ty n)
 |_=>none
theorem jAm.abs{x:V}{u:Value}(r:jAm x u):jM7 u=some x:=by
 cases x with
 |non=>cases r;rfl
 |bl _=>cases r;rfl
 |int _=>obtain⟨t,rfl⟩:=r;rfl
 |str _=>obtain⟨t,rfl⟩:=r;rfl
 |byt _=>obtain⟨t,rfl⟩:=r;rfl
 |flt _=>obtain⟨t,rfl⟩:=r;rfl
 |ref _=>cases r;rfl
 |ty _=>cases r;rfl
theorem jAm.inj{x y:V}{u:Value}(r:jAm x u)(q:jAm y u):x=y:=Q9 (r.abs.symm.trans q.abs)
theorem jAQ.inj:∀{xs ys:List V}{us:List Value},jAQ xs us->jAQ ys us->xs=ys
 |_,_,_,.nil,.nil=>rfl
 |_,_,_,.cons r t,.cons r' t'=>by rw[r.inj r',jAQ.inj t t']
section
variable{X:Cx}{pins:LAO}{σ:St}{H:Hp}{s:Shared}{a:Addr}{xs ys:List V}
theorem SqL.of{K:QD}(h:H a=some (.lst xs)):SqL K H a xs:=.inl (.inl h)
theorem SqT.of{K:QD}(h:H a=some (.tup xs)):SqT K H a xs:=.inl (.inl h)
theorem Inv.list(I:Inv X pins σ H s)(h:SqL X.K H a xs):∃its:List Value,jAQ xs its/\PlainL s.heap a its.toArray/\xs.length<=sizeLine:=by
 rcases h with h|⟨o,its,n,hk,hc,hd,hs,hz,r⟩
 ·obtain⟨z,its,n,r,e⟩:=h.ok I.hok
  exact⟨its,r,⟨_,n,e,rfl,rfl,rfl⟩,z⟩
 ·refine⟨its.toList,r,⟨o,n,I.kIn a o hk,hc,hd,by simpa using hs⟩,?_⟩
  have e:=r.length;simp only[QT]at e
  omega
theorem Inv.tuple(I:Inv X pins σ H s)(h:SqT X.K H a xs):∃its:List Value,jAQ xs its/\IsTup s.heap a its.toArray/\xs.length<=sizeLine:=by
 rcases h with h|⟨o,its,n,hk,hc,hs,hz,r⟩
 ·obtain⟨z,its,r,p⟩:=h.ok I.hok
  exact⟨its,r,p,z⟩
 ·refine⟨its.toList,r,⟨o,I.kIn a o hk,hc,n,by simpa using hs⟩,?_⟩
  have e:=r.length;simp only[QT]at e
  omega
theorem Inv.list_inj(I:Inv X pins σ H s)(h:SqL X.K H a xs)(h':SqL X.K H a ys):xs=ys:=by
 obtain⟨its,r,⟨o,n,e,_,_,d⟩,_⟩:=I.list h;obtain⟨its',r',⟨o',n',e',_,_,d'⟩,_⟩:=I.list h';rw[e]at e';cases e';rw[d]at d';injection d' with d1 _
 have:its=its':=by simpa using congrArg QBq d1
 subst this;exact r.inj r'
theorem Inv.tuple_inj(I:Inv X pins σ H s)(h:SqT X.K H a xs)(h':SqT X.K H a ys):xs=ys:=by
 obtain⟨its,r,⟨o,e,_,n,d⟩,_⟩:=I.tuple h;obtain⟨its',r',⟨o',e',_,n',d'⟩,_⟩:=I.tuple h';rw[e]at e';cases e';rw[d]at d';injection d' with d1 _
 have:its=its':=by simpa using congrArg QBq d1
 subst this;exact r.inj r'
end
noncomputable abbrev Cx.wish(X:Cx)(E:VSP):Cx:={ X with xe:=E }
noncomputable abbrev Cx.nox(X:Cx):Cx:=X.wish fun _ _=>False
theorem Cx.Ok.wish{X:Cx}(ok:X.Ok)(E:VSP):(X.wish E).Ok :=
 ⟨ok.mod,ok.kind,ok.glob,ok.blt,ok.above,ok.inj,ok.has,ok.cab,ok.hd,ok.frames,ok.stk,ok.exf,ok.bs,ok.bsz,ok.noex,ok.exfs,ok.funs,ok.frf⟩
theorem Cx.Ok.unwish{X:Cx}{E:VSP}(ok:(X.wish E).Ok):X.Ok :=
 ⟨ok.mod,ok.kind,ok.glob,ok.blt,ok.above,ok.inj,ok.has,ok.cab,ok.hd,ok.frames,ok.stk,ok.exf,ok.bs,ok.bsz,ok.noex,ok.exfs,ok.funs,ok.frf⟩
section
variable{X:Cx}{pins:LAO}{σ:St}{H:Hp}{s:Shared}{E:VSP}
theorem Inv.wish(I:Inv X pins σ H s)(E:VSP):Inv (X.wish E) pins σ H s:=⟨I.ok.wish E,I.os,I.bare,I.base,I.loc,I.cell,I.free,I.freeC,I.pin,I.hok,I.len⟩
theorem Inv.unwish(I:Inv (X.wish E) pins σ H s):Inv X pins σ H s:=⟨I.ok.unwish,I.os,I.bare,I.base,I.loc,I.cell,I.free,I.freeC,I.pin,I.hok,I.len⟩
theorem SP.unwish{D:Ends}{f:Flow}{s':Shared}(h:SP (X.wish E) pins D f s'):SP X pins D f s':=by
 cases f with
 |next=>obtain⟨σ',H',I,q⟩:=h;exact⟨σ',H',I.unwish,q⟩
 |brk=>obtain⟨σ',H',I,q⟩:=h;exact⟨σ',H',I.unwish,q⟩
 |cont=>obtain⟨σ',H',I,q⟩:=h;exact⟨σ',H',I.unwish,q⟩
 |ret u=>obtain⟨v,σ',H',I,r,q⟩:=h;exact⟨v,σ',H',I.unwish,r,q⟩
theorem PSs.nox{st:List Stmt}{t:TS}(h:PSs X.nox st t):PSs X st t:=fun pins s σ H D I hw =>
 wO (h pins s σ H D (I.wish _) hw) (fun _ _ q=>q.unwish) fun _ _ z=>QZ z
end
section
variable{X:Cx}{st:Stmt}{rest:List Stmt}{t u:TS}{e:Expr}{te:TE}{pos:Pos}
noncomputable def jV6:TS:=fun D σ H=>D.nx σ H
noncomputable def jYE(t u:TS):TS:=fun D σ H=>t { D with nx:=u D } σ H
theorem jQR:PSs X [] jV6:=fun _ _ σ H _ I h=>W4 ⟨σ,H,I,h⟩
theorem jNU(h1:PS X st t)(h2:PSs X rest u):PSs X (st::rest) (jYE t u):=by
 intro pins s σ H D I h;refine QBx (thn (h1 pins s σ H { D with nx:=u D } I h) fun f s1 q=>?_);cases f with
 |next =>
  obtain⟨σ',H',I',q⟩:=q;exact h2 pins s1 σ' H' D I' q
 |ret v=>exact q
 |brk=>exact q
 |cont=>exact q
theorem jQQ(h1:PS X st t):PSs X [st] t:=by
 intro pins s σ H D I h;refine QBx (thn (h1 pins s σ H D I h) fun f s1 q=>?_);cases f with
 |next=>exact W4 q
 |ret v=>exact q
 |brk=>exact q
 |cont=>exact q
theorem Inv.quiet{pins:LAO}{σ:St}{H:Hp}{s:Shared}(I:Inv X pins σ H s):interactive X.env=false:=by simp[interactive,I.ok.kind]
noncomputable def jV7(te:TE):TS:=fun D σ H=>te σ H fun _ H1=>D.nx σ H1
theorem jLK(he:PE X e te)(hs:swapsWith e none pos.line X.env=pure false:=by rfl):PS X (.Expr e pos) (jV7 te):=by
 intro pins s σ H D I h;exact wpAny_Expr_any (thn (he pins s σ H _ I h) fun v s1 ⟨x,H1,I1,r1,q1⟩=>⟨σ,H1,I1,q1⟩) I.quiet hs
noncomputable def jYF(te:TE):TS:=fun D σ H=>te σ H D.rt
theorem jSs(he:PE X e te):PS X (.Return (some e) pos) (jYF te):=by
 intro pins s σ H D I h;exact wpAny_Return_some (thn (he pins s σ H _ I h) fun v s1 ⟨x,H1,I1,r1,q1⟩=>⟨x,σ,H1,I1,r1,q1⟩)
noncomputable def jYJ(c:TT)(t u:TS):TS:=fun D σ H=>c σ H fun b H1=>if b=true then t D σ H1 else u D σ H1
theorem jWG{c:Expr}{a b:List Stmt}{tc:TT}(hc:PT X c tc)(ha:PSs X a t)(hb:PSs X b u):PS X (.If c a b pos) (jYJ tc t u):=by
 intro pins s σ H D I h;refine wpAny_If (thn (hc pins s σ H _ I h) fun d s1 ⟨H1,I1,q1⟩=>?_);cases d with
 |true=>exact ha pins s1 σ H1 D I1 q1
 |false=>exact hb pins s1 σ H1 D I1 q1
end
noncomputable abbrev TG:=V->St->Hp->(St->Hp->Prop)->Prop
noncomputable abbrev TGs:=List V->St->Hp->(St->Hp->Prop)->Prop
def PG(X:Cx)(target:Expr)(t:TG):Prop :=
 ∀(pins:LAO) (s:Shared) (σ:St) (H:Hp) (v:V) (u:Value) (Q:St->Hp->Prop),Inv X pins σ H s->jAm v u->t v σ H Q ->
  wpAny (model X.prog X.w) X.A (assign target X.env u) (fun _ s'=>∃σ' H',Inv X pins σ' H' s'/\Q σ' H') X.xe s
def PGs(X:Cx)(ts:List Expr)(t:TGs):Prop :=
 ∀(pins:LAO) (s:Shared) (σ:St) (H:Hp) (vs:List V) (us:List Value) (Q:St->Hp->Prop),Inv X pins σ H s->jAQ vs us->t vs σ H Q ->
  wpAny (model X.prog X.w) X.A (assignInOrder ((assignEach ts X.env).map (·.2)) us) (fun _ s'=>∃σ' H',Inv X pins σ' H' s'/\Q σ' H') X.xe s
noncomputable abbrev jWw:=V->V->V->Hp->(Hp->Prop)->Prop
def jVq(X:Cx)(t:jWw):Prop :=
 ∀(pins:LAO) (s:Shared) (σ:St) (H:Hp) (o i v:V) (ov iv u:Value) (Q:Hp->Prop),Inv X pins σ H s->jAm o ov->jAm i iv->jAm v u->t o i v H Q ->
  wpAny (model X.prog X.w) X.A (setItem ov iv u) (fun _ s'=>∃H',Inv X pins σ H' s'/\Q H') X.xe s
section
variable{X:Cx}{pos:Pos}
noncomputable def jOI(i:Nat):TG:=fun v σ H Q=>Q (σ.set i (some v)) H
theorem jLP{i:Nat}{x:Str}(hN:X.N.Nodup)(hi:X.N[i]?=some x)(hx:Loc X.env.scope x)(hf:X.fn x=true∨X.env.scope.names.lookup x=some .local):PG X (.Name x pos) (jOI i):=by
 intro pins s σ H v u Q I r h;exact QBd (jIj I hN hi hx r (fun s' I'=>⟨_,H,I',h⟩) hf)
noncomputable def jYt(K:QD)(n:Nat)(t:TGs):TG:=fun v σ H Q=>∃a xs,v=.ref a/\SqT K H a xs/\xs.length=n/\t xs σ H Q
theorem jSz{es:List Expr}{k:Nat}{t:TGs}{n:Nat}(hc:X.calm=true)(h:PGs X es t)
  (hn:(assignEach es X.env).length=n:=by rfl) (hst:(assignEach es X.env).findIdx? (·.1)=none:=by rfl):PG X (.Tuple es k pos) (jYt X.K n t):=by
 intro pins s σ H v u Q I r hw;obtain⟨a,xs,e1,hq,hl,hw⟩:=hw;subst e1;cases r;obtain⟨its,rv,ht,hz⟩:=I.tuple hq;refine assign_Tuple_tuple (I.ok.hd hc) ht (by simp[hn,<- hl,rv.length]) hst fun h' hx=>?_;have I1:Inv X pins σ H { s with heap:=h' }:=I.kept (t':=s.toks) fun b o e=>hx b o (Qc (QO e)) e;exact h pins _ σ H xs _ Q I1 (by simpa using rv) hw
noncomputable def jYu(to ti:TE)(t:jWw):TG:=fun v σ H Q=>to σ H fun o H1=>ti σ H1 fun i H2=>t o i v H2 fun H3=>Q σ H3
theorem jS0{o i:Expr}{to ti:TE}{t:jWw}(ho:PE X o to)(hi:PE X i ti)(hs:jVq X t)
  (ha:∀v,assign (.Subscript o i pos) X.env v=(do
   let ov <- holding [v] (eval o X.env)
   let iv <- holding [v,ov] (eval i X.env)
   standAt pos
   holding [v,ov,iv] (setItem ov iv v)
   release [v,ov,iv] []):=by intro _;rfl):PG X (.Subscript o i pos) (jYu to ti t):=by
 intro pins s σ H v u Q I r h;rw[ha];refine QA (qT (thn (ho pins s σ H _ I h) fun ov s1 ⟨x,H1,I1,r1,q1⟩=>?_));refine QA (qT (thn (hi pins s1 σ H1 _ I1 q1) fun iv s2 ⟨y,H2,I2,r2,q2⟩=>?_));refine QA (QBU (QA (qT (thn (hs pins s2 σ H2 x y v ov iv u _ I2 r1 r2 r q2) fun _ s3 ⟨H3,I3,q3⟩=>?_))));exact wpAny_release ⟨σ,H3,I3,q3⟩
noncomputable def jV9(te:TE)(g:TG):TS:=fun D σ H=>te σ H fun x H1=>g x σ H1 D.nx
theorem jO5{tg e:Expr}{te:TE}{g:TG}(he:PE X e te)(hg:PG X tg g)(hs:swapsWithSole [tg] e pos.line X.env=pure false:=by rfl)(hw:swappedStores [tg] e X.env=pure none:=by rfl)
  (h1:(assignEach [tg] X.env).map (·.2)=[assign tg X.env]:=by rfl):PS X (.Assign [tg] e pos) (jV9 te g):=by
 intro pins s σ H D I h;refine wpAny_Assign_stores (thn (he pins s σ H _ I h) fun v s1 ⟨x,H1,I1,r1,q1⟩=>?_) hs hw;rw[h1];exact thn (hg pins s1 σ H1 x v _ I1 r1 q1) fun _ s2 q=>q
theorem jSr{i:Nat}{x:Str}{e:Expr}{te:TE}{pos':Pos}(hN:X.N.Nodup)(hi:X.N[i]?=some x)(hx:Loc X.env.scope x)(he:PE X e te)(hs:swapsWith e (some (.Name x pos')) pos.line X.env=pure false:=by rfl)(hf:X.fn x=true∨X.env.scope.names.lookup x=some .local) :
  PS X (.Assign [.Name x pos'] e pos) (jV9 te (jOI i)):=by
 intro pins s σ H D I h;refine wpAny_Assign_Name (thn (he pins s σ H _ I h) fun v s1 ⟨y,H1,I1,r1,q1⟩=>?_) hs;exact jIj I1 hN hi hx r1 (fun s2 I2=>⟨_,H1,I2,q1⟩) hf
end
section
variable{X:Cx}{pos:Pos}
noncomputable def jOl(c:TT)(tb:TS):TS:=fun D σ H=>∃W:Nat->St->Hp->Prop,(∃m,W m σ H)/\∀m σ H,W m σ H ->
 c σ H fun b H1=>if b=true then ∃N:St->Hp->Prop,(∀σ' H',N σ' H'->∃m',m' < m/\W m' σ' H')/\tb { D with nx:=N,ct:=N,bk:=D.nx } σ H1 else D.nx σ H1
theorem jNV{c:Expr}{body:List Stmt}{tc:TT}{tb:TS}(hp:PassesOwn (model X.prog X.w) X.A X.env X.xe)(hc:PT X c tc)(hb:PSs X body tb):PS X (.While c body [] pos) (jOl tc tb):=by
 intro pins s σ H D I h;obtain⟨W,⟨m0,w0⟩,turn⟩:=h;refine wpAny_While (codeAny_whileLoop (fun n s'=>∃σ' H',Inv X pins σ' H' s'/\W n σ' H') ?_ m0 ⟨σ,H,I,w0⟩);rintro n s1 ⟨σ1,H1,I1,w1⟩;refine wZ hp (thn (hc pins s1 σ1 H1 _ I1 (turn n σ1 H1 w1)) fun b s2 ⟨H2,I2,q2⟩=>?_);cases b with
 |true =>
  obtain⟨N,hN,q2⟩:=q2;rw[if_pos rfl];refine wZ hp (thn (hb pins s2 σ1 H2 _ I2 q2) fun f s3 q3=>?_);cases f with
  |next =>
   obtain⟨σ3,H3,I3,n3⟩:=q3;obtain⟨m',hm,w3⟩:=hN σ3 H3 n3;exact⟨m',hm,σ3,H3,I3,w3⟩
  |cont =>
   obtain⟨σ3,H3,I3,n3⟩:=q3;obtain⟨m',hm,w3⟩:=hN σ3 H3 n3;exact⟨m',hm,σ3,H3,I3,w3⟩
  |brk=>exact q3
  |ret v=>exact q3
 |false =>
  rw[if_neg QC];exact W4 ⟨σ1,H2,I2,q2⟩
end
structure It where
 go:Nat->Hp->Prop
 yld:Nat->Hp->V->Hp->Prop
 stop:Nat->Hp->Prop
def jJp(X:Cx)(pins:LAO)(H:Hp)(b:Addr):Prop :=
 H b=none/\b≠X.env.locals/\b∉X.fs/\(b∈X.ex∨X.s₀.heap.objs.size<=b)/\(∀x c,X.env.cells.lookup x=some c->c≠b)/\∀p∈X.pn++pins,p.1≠b
theorem Inv.fpOk{X:Cx}{pins:LAO}{σ:St}{H H':Hp}{s:Shared}{b:Addr}(I:Inv X pins σ H s)(hb:s.heap.objs.size<=b)(hn:H' b=none):jJp X pins H' b:=by
 refine⟨hn,wP (Qo I.lt hb),I.nofs hb,.inr (QX I.sz hb),fun x c e z=>?_,fun p hp z=>?_⟩
 ·obtain⟨v,q⟩:=I.cell x c e
  exact absurd (Qo q.lt (by rw[z];exact hb)) (wC _)
 ·exact absurd (Qo (QO (I.pin p hp).1) (by rw[z];exact hb)) (wC _)
structure Turn0(P:Program)(w:World)(K:QD)(tg:Expr)(J:It)(fp:List Addr)(it:Addr)(tn:Nat->Heap->Prop):Prop where
 mem:it∈fp
 obj:∀i h,tn i h->∀b∈fp,∃o,h.get? b=some o/\∀v,o.data≠.cell v
 keep:∀i h h',tn i h->(∀b∈fp,∀o,h.get? b=some o->h'.get? b=some o)->tn i h'
 item:∀(X:Cx),X.prog=P->X.w=w->X.K=K->X.calm=true->∀(i:Nat) (pins:LAO) (s:Shared) (σ:St) (H:Hp) (E:VSP),Inv X pins σ H s->(∀b∈fp,jJp X pins H b)->tn i s.heap->J.go i H ->
  wpAny (model P w) X.A (pyNext (.ref it)) (fun r s1=>∃u,r=some u /\
   wpAny (model P w) X.A (letOwnedTupleGo tg (.ref it) u) (fun _ s2=>∃x H',Inv X pins σ H' s2/\jAm x u/\J.yld i H x H'/\tn (i+1) s2.heap/\∀b∈fp,H' b=none) E s1) E s
 done:∀(X:Cx),X.prog=P->X.w=w->X.K=K->X.calm=true->∀(i:Nat) (pins:LAO) (s:Shared) (σ:St) (H:Hp) (E:VSP),Inv X pins σ H s->(∀b∈fp,jJp X pins H b)->tn i s.heap->J.stop i H ->
  wpAny (model P w) X.A (pyNext (.ref it)) (fun r s1=>r=none/\Inv X pins σ H s1) E s
structure Turn(P:Program)(w:World)(K:QD)(tg:Expr)(J:It)(fp:List Addr)(it:Addr)(tn:Nat->Heap->Prop):Prop extends Turn0 P w K tg J fp it tn where
 self:∀(A:Around) (i:Nat) (s:Shared) (Q:VSP) (E:VSP),tn i s.heap->Q (.ref it) s->wpAny (model P w) A (pyIter (.ref it)) Q E s
noncomputable abbrev TI:=St->Hp->(It->Hp->Prop)->Prop
def PIE(X:Cx)(pins:LAO)(σ:St)(tg:Expr)(R:It->Hp->Prop)(itv:Value)(s2:Shared):Prop :=
 ∃(it:Addr) (fp:List Addr) (tn:Nat->Heap->Prop) (J:It) (H':Hp),itv=.ref it/\Inv X pins σ H' s2/\Turn X.prog X.w X.K tg J fp it tn/\tn 0 s2.heap/\(∀b∈fp,jJp X pins H' b)/\R J H'
def PI(X:Cx)(tg iter:Expr)(wi:TI):Prop :=
 ∀(pins:LAO) (s:Shared) (σ:St) (H:Hp) (R:It->Hp->Prop),Inv X pins σ H s->wi σ H R ->
  wpAny (model X.prog X.w) X.A (eval iter X.env) (fun v s1=>wpAny (model X.prog X.w) X.A (pyIter v) (PIE X pins σ tg R) X.xe s1) X.xe s
def jZB(X:Cx)(pins:LAO)(σ:St)(tg:Expr)(R:It->Hp->Prop)(itv:Value)(s2:Shared):Prop :=
 ∃(it:Addr) (fp:List Addr) (tn:Nat->Heap->Prop) (J:It) (H':Hp),itv=.ref it/\Inv X pins σ H' s2/\Turn0 X.prog X.w X.K tg J fp it tn/\tn 0 s2.heap/\(∀b∈fp,jJp X pins H' b)/\R J H'
def PI0(X:Cx)(tg iter:Expr)(wi:TI):Prop :=
 ∀(pins:LAO) (s:Shared) (σ:St) (H:Hp) (R:It->Hp->Prop),Inv X pins σ H s->wi σ H R ->
  wpAny (model X.prog X.w) X.A (eval iter X.env) (fun v s1=>wpAny (model X.prog X.w) X.A (pyIter v) (jZB X pins σ tg R) X.xe s1) X.xe s
theorem PI.to0{X:Cx}{tg iter:Expr}{wi:TI}(h:PI X tg iter wi):PI0 X tg iter wi:=fun pins s σ H R I q =>
 wO (h pins s σ H R I q) (fun v s1 h1=>wO h1 (fun itv s2 ⟨it,fp,tn,J,H2,e,I2,T,r⟩=>⟨it,fp,tn,J,H2,e,I2,T.toTurn0,r⟩) fun _ _ x=>x) fun _ _ x=>x
theorem jML{M:Model}{A:Around}{E:VSP}{s:Shared}{tg:Expr}{it:Addr}{u:Value}{o:Obj}{n:String}{vs:Array Value}{Q:Unit->Shared->Prop}(ho:s.heap.get? it=some o)(hc:o.cls=.type n)(hd:o.data=.fields vs)
    (hn:["enumerate","zip","dict_itemiterator","dict_reverseitemiterator","odict_iterator","itertools.zip_longest","itertools.pairwise"].contains n=false) (hQ:Q () s):wpAny M A (letOwnedTupleGo tg (.ref it) u) Q E s:=by
  unfold letOwnedTupleGo;cases tg<;>first
    |exact QI hQ
    | (cases u<;>first
        |exact QI hQ
        | (refine QA (wpAny_load ho ?_)
           rw[hc,hd];show wpAny M A (if(["enumerate","zip","dict_itemiterator","dict_reverseitemiterator","odict_iterator","itertools.zip_longest","itertools.pairwise"].contains n&&vs[0]?==some (rawInt _))=true then _ else _) Q E s;rw[if_neg (by intro h;rw[hn,QA8]at h;cases h)];exact QI hQ))
noncomputable def Itl(K:QD)(a:Addr):It :=
 ⟨fun i H=>∃xs x,SqL K H a xs/\xs[i]?=some x,fun i H x H'=>H'=H/\∀xs,SqL K H a xs->xs[i]?=some x,fun i H=>∃xs,SqL K H a xs/\xs.length<=i⟩
noncomputable def Itt(K:QD)(a:Addr):It :=
 ⟨fun i H=>∃xs x,SqT K H a xs/\xs[i]?=some x,fun i H x H'=>H'=H/\∀xs,SqT K H a xs->xs[i]?=some x,fun i H=>∃xs,SqT K H a xs/\xs.length<=i⟩
noncomputable def Itr(lo:Int)(n:Nat):It:=⟨fun i _=>i<n,fun i H x H'=>H'=H/\x=.int (lo+i),fun i _=>n<=i⟩
theorem jKh{P:Program}{w:World}{K:QD}{tg:Expr}(a it:Addr):Turn P w K tg (Itl K a) [it] it (fun i h=>h.IsListIter it a i) where
 mem:=by simp
 obj:=fun i h st b hb=>by
  have e:b=it:=by simpa using hb
  subst e;obtain⟨o,e,c,d⟩:=st;exact⟨o,e,fun v z=>by rw[d]at z;cases z⟩
 keep:=fun i h h' st k=>st.at fun o e=>k it (by simp) o e
 item:=by
  intro X hP hw hK hc i pins s σ H E I hf st hg;subst hP hw hK;obtain⟨xs,x,hq,hx⟩:=hg;obtain⟨its,rv,p,hz⟩:=I.list hq;obtain⟨u,hu,ru⟩:=rv.get hx;obtain⟨f0,f1,f2,f3,f4,f5⟩:=hf it (by simp);refine wpAny_pyNext_list_item st p.isList (x:=u) (by simpa using hu) fun h' st' sb=>?_;have I1:Inv X pins σ H { s with heap:=h' }:=I.turned (t':=s.toks) (fun b o hb e=>(sb.2 b hb).trans e) f0 f1 f3 f4 f5;obtain⟨o,e,c,d⟩:=id st';exact⟨u,rfl,jML (s:={ s with heap:=h' }) e c d (by decide) ⟨x,H,I1,ru,⟨rfl,fun ys hy=>by rw[I.list_inj hy hq];exact hx⟩,st',fun b hb=>(hf b hb).1⟩⟩
 done:=by
  intro X hP hw hK hc i pins s σ H E I hf st hg;subst hP hw hK;obtain⟨xs,hq,hx⟩:=hg;obtain⟨its,rv,p,hz⟩:=I.list hq;obtain⟨f0,f1,f2,f3,f4,f5⟩:=hf it (by simp);have hl:=rv.length;exact wpAny_pyNext_list_end (I.ok.hd hc) st p.isList (by simp;omega) fun h' eb=>⟨rfl,I.turned (t':=s.toks) (fun b o hb e=>eb b o hb e) f0 f1 f3 f4 f5⟩
 self:=fun _ _ _ _ _ st h=>wpAny_pyIter_listiter st h
theorem jJw{P:Program}{w:World}{K:QD}{tg:Expr}(a it:Addr):Turn P w K tg (Itt K a) [it] it (fun i h=>h.IsTupleIter it a i) where
 mem:=by simp
 obj:=fun i h st b hb=>by
  have e:b=it:=by simpa using hb
  subst e;obtain⟨o,e,c,d⟩:=st;exact⟨o,e,fun v z=>by rw[d]at z;cases z⟩
 keep:=fun i h h' st k=>st.at fun o e=>k it (by simp) o e
 item:=by
  intro X hP hw hK hc i pins s σ H E I hf st hg;subst hP hw hK;obtain⟨xs,x,hq,hx⟩:=hg;obtain⟨its,rv,p,hz⟩:=I.tuple hq;obtain⟨u,hu,ru⟩:=rv.get hx;obtain⟨f0,f1,f2,f3,f4,f5⟩:=hf it (by simp);refine wpAny_pyNext_tuple_item st (show s.heap.IsTuple a its.toArray from p) (x:=u) (by simpa using hu) fun h' st' sb=>?_;have I1:Inv X pins σ H { s with heap:=h' }:=I.turned (t':=s.toks) (fun b o hb e=>(sb.2 b hb).trans e) f0 f1 f3 f4 f5;obtain⟨o,e,c,d⟩:=id st';exact⟨u,rfl,jML (s:={ s with heap:=h' }) e c d (by decide) ⟨x,H,I1,ru,⟨rfl,fun ys hy=>by rw[I.tuple_inj hy hq];exact hx⟩,st',fun b hb=>(hf b hb).1⟩⟩
 done:=by
  intro X hP hw hK hc i pins s σ H E I hf st hg;subst hP hw hK;obtain⟨xs,hq,hx⟩:=hg;obtain⟨its,rv,p,hz⟩:=I.tuple hq;obtain⟨f0,f1,f2,f3,f4,f5⟩:=hf it (by simp);have hl:=rv.length;exact wpAny_pyNext_tuple_end (I.ok.hd hc) st (show s.heap.IsTuple a its.toArray from p) (by simp;omega) fun h' eb=>⟨rfl,I.turned (t':=s.toks) (fun b o hb e=>eb b o hb e) f0 f1 f3 f4 f5⟩
 self:=fun _ _ _ _ _ st h=>wpAny_pyIter_tupleiter st h
theorem jJx{P:Program}{w:World}{K:QD}{tg:Expr}(it:Addr)(lo:Int)(n:Nat):Turn P w K tg (Itr lo n) [it] it (fun i h=>IsRangeIter h it (lo+(i:Nat) * 1) ((n:Int) - (i:Nat)) 1) where
 mem:=by simp
 obj:=fun i h st b hb=>by
  have e:b=it:=by simpa using hb
  subst e;exact⟨_,st,fun v z=>by
   have z':Data.fields _=Data.cell v:=z;cases z'⟩
 keep:=fun i h h' st k=>k it (by simp) _ st
 item:=by
  intro X hP hw hK hc i pins s σ H E I hf st hg;subst hP hw hK;obtain⟨f0,f1,f2,f3,f4,f5⟩:=hf it (by simp);have W:=Walks.range (prog:=X.prog) (w:=X.w) (I.ok.hd hc) it lo 1 n;refine W.item i s _ _ hg st fun v h' tk hv st' kk=>?_;obtain⟨t,rfl⟩:=hv;have I1:Inv X pins σ H { s with heap:=h',toks:=tk }:=I.turned (fun b o hb e=>kk b o (by simpa using hb) e) f0 f1 f3 f4 f5;refine⟨_,rfl,jML (s:={ s with heap:=h',toks:=tk }) (n:="range_iterator") st' rfl rfl (by decide) ⟨.int (lo+i),H,I1,⟨t,?_⟩,⟨rfl,rfl⟩,st',fun b hb=>(hf b hb).1⟩⟩;rw[Int.mul_one]
 done:=by
  intro X hP hw hK hc i pins s σ H E I hf st hg;subst hP hw hK;obtain⟨f0,f1,f2,f3,f4,f5⟩:=hf it (by simp);exact wpAny_pyNext_range_end (I.ok.hd hc) st (by have:n<=i:=hg;omega) fun h' eb=>⟨rfl,I.turned (t':=s.toks) (fun b o hb e=>eb b o hb e) f0 f1 f3 f4 f5⟩
 self:=fun _ _ _ _ _ st h=>wpAny_pyIter_rangeiter st h
section
variable{X:Cx}{tg:Expr}
theorem jNT{pins:LAO}{σ:St}{H:Hp}{s:Shared}{R:It->Hp->Prop}{E:VSP}{lo hi:Int}{t u v:Tok}{tk:Nat}(I:Inv X pins σ H s)(h1:-(2 ^ 62)<=lo)(h2:lo<2 ^ 62)(h3:-(2 ^ 62)<=hi)(h4:hi<2 ^ 62)
  (q:R (Itr lo (hi - lo).toNat) H):wpAny (model X.prog X.w) X.A (pyIter (.ref s.heap.objs.size)) (PIE X pins σ tg R) E { s with heap:=s.heap.push { cls:=.type "range",data:=.fields #[.int lo t,.int hi u,.int 1 v] },toks:=tk }:=by
 refine wpAny_pyIter_range (IsRange.new ..) (small_one h1 h2 h3 h4) ?_;have I1:Inv X pins σ H { s with heap:=s.heap.push { cls:=.type "range",data:=.fields #[.int lo t,.int hi u,.int 1 v] },toks:=tk }:=I.kept fun b o e=>QH _ e;refine⟨(s.heap.push { cls:=.type "range",data:=.fields #[.int lo t,.int hi u,.int 1 v] }).objs.size,[(s.heap.push { cls:=.type "range",data:=.fields #[.int lo t,.int hi u,.int 1 v] }).objs.size],_,_,H,rfl,
  I1.kept (t':=tk) fun b o e=>QH _ e,jJx _ lo (hi - lo).toNat,?_,fun b hb=>?_,q⟩
 ·have e1:lo+((0:Nat):Int) * 1=lo:=by simp
  have e2:(((hi - lo).toNat:Nat):Int) - ((0:Nat):Int)=Builtin.Range.rangeSize lo hi 1:=by rw[rangeSize_one];split<;>omega
  show IsRangeIter _ _ (lo+((0:Nat):Int) * 1) ((((hi - lo).toNat:Nat):Int) - ((0:Nat):Int)) 1;rw[e1,e2];exact QN _ rfl
 ·have e:b=(s.heap.push { cls:=.type "range",data:=.fields #[.int lo t,.int hi u,.int 1 v] }).objs.size:=by simpa using hb
  subst e;exact I1.fpOk (QU _) (I1.hok.fresh (QU _))
noncomputable def jYK(wi:TI)(g:TG)(tb:TS):TS:=fun D σ H=>wi σ H fun J H1=>∃W:Nat->Nat->St->Hp->Prop,(∃m,W 0 m σ H1)/\∀i m σ H,W i m σ H ->
 (J.stop i H/\D.nx σ H)∨(J.go i H/\∃N:St->Hp->Prop,(∀σ' H',N σ' H'->∃m',m' < m/\W (i+1) m' σ' H')/\∀x H',J.yld i H x H'->g x σ H' fun σ2 H2=>tb { D with nx:=N,ct:=N,bk:=D.nx } σ2 H2)
noncomputable def jGq(fp:List Addr)(h:Heap):LAO:=fp.filterMap fun b=>(h.get? b).map fun o=>(b,o)
theorem jCR{fp:List Addr}{h:Heap}{b:Addr}{o:Obj}(hb:b∈fp)(e:h.get? b=some o):(b,o)∈jGq fp h:=QBV.mpr ⟨b,hb,by rw[e];rfl⟩
theorem jLi{fp:List Addr}{h:Heap}{p:Addr×Obj}(hp:p∈jGq fp h):p.1∈fp/\h.get? p.1=some p.2:=by
 obtain⟨b,hb,e⟩:=QBV.mp hp;cases q:h.get? b with
 |none=>rw[q]at e;cases e
 |some o =>
  rw[q]at e;have e':(b,o)=p:=Q9 e;subst e';exact⟨hb,q⟩
theorem Inv.pinned{pins:LAO}{σ:St}{H:Hp}{s:Shared}{fp:List Addr}(I:Inv X pins σ H s)(hf:∀b∈fp,jJp X pins H b)(ho:∀b∈fp,∃o,s.heap.get? b=some o/\∀v,o.data≠.cell v):Inv X (pins++jGq fp s.heap) σ H s :=
 I.pins_of fun p hp=>(Qd.mp hp).elim (fun z=>I.pin p (QV _ z)) fun z=>by
  obtain⟨hb,e⟩:=jLi z;obtain⟨f0,f1,f2,_⟩:=hf p.1 hb;obtain⟨o,e',d⟩:=ho p.1 hb;rw[e]at e';cases e';exact⟨e,f0,f1,f2,d⟩
theorem Inv.unpinned{pins pl:LAO}{σ:St}{H:Hp}{s:Shared}(I:Inv X (pins++pl) σ H s):Inv X pins σ H s:=I.pins_of fun p hp=>I.pin p (QV _ (Qk _ hp))
theorem jSt{iter:Expr}{body:List Stmt}{wi:TI}{g:TG}{tb:TS}{pos:Pos}(hp:PassesOwn (model X.prog X.w) X.A X.env X.xe)(hc:X.calm=true)(hi:PI0 X tg iter wi)(hg:PG X tg g)(hb:PSs X body tb)
  (hs:∀x,foldedSetIterable iter X.env x=pure x:=by intro _;rfl):PS X (.For tg iter body [] pos) (jYK wi g tb):=by
 intro pins s σ H D I h;refine wpAny_For (thn (hi pins s σ H _ I h) fun v s1 h1=>thn h1 fun itv s2 h2=>?_) hs;obtain⟨it,fp,tn,J,H2,e,I2,T,st2,f2,W,⟨m0,w0⟩,turn⟩:=h2;subst e;have stat:∀{H':Hp},(∀b∈fp,H' b=none)->∀b∈fp,jJp X pins H' b:=fun hn b hb=>⟨hn b hb,(f2 b hb).2⟩
 refine codeAny_forLoop_any (fun n s'=>∃i σ' H',Inv X pins σ' H' s'/\tn i s'.heap/\(∀b∈fp,H' b=none)/\W i n σ' H') ?_ m0 ⟨0,σ,H2,I2,st2,fun b hb=>(f2 b hb).1,w0⟩;rintro n s3 ⟨i,σ3,H3,I3,st3,fr3,w3⟩;rcases turn i n σ3 H3 w3 with⟨stop,qn⟩| ⟨go,N,hN,step⟩
 ·refine wZ hp (thn (T.done X rfl rfl rfl hc i pins s3 σ3 H3 X.xe I3 (stat fr3) st3 stop) fun r s4 ⟨hr,I4⟩=>?_)
  subst hr;exact W4 ⟨σ3,H3,I4,qn⟩
 ·refine wZ hp (thn (T.item X rfl rfl rfl hc i pins s3 σ3 H3 X.xe I3 (stat fr3) st3 go) fun r s4 ⟨u,hr,h4⟩=>?_)
  subst hr;refine wZ hp (thn h4 fun _ s5 ⟨x,H5,I5,r5,y5,st5,fr5⟩=>?_);have I5':=I5.pinned (stat fr5) (T.obj _ _ st5);refine wZ hp (thn (hg _ s5 σ3 H5 x u _ I5' r5 (step x H5 y5)) fun _ s6 ⟨σ6,H6,I6,q6⟩=>?_);refine wZ hp (thn (hb _ s6 σ6 H6 _ I6 q6) fun f s7 q7=>?_);have again:∀{σ7:St}{H7:Hp},Inv X (pins++jGq fp s5.heap) σ7 H7 s7->N σ7 H7->∃m,m<n/\∃i σ' H',Inv X pins σ' H' s7/\tn i s7.heap/\(∀b∈fp,H' b=none)/\W i m σ' H':=fun {σ7 H7} I7 n7=>by
   obtain⟨m',hm,w7⟩:=hN σ7 H7 n7;refine⟨m',hm,i+1,σ7,H7,I7.unpinned,T.keep _ _ _ st5 fun b hb o e=>(I7.pin (b,o) (QV _ (QV _ (jCR hb e)))).1,fun b hb=>?_,w7⟩;obtain⟨o,e,d⟩:=T.obj _ _ st5 b hb;exact(I7.pin (b,o) (QV _ (QV _ (jCR hb e)))).2.1
  cases f with
  |next=>obtain⟨σ7,H7,I7,n7⟩:=q7;exact again I7 n7
  |cont=>obtain⟨σ7,H7,I7,n7⟩:=q7;exact again I7 n7
  |brk=>obtain⟨σ7,H7,I7,q7⟩:=q7;exact⟨σ7,H7,I7.unpinned,q7⟩
  |ret v=>obtain⟨x7,σ7,H7,I7,r7,q7⟩:=q7;exact⟨x7,σ7,H7,I7.unpinned,r7,q7⟩
end
noncomputable abbrev R2:=V->V->Hp->VK->Prop
def OpR(X:Cx)(f:Value->Value->Sem Value)(r:R2):Prop :=
 ∀(pins:LAO) (s:Shared) (σ:St) (H:Hp) (x y:V) (v u:Value) (Q:VK),Inv X pins σ H s->jAm x v->jAm y u->r x y H Q ->
  wpAny (model X.prog X.w) X.A (f v u) (EP X pins σ Q) X.xe s
def UnR(X:Cx)(f:Value->Sem Value)(r:V->Hp->VK->Prop):Prop :=
 ∀(pins:LAO) (s:Shared) (σ:St) (H:Hp) (x:V) (v:Value) (Q:VK),Inv X pins σ H s->jAm x v->r x H Q ->
  wpAny (model X.prog X.w) X.A (f v) (EP X pins σ Q) X.xe s
def jCW(X:Cx)(f:Value)(r:List V->Hp->VK->Prop):Prop :=
 ∀(pins:LAO) (s:Shared) (σ:St) (H:Hp) (xs:List V) (us:List Value) (Q:VK),Inv X pins σ H s->jAQ xs us->r xs H Q ->
  wpAny (model X.prog X.w) X.A (call f us) (EP X pins σ Q) X.xe s
def jZA(X:Cx)(r:V->Hp->(Bool->Hp->Prop)->Prop):Prop :=
 ∀(pins:LAO) (s:Shared) (σ:St) (H:Hp) (x:V) (v:Value) (Q:Bool->Hp->Prop),Inv X pins σ H s->jAm x v->r x H Q ->
  wpAny (model X.prog X.w) X.A (truthy v) (TP X pins σ Q) X.xe s
noncomputable def tOp(r:R2)(ta tb:TE):TE:=fun σ H Q=>ta σ H fun x H1=>tb σ H1 fun y H2=>r x y H2 Q
noncomputable def tUn(r:V->Hp->VK->Prop)(ta:TE):TE:=fun σ H Q=>ta σ H fun x H1=>r x H1 Q
noncomputable def rI(C:Int->Int->Prop)(g:Int->Int->V):R2:=fun x y H Q=>∃i j,x=.int i/\y=.int j/\C i j/\Q (g i j) H
noncomputable def rI0(g:Int->Int->V):R2:=fun x y H Q=>∃i j,x=.int i/\y=.int j/\Q (g i j) H
noncomputable def rU(g:Int->V):V->Hp->VK->Prop:=fun x H Q=>∃i,x=.int i/\Q (g i) H
section
variable{X:Cx}{a b c:Expr}{ta tb tc:TE}{pos:Pos}
theorem binT(ha:PE X a ta)(hb:PE X b tb){pins:LAO}{s:Shared}{σ:St}{H:Hp}{R:V->V->Hp->Prop}(I:Inv X pins σ H s)
  (h:ta σ H fun x H1=>tb σ H1 fun y H2=>R x y H2) {Q:VSP}{f:Value->Value->Sem Value}
  (hf:∀v u s2 x y H2,Inv X pins σ H2 s2->jAm x v->jAm y u->R x y H2->wpAny (model X.prog X.w) X.A (f v u) Q X.xe s2) :
  wpAny (model X.prog X.w) X.A (eval a X.env) (fun v s₁=>wpAny (model X.prog X.w) X.A (eval b X.env) (fun u s₂=>wpAny (model X.prog X.w) X.A (f v u) Q X.xe s₂) X.xe s₁) X.xe s:=by
 refine thn (ha pins s σ H _ I h) fun v s1 ⟨x,H1,I1,r1,q1⟩=>?_;refine thn (hb pins s1 σ H1 _ I1 q1) fun u s2 ⟨y,H2,I2,r2,q2⟩=>?_;exact hf v u s2 x y H2 I2 r1 r2 q2
theorem jWI{op:Operator}{r:R2}(ho:OpR X (binaryOp op) r)(ha:PE X a ta)(hb:PE X b tb):PE X (.BinOp a op b pos) (tOp r ta tb):=by
 intro pins s σ H Q I h;exact wpAny_BinOp (binT ha hb I h fun v u s2 x y H2 I2 rx ry q=>ho pins s2 σ H2 x y v u Q I2 rx ry q)
theorem jWH{op:UnaryOp}{r:V->Hp->VK->Prop}(ho:UnR X (unaryOp op) r)(ha:PE X a ta):PE X (.UnaryOp op a pos) (tUn r ta):=by
 intro pins s σ H Q I h;exact UnaryOp_ (thn (ha pins s σ H _ I h) fun v s1 ⟨x,H1,I1,r1,q1⟩=>ho pins s1 σ H1 x v Q I1 r1 q1)
theorem opI{f:Value->Value->Sem Value}{C:Int->Int->Prop}{g:Int->Int->Int}
  (rule:∀(i j:Int) (t u:Tok) (s:Shared) (Q:VSP) (E:VSP),C i j->Q (.int (g i j) s.toks) { s with toks:=s.toks+1 }->wpAny (model X.prog X.w) X.A (f (.int i t) (.int j u)) Q E s) :
  OpR X f (rI C fun i j=>.int (g i j)):=by
 intro pins s σ H x y v u Q I rx ry h;obtain⟨i,j,rfl,rfl,hc,q⟩:=h;obtain⟨t,rfl⟩:=rx;obtain⟨t',rfl⟩:=ry;exact rule i j t t' s _ _ hc ⟨.int (g i j),H,I.tok _,⟨_,rfl⟩,q⟩
theorem jXZ{f:Value->Value->Sem Value}{g:Int->Int->Int}
  (rule:∀(i j:Int) (t u:Tok) (s:Shared) (Q:VSP) (E:VSP),Q (.int (g i j) s.toks) { s with toks:=s.toks+1 }->wpAny (model X.prog X.w) X.A (f (.int i t) (.int j u)) Q E s) :
  OpR X f (rI0 fun i j=>.int (g i j)):=by
 intro pins s σ H x y v u Q I rx ry h;obtain⟨i,j,rfl,rfl,q⟩:=h;obtain⟨t,rfl⟩:=rx;obtain⟨t',rfl⟩:=ry;exact rule i j t t' s _ _ ⟨.int (g i j),H,I.tok _,⟨_,rfl⟩,q⟩
theorem jVi{f:Value->Value->Sem Value}{g:Int->Int->Bool}
  (rule:∀(i j:Int) (t u:Tok) (s:Shared) (Q:VSP) (E:VSP),Q (.bool (g i j)) s->wpAny (model X.prog X.w) X.A (f (.int i t) (.int j u)) Q E s) :
  OpR X f (rI0 fun i j=>.bl (g i j)):=by
 intro pins s σ H x y v u Q I rx ry h;obtain⟨i,j,rfl,rfl,q⟩:=h;obtain⟨t,rfl⟩:=rx;obtain⟨t',rfl⟩:=ry;exact rule i j t t' s _ _ ⟨.bl (g i j),H,I,rfl,q⟩
def jM8(i j:Int):Prop:=(-(2 ^ 64)<i/\i<2 ^ 64)∨(-(2 ^ 64)<j/\j<2 ^ 64)
theorem jM8.ok{i j:Int}(h:jM8 i j):IntMulOk i j:=by
 rcases h with⟨h1,h2⟩| ⟨h1,h2⟩
 ·exact .of_left (intBits_le_64 h1 h2)
 ·exact .of_right (intBits_le_64 h1 h2)
theorem op_add:OpR X (binaryOp .Add) (rI0 fun i j=>.int (i+j)):=jXZ fun _ _ _ _ _ _ _ q=>add_int q
theorem op_sub:OpR X (binaryOp .Sub) (rI0 fun i j=>.int (i - j)):=jXZ fun _ _ _ _ _ _ _ q=>sub_int q
theorem op_mod:OpR X (binaryOp .Mod) (rI (fun _ j=>0<j) fun i j=>.int (i % j)):=opI fun i j _ _ _ _ _ hc q=>by
 have h1:(0:Int)<j:=hc;exact mod_int' (by omega) (by rw[Int.fmod_eq_emod_of_nonneg i (by omega)];exact q)
theorem unI{f:Value->Sem Value}{g:Int->Int}
  (rule:∀(i:Int) (t:Tok) (s:Shared) (Q:VSP) (E:VSP),Q (.int (g i) s.toks) { s with toks:=s.toks+1 }->wpAny (model X.prog X.w) X.A (f (.int i t)) Q E s) :
  UnR X f (rU fun i=>.int (g i)):=by
 intro pins s σ H x v Q I rx h;obtain⟨i,rfl,q⟩:=h;obtain⟨t,rfl⟩:=rx;exact rule i t s _ _ ⟨.int (g i),H,I.tok _,⟨_,rfl⟩,q⟩
theorem jSP:UnR X (unaryOp .USub) (rU fun i=>.int (-i)):=unI fun _ _ _ _ _ q=>neg_int q
end
noncomputable def jVh:V->V->Bool
 | .non,.non=>true | .non,.int _=>true | .int _,.non=>true | .non,.bl _=>true | .bl _,.non=>true | .non,.str _=>true | .str _,.non=>true
 | .int _,.int _=>true | .bl _,.bl _=>true | .str _,.str _=>true | .byt _,.byt _=>true
 | .int _,.str _=>true | .str _,.int _=>true | .bl _,.str _=>true | .str _,.bl _=>true
 |_,_=>false
noncomputable def rEq:R2:=fun x y H Q=>jVh x y=true/\Q (.bl (decide (x=y))) H
noncomputable def rNe:R2:=fun x y H Q=>jVh x y=true/\Q (.bl (!decide (x=y))) H
theorem jMf{i j:Int}:decide (V.int i=V.int j)=(i==j):=by
 rw[qQ];simp
theorem jPX{i j:Bool}:decide (V.bl i=V.bl j)=(i==j):=by
 rw[qQ];simp
theorem jMe{i j:Str}:decide (V.str i=V.str j)=(i==j):=by
 rw[qQ];simp
theorem jMg{i j:Array UInt8}:decide (V.byt i=V.byt j)=(i.toList==j.toList):=by
 rw[qQ];cases i;cases j;simp
section
variable{X:Cx}{a b c:Expr}{ta tb tc:TE}{pos:Pos}
theorem jAL{pins:LAO}{σ:St}{H:Hp}{s:Shared}{Q:VK}{k k':Bool}(I:Inv X pins σ H s)(q:Q (.bl k) H)(e:k=k'):EP X pins σ Q (.bool k') s:=by
 subst e;exact⟨.bl k,H,I,rfl,q⟩
theorem op_eq:OpR X (compareOp .Eq) rEq:=by
 intro pins s σ H x y v u Q I rx ry h;obtain⟨hs,q⟩:=h;cases x with
 |non =>
  cases rx;cases y with
  |non=>cases ry;exact PySem.EqNone.eq_none_none (jAL I q (by simp))
  |bl j=>cases ry;exact PySem.EqNone.eq_none_bool (jAL I q (by simp))
  |int j=>obtain⟨t',rfl⟩:=ry;exact PySem.EqNone.eq_none_int (jAL I q (by simp))
  |str j=>obtain⟨t',rfl⟩:=ry;exact PySem.EqNone.eq_none_str (jAL I q (by simp))
  |_=>exact absurd (show false=true from hs) QC
 |bl i =>
  cases rx;cases y with
  |non=>cases ry;exact PySem.EqNone.eq_bool_none (jAL I q (by simp))
  |bl j=>cases ry;exact eq_bool (jAL I q jPX)
  |str j=>obtain⟨t',rfl⟩:=ry;exact PySem.EqMixed.eq_bool_str (jAL I q (by simp))
  |_=>exact absurd (show false=true from hs) QC
 |int i =>
  obtain⟨t,rfl⟩:=rx;cases y with
  |non=>cases ry;exact PySem.EqNone.eq_int_none (jAL I q (by simp))
  |int j=>obtain⟨t',rfl⟩:=ry;exact eq_int (jAL I q jMf)
  |str j=>obtain⟨t',rfl⟩:=ry;exact PySem.EqMixed.eq_int_str (jAL I q (by simp))
  |_=>exact absurd (show false=true from hs) QC
 |str i =>
  obtain⟨t,rfl⟩:=rx;cases y with
  |non=>cases ry;exact PySem.EqNone.eq_str_none (jAL I q (by simp))
  |bl j=>cases ry;exact PySem.EqMixed.eq_str_bool (jAL I q (by simp))
  |int j=>obtain⟨t',rfl⟩:=ry;exact PySem.EqMixed.eq_str_int (jAL I q (by simp))
  |str j=>obtain⟨t',rfl⟩:=ry;exact eq_str (jAL I q jMe)
  |_=>exact absurd (show false=true from hs) QC
 |byt i =>
  obtain⟨t,rfl⟩:=rx;cases y with
  |byt j=>obtain⟨t',rfl⟩:=ry;exact PySem.W.eq_bytes (jAL I q jMg)
  |_=>exact absurd (show false=true from hs) QC
 |_=>cases y<;>exact absurd (show false=true from hs) QC
theorem op_ne:OpR X (compareOp .NotEq) rNe:=by
 intro pins s σ H x y v u Q I rx ry h;obtain⟨hs,q⟩:=h;cases x with
 |non =>
  cases rx;cases y with
  |non=>cases ry;exact PySem.EqNone.ne_none_none (jAL I q (by simp))
  |bl j=>cases ry;exact PySem.EqNone.ne_none_bool (jAL I q (by simp))
  |int j=>obtain⟨t',rfl⟩:=ry;exact PySem.EqNone.ne_none_int (jAL I q (by simp))
  |str j=>obtain⟨t',rfl⟩:=ry;exact PySem.EqNone.ne_none_str (jAL I q (by simp))
  |_=>exact absurd (show false=true from hs) QC
 |bl i =>
  cases rx;cases y with
  |non=>cases ry;exact PySem.EqNone.ne_bool_none (jAL I q (by simp))
  |bl j=>cases ry;exact ne_bool (jAL I q (congrArg not jPX))
  |str j=>obtain⟨t',rfl⟩:=ry;exact PySem.EqMixed.ne_bool_str (jAL I q (by simp))
  |_=>exact absurd (show false=true from hs) QC
 |int i =>
  obtain⟨t,rfl⟩:=rx;cases y with
  |non=>cases ry;exact PySem.EqNone.ne_int_none (jAL I q (by simp))
  |int j=>obtain⟨t',rfl⟩:=ry;exact ne_int (jAL I q (congrArg not jMf))
  |str j=>obtain⟨t',rfl⟩:=ry;exact PySem.EqMixed.ne_int_str (jAL I q (by simp))
  |_=>exact absurd (show false=true from hs) QC
 |str i =>
  obtain⟨t,rfl⟩:=rx;cases y with
  |non=>cases ry;exact PySem.EqNone.ne_str_none (jAL I q (by simp))
  |bl j=>cases ry;exact PySem.EqMixed.ne_str_bool (jAL I q (by simp))
  |int j=>obtain⟨t',rfl⟩:=ry;exact PySem.EqMixed.ne_str_int (jAL I q (by simp))
  |str j=>obtain⟨t',rfl⟩:=ry;exact ne_str (jAL I q (congrArg not jMe))
  |_=>exact absurd (show false=true from hs) QC
 |byt i =>
  obtain⟨t,rfl⟩:=rx;cases y with
  |byt j=>obtain⟨t',rfl⟩:=ry;exact PySem.W.ne_bytes (jAL I q (congrArg not jMg))
  |_=>exact absurd (show false=true from hs) QC
 |_=>cases y<;>exact absurd (show false=true from hs) QC
theorem op_lt:OpR X (compareOp .Lt) (rI0 fun i j=>.bl (decide (i<j))):=jVi fun _ _ _ _ _ _ _ q=>lt_int q
theorem op_le:OpR X (compareOp .LtE) (rI0 fun i j=>.bl (decide (i<=j))):=jVi fun _ _ _ _ _ _ _ q=>le_int q
theorem op_gt:OpR X (compareOp .Gt) (rI0 fun i j=>.bl (decide (j<i))):=jVi fun _ _ _ _ _ _ _ q=>gt_int q
theorem op_ge:OpR X (compareOp .GtE) (rI0 fun i j=>.bl (decide (j<=i))):=jVi fun _ _ _ _ _ _ _ q=>ge_int q
theorem jLW:OpR X (compareOp .In) (fun x y H Q=>∃i j,x=.str i/\y=.str j/\Q (.bl (!(wl j i 0 j.length 1).isEmpty)) H):=by
 intro pins s σ H x y v u Q I rx ry h;obtain⟨i,j,rfl,rfl,q⟩:=h;obtain⟨t,rfl⟩:=rx;obtain⟨t',rfl⟩:=ry;exact in_str (jAL I q rfl)
theorem jGs:OpR X (compareOp .NotIn) (fun x y H Q=>∃i j,x=.str i/\y=.str j/\Q (.bl (!(!(wl j i 0 j.length 1).isEmpty))) H):=by
 intro pins s σ H x y v u Q I rx ry h;obtain⟨i,j,rfl,rfl,q⟩:=h;obtain⟨t,rfl⟩:=rx;obtain⟨t',rfl⟩:=ry;exact notIn_str (jAL I q rfl)
theorem OpR.or{f:Value->Value->Sem Value}{r r':R2}(h:OpR X f r)(h':OpR X f r'):OpR X f (fun x y H Q=>r x y H Q∨r' x y H Q):=by
 intro pins s σ H x y v u Q I rx ry q;rcases q with q|q
 ·exact h pins s σ H x y v u Q I rx ry q
 ·exact h' pins s σ H x y v u Q I rx ry q
theorem jQh{op:CmpOp}{r:R2}(ho:OpR X (compareOp op) r)(ha:PE X a ta)(hb:PE X b tb)(hm:behindInMarks op b=false):PE X (.Compare a [op] [b] pos) (tOp r ta tb):=by
 intro pins s σ H Q I h;exact wpAny_Compare1 (binT ha hb I h fun v u s2 x y H2 I2 rx ry q=>ho pins s2 σ H2 x y v u Q I2 rx ry q) hm
noncomputable def jV4(t:TE):TT:=fun σ H Q=>t σ H fun x H'=>∃k,x=.bl k/\Q k H'
theorem jQP{op:CmpOp}{r:R2}(ho:OpR X (compareOp op) r)(ha:PE X a ta)(hb:PE X b tb)(hm:behindInMarks op b=false):PT X (.Compare a [op] [b] pos) (jV4 (tOp r ta tb)):=by
 intro pins s σ H Q I h;refine wpAny_isTrue_Compare1 (thn (ha pins s σ H _ I h) fun v s1 ⟨x,H1,I1,r1,q1⟩=>thn (hb pins s1 σ H1 _ I1 q1) fun u s2 ⟨y,H2,I2,r2,q2⟩ =>
  thn (ho pins s2 σ H2 x y v u _ I2 r1 r2 q2) fun c s3 ⟨z,H3,I3,r3,k,e,q3⟩=>?_) hm
 subst e;cases r3;exact wD ⟨H3,I3,q3⟩
def jWu(K:QD)(x:V)(H:Hp)(k:Bool):Prop :=
 match x with
 | .non=>k=false
 | .bl b=>k=b
 | .int i=>k=(i != 0)
 | .str y=>y.length<=sizeLine/\k=((y.length:Int) != 0)
 | .byt y=>y.size<=sizeLine/\k=((y.size:Int) != 0)
 | .ref p=>(∃xs,SqL K H p xs/\k=!xs.isEmpty)∨(∃xs,SqT K H p xs/\k=!xs.isEmpty)∨∃kvs,H p=some (.dK kvs)/\k=!kvs.isEmpty
 |_=>False
theorem jKE{κ:Type}{kvs:List (κ×V)}{vs:List (κ×Value)}(r:KV kvs vs):(!vs.isEmpty)=!kvs.isEmpty:=by
 cases r<;>rfl
theorem jFd{xs:List V}{its:List Value}(r:jAQ xs its):(!its.toArray.isEmpty)=!xs.isEmpty:=by
 cases r<;>simp
theorem jEe:(sizeLine:Nat)<2 ^ 63:=by rw[QW];decide
theorem jOk:jZA X (fun x H Q=>∃k,jWu X.K x H k/\Q k H):=by
 intro pins s σ H x v Q I rx h;obtain⟨k,e,q⟩:=h;have hl:=jEe;have hs:sizeLine=16777216:=QW;cases x with
 |non =>
  cases rx;have e':k=false:=e;subst e';exact truthy_none ⟨H,I,q⟩
 |bl b =>
  cases rx;have e':k=b:=e;subst e';exact wD ⟨H,I,q⟩
 |int i =>
  obtain⟨t,rfl⟩:=rx;have e':k=(i != 0):=e;subst e';exact PySem.P.truthy_int ⟨H,I,q⟩
 |str y =>
  obtain⟨t,rfl⟩:=rx;obtain⟨hy,e'⟩:y.length<=sizeLine/\k=((y.length:Int) != 0):=e;subst e';exact PySem.P.truthy_str (by omega) ⟨H,I.tok _,q⟩
 |byt y =>
  obtain⟨t,rfl⟩:=rx;obtain⟨hy,e'⟩:y.size<=sizeLine/\k=((y.size:Int) != 0):=e;subst e';exact PySem.W.truthy_bytes (by omega) ⟨H,I.tok _,q⟩
 |ref p =>
  cases rx;have e':(∃xs,SqL X.K H p xs/\k=!xs.isEmpty)∨(∃xs,SqT X.K H p xs/\k=!xs.isEmpty)∨∃kvs,H p=some (.dK kvs)/\k=!kvs.isEmpty:=e;rcases e' with⟨xs,hx,e'⟩| ⟨xs,hx,e'⟩| ⟨kvs,hx,e'⟩
  ·subst e'
   obtain⟨its,r,pl,hz⟩:=I.list hx;have hlen:=r.length;exact wpAny_truthy_list pl.isList (by simp only[QS];omega) ⟨H,I.tok _,by rw[jFd r];exact q⟩
  ·subst e'
   obtain⟨its,r,pl,hz⟩:=I.tuple hx;have hlen:=r.length;exact truthy_tuple pl (by simp only[QS];omega) ⟨H,I.tok _,by rw[jFd r];exact q⟩
  ·subst e'
   obtain⟨hz,hS,vs,r,m⟩:kvs.length<=sizeLine/\(p==sysModules)=false/\∃vs,KV kvs vs/\s.heap.DictOf (jAh X.prog X.w) p vs:=I.hok p _ hx;have hlen:kvs.length=vs.length:=qS r;exact wpAny_truthy_dict hS m (by omega) ⟨H,I.tok _,by rw[jKE r];exact q⟩
 |_=>exact(show False from e).elim
theorem jJ7:OpR X (binaryOp .Add) (fun x y H Q=>∃i j,x=.str i/\y=.str j/\i.length+j.length<=sizeLine/\Q (.str (i++j)) H):=by
 intro pins s σ H x y v u Q I rx ry h;obtain⟨i,j,rfl,rfl,hz,q⟩:=h;obtain⟨t,rfl⟩:=rx;obtain⟨t',rfl⟩:=ry;exact add_str (fun t' tk=>⟨.str (i++j),H,I.tok _,⟨_,rfl⟩,q⟩) hz
theorem jGe{x:V}{us:List Value}(r:jAQ [x] us):∃u,us=[u]/\jAm x u:=by
 cases r with
 |cons r1 r2=>cases r2;exact⟨_,rfl,r1⟩
theorem jSN{x y:V}{us:List Value}(r:jAQ [x,y] us):∃u w',us=[u,w']/\jAm x u/\jAm y w':=by
 cases r with
 |cons r1 r2 =>
  cases r2 with
  |cons r3 r4=>cases r4;exact⟨_,_,rfl,r1,r3⟩
end
structure ObjM(h:Heap)(x dx C:Addr)(mA:Str->Option Value):Prop where
 obj:h.get? x=some (QAs C dx)
 ns:h.Ns1 dx mA
 ne:dx≠x
theorem jL1{h:Heap}{dx:Addr}{mA:Str->Option Value}(n:h.Ns1 dx mA):∃od,h.get? dx=some od/\∀name,QA9 name od=some (mA name):=by
 obtain⟨o,es,ep,ho,hd,hk,_,hm⟩:=n;refine⟨o,ho,fun name=>?_⟩;have e:=hm name;unfold nsFind findBy at e;rw[<- Array.find?_toList]at e;unfold QA9;rw[hd];dsimp only;split
 ·rename_i y q
  rw[q]at e;exact congrArg some e
 ·rename_i q
  rw[q]at e;have a:es.toList.any (·.refKey)=false:=by
   rw[QAQ];intro y hy;obtain⟨z,t,hkey⟩:=hk y (QA3.mp hy);simp[DictEntry.refKey,hkey]
  have a':¬ es.toList.any (·.refKey)=true:=by rw[a];exact QC
  rw[if_neg a'];exact congrArg some e
theorem ObjM.look{h:Heap}{x dx C:Addr}{mA:Str->Option Value}(I:ObjM h x dx C mA):∃od,PySem.W.InstAt h x (QAs C dx) C (some od)/\∀name,QA9 name od=some (mA name) :=
 let⟨od,ho,hl⟩:=jL1 I.ns
 ⟨od,⟨I.obj,rfl,rfl,ho⟩,hl⟩
section
variable{prog:Program}{w:World}{A:Around}{E:VSP}{s:Shared}{K:QD}{x dx C f:Addr}{mA:Str->Option Value}{name:Str}{v:Value}
end
section
variable{P:Program}{w:World}{H H':Hp}{h h':Heap}{a C dx:Addr}{fs fs':List (Str×V)}
theorem jRY(hok:HOk P w H h)(e:H a=some (.ins C dx fs)):∃mA,ObjM h a dx C mA/\(∀f,jPg (fs.lookup f) (mA f))/\PySem.Within mA (fs.map (·.1))/\fs.length<=1000/\H dx=some (.own a):=by
 obtain⟨d,z,ne,ob,mA,n,r,q⟩:=(show jAk P w H h a (.ins C dx fs) from hok a _ e)
 exact⟨mA,⟨ob,n,ne⟩,r,q,z,d⟩
end
structure Cls(K:QD)(C:Addr):Prop where
 pg:QBy K C Str.empty=true
 hd:PySem.W.hasDictIn K C=true
 po:PySem.W.plainOver K C=true
 sa:PySem.W.findIn K (.ref C) "__setattr__"=some (some (.builtin "object.__setattr__"))
theorem Cls.get{K:QD}{C:Addr}(c:Cls K C)(f:Str):QBy K C f=true:=c.pg
section
variable{X:Cx}{pins:LAO}{σ:St}{H:Hp}{s:Shared}{a C dx:Addr}{fs:List (Str×V)}{f:Str}{v:V}{A:Around}{E:VSP}
end
section
variable{X:Cx}{o e value:Expr}{f:Str}{pos pos' tpos:Pos}{ta tv:TE}
end
section
variable{X:Cx}{pins:LAO}{σ:St}{H:Hp}{s:Shared}{A:Around}{E:VSP}{Q:VSP}{c:Value}{b:Bool}
inductive TyOf(K:QD)(H:Hp):V->Value->Prop where
 |non:TyOf K H .non (.type "NoneType")
 |bl (x:Bool):TyOf K H (.bl x) (.type "bool")
 |int (i:Int):TyOf K H (.int i) (.type "int")
 |str (x:Str):TyOf K H (.str x) (.type "str")
 |flt (x:UInt64):TyOf K H (.flt x) (.type "float")
 |lst {a:Addr}{xs:List V}(e:H a=some (.lst xs)):TyOf K H (.ref a) (.type "list")
 |frz {a:Addr}{o:Obj}{xs:List V}(e:H a=some (.frz o (.lst xs))):TyOf K H (.ref a) (.type "list")
 |tup {a:Addr}{xs:List V}(e:H a=some (.tup xs)):TyOf K H (.ref a) (.type "tuple")
 |dK {a:Addr}{kvs:List (Key×V)}(e:H a=some (.dK kvs)):TyOf K H (.ref a) (.type "dict")
 |dT {a:Addr}{ep:Nat}{kvs:List (List Key×Addr×V)}(e:H a=some (.dT ep kvs)):TyOf K H (.ref a) (.type "dict")
 |ins {a C dx:Addr}{fs:List (Str×V)}(e:H a=some (.ins C dx fs)) (cl:Cls K C) (ha:PySem.W.findIn K (.ref C) "__class__"=some (some (.builtin "object.__class__")))
   (hn:PySem.W.specialIn K (.builtin "object.__class__") "__get__"=some (some (.builtin "getset_descriptor.__get__"))) (htk:PySem.W.takesIn K (.builtin "object.__class__")=some true)
   (hm:PySem.W.mroIn K C (.type "object")=some true):TyOf K H (.ref a) (.ref C)
theorem jMF{x:V}{u t:Value}(I:Inv X pins σ H s)(rx:jAm x u)(ty:TyOf X.K H x t)(e:QBA X.K t c=some b)(h:∀tk,Q (.bool b) { s with toks:=tk }) :
  wpAny (model X.prog X.w) A (call (.builtin "isinstance") [u,c]) Q E s:=by
 cases ty with
 |non=>cases(show u=Value.none from rx);exact qL PySem.W.kitx_none I.kIn True.intro e (fun z=>nomatch z) h
 |bl y=>cases(show u=Value.bool y from rx);exact qL PySem.W.kitx_bool I.kIn True.intro e (fun z=>nomatch z) h
 |int i=>obtain⟨t,q⟩:=(show ∃t,u=Value.int i t from rx);cases q;exact qL PySem.W.kitx_int I.kIn True.intro e (fun z=>nomatch z) h
 |str y=>obtain⟨t,q⟩:=(show ∃t,u=Value.str y t from rx);cases q;exact qL PySem.W.kitx_str I.kIn True.intro e (fun z=>nomatch z) h
 |flt y=>obtain⟨t,q⟩:=(show ∃t,u=Value.float y t from rx);cases q;exact qL PySem.W.kitx_float I.kIn True.intro e (fun z=>nomatch z) h
 |@lst a xs ea =>
  cases(show u=Value.ref a from rx);obtain⟨_,_,n,_,h1⟩:=(show jAk X.prog X.w H s.heap a (.lst xs) from I.hok a _ ea)
  exact qL QAR I.kIn ⟨_,h1,rfl⟩ e (fun z=>nomatch z) h
 |@frz a ob xs ea =>
  cases(show u=Value.ref a from rx);obtain⟨_,_,_,n,_,h1⟩:=(show jAk X.prog X.w H s.heap a (.frz ob (.lst xs)) from I.hok a _ ea)
  exact qL QAR I.kIn ⟨_,h1,rfl⟩ e (fun z=>nomatch z) h
 |@tup a xs ea =>
  cases(show u=Value.ref a from rx);obtain⟨_,_,_,p⟩:=(show jAk X.prog X.w H s.heap a (.tup xs) from I.hok a _ ea)
  obtain⟨o,h1,h2,_⟩:=p;exact qL QBW I.kIn ⟨o,h1,h2⟩ e (fun z=>nomatch z) h
 |@dK a kvs ea =>
  cases(show u=Value.ref a from rx);obtain⟨_,_,vs,_,p⟩:=(show jAk X.prog X.w H s.heap a (.dK kvs) from I.hok a _ ea)
  obtain⟨o,es,ep,h1,h2,_⟩:=p;exact qL QBe I.kIn ⟨o,h1,h2.1⟩ e (fun z=>nomatch z) h
 |@dT a ep kvs ea =>
  cases(show u=Value.ref a from rx);obtain⟨_,_,xs,_,o,es,h1,h2,_⟩:=(show jAk X.prog X.w H s.heap a (.dT ep kvs) from I.hok a _ ea)
  exact qL QBe I.kIn ⟨o,h1,h2.1⟩ e (fun z=>nomatch z) h
 |@ins a C dx fs ea cl ha hn htk hm =>
  cases(show u=Value.ref a from rx);obtain⟨mA,O,_⟩:=jRY I.hok ea;obtain⟨od,J,_⟩:=O.look;exact qL (PySem.W.kitx_own (cl.get _) cl.hd ha hn htk hm) I.kIn J e (fun z=>nomatch z) h
end
structure Room(k:Nat)(A:Around):Prop where
 hd:A.handled=none
 dp:A.depth+3 * k+5<recursionLimit
 un:A.units+16 * k+200<cLine
theorem Room.mono{j k:Nat}{A:Around}(r:Room k A)(h:j<=k):Room j A:=⟨r.hd,by have:=r.dp;omega,by have:=r.un;omega⟩
theorem Room.deeper{k:Nat}{A:Around}(r:Room (k+1) A)(env:Env):Room k (A.deeper env) :=
 ⟨r.hd,by have:=r.dp;show A.depth+1+3 * k+5<_;omega,by have:=r.un;show A.units+3+16 * k+200<_;omega⟩
theorem Room.depth{k:Nat}{A:Around}(r:Room k A):A.depth<recursionLimit:=by have:=r.dp;omega
noncomputable def jXD:TA:=fun _ H Q=>Q [] H
noncomputable def jV8(ta:TE)(tr:TA):TA:=fun σ H Q=>ta σ H fun x H1=>tr σ H1 fun xs H2=>Q (x::xs) H2
section
variable{X:Cx}{e:Expr}{es:List Expr}{te:TE}{t:TA}{pos:Pos}
theorem jPA:PA X [] jXD:=fun _ _ _ _ H Q I h=>QAS ⟨[],H,I,.nil,h⟩
theorem jHx(ha:PE X e te)(hr:PA X es t)(hs:starEach (e::es) X.env=(false,eval e X.env)::starEach es X.env:=by rfl):PA X (e::es) (jV8 te t):=by
 intro pos pins s σ H Q I h;rw[hs];show wpAny _ _ (spliced ((false,eval e X.env)::backTo pos (starEach es X.env))) _ _ s;refine QAF (thn (ha pins s σ H _ I h) fun u s1 ⟨x,H1,I1,r1,q1⟩=>?_);exact thn (hr pos pins s1 σ H1 _ I1 q1) fun us s2 ⟨xs,H2,I2,r2,q2⟩=>⟨x::xs,H2,I2,.cons r1 r2,q2⟩
noncomputable def jYD(t:TA):TE:=fun σ H Q=>t σ H fun xs H1=>xs.length<=sizeLine/\∀p,H1 p=none->Q (.ref p) (upd H1 p (.tup xs))
noncomputable def jYI(t:TA):TE:=fun σ H Q=>t σ H fun xs H1=>xs.length<=sizeLine/\∀p,H1 p=none->Q (.ref p) (upd H1 p (.lst xs))
theorem jS2{x1}(h:PA X es t):PE X (.Tuple es x1 pos) (jYD t):=by
 intro pins s σ H Q I hq;refine wpAny_Tuple_spliced (thn (h pos pins s σ H _ I hq) fun us s1 ⟨xs,H1,I1,r,z,q⟩=>⟨by rw[<- r.length];exact z,?_⟩);have hf:H1 s1.heap.objs.size=none:=I1.hok.fresh (QU _);refine⟨.ref s1.heap.objs.size,upd H1 s1.heap.objs.size (.tup xs),I1.laid (t':=s1.toks) (fun b u e=>QH _ e) (QU _) ?_,rfl,q _ hf⟩;exact⟨z,us,r,⟨_,QN _ rfl,rfl,_,rfl⟩⟩
theorem jS5(h:PA X es t):PE X (.List es pos) (jYI t):=by
 intro pins s σ H Q I hq;refine wpAny_List_spliced (thn (h pos pins s σ H _ I hq) fun us s1 ⟨xs,H1,I1,r,z,q⟩=>⟨by rw[<- r.length];exact z,?_⟩);have hf:H1 s1.heap.objs.size=none:=I1.hok.fresh (QU _);refine⟨.ref s1.heap.objs.size,upd H1 s1.heap.objs.size (.lst xs),I1.laid (t':=s1.toks) (fun b u e=>QH _ e) (QU _) ?_,rfl,q _ hf⟩;exact⟨z,us,0,r,QN _ rfl⟩
end
noncomputable abbrev Sp:=List V->Hp->VK->XK->Prop
noncomputable abbrev CXT:=List Env->Hp->Shared->XK->Value->Shared->Prop
structure Env0(P:Program)(w:World)(K:QD)(mg:Str->Option Value)(base:Heap)(A:Around)(outer:List Env)(s:Shared)(H:Hp):Prop where
 frames:A.frames=some outer
 mod:Mod K mg base
 bs:∀b o,base.get? b=some o->s.heap.get? b=some o/\H b=none
 bsz:base.objs.size<=s.heap.objs.size
 funs:s.heap.FunFrames base outer
 frf:∀b∈frs outer,H b=none
 hok:HOk P w H s.heap
 bare:AllBare s.gens
def CE(outer:List Env)(P:Program)(w:World)(H:Hp)(s:Shared)(Q:VK)(u:Value)(s':Shared):Prop :=
 ∃v H',s'.os=s.os/\AllBare s'.gens/\Un (frs outer) [] H H' s.heap s'.heap/\HOk P w H' s'.heap/\jAm v u/\Q v H'
def CR(CX:CXT)(outer:List Env)(P:Program)(w:World)(H:Hp)(s:Shared)(Q:VK)(E:XK)(r:Result)(s':Shared):Prop :=
 match r with
 | .ok (.ret u)=>CE outer P w H s Q u s'
 | .ok _=>False
 | .error e=>CX outer H s E e s'
structure FnOk(P:Program)(w:World)(K:QD)(mg:Str->Option Value)(base:Heap)(CX:CXT)(k:Nat)(f:Addr)(fd:FuncData)(ps:List Str)(sp:Sp):Prop where
 len:∀vs H Q E,sp vs H Q E->vs.length=ps.length
 run:∀(A:Around) (outer:List Env) (s:Shared) (H:Hp) (args:Args) (us:List Value) (vs:List V) (Q:VK) (E:XK),Room k A->Env0 P w K mg base A outer s H->BindsTo s fd args (ps.zip us)->jAQ vs us->sp vs H Q E ->
  codeAny (model P w) A (.call (.ref f) args) (CR CX outer P w H s Q E) s
theorem FnOk.mono{P:Program}{w:World}{K:QD}{mg:Str->Option Value}{base:Heap}{CX:CXT}{j k:Nat}{f:Addr}{fd:FuncData}{ps:List Str}{sp:Sp}(F:FnOk P w K mg base CX j f fd ps sp)(h:j<=k) :
  FnOk P w K mg base CX k f fd ps sp:=⟨F.len,fun A outer s H args us vs Q E hr=>F.run A outer s H args us vs Q E (hr.mono h)⟩
section
variable{X:Cx}{pins:LAO}{σ:St}{H:Hp}{s s':Shared}
theorem Inv.env0(I:Inv X pins σ H s):Env0 X.prog X.w X.K X.mg X.base X.A X.stack s H :=
 ⟨I.ok.frames,I.ok.mod,I.bs,QX I.ok.bsz I.sz,I.stack,I.stkFree,I.hok,I.bare⟩
theorem Inv.after{Q:VK}{u:Value}(I:Inv X pins σ H s)(h:CE X.stack X.prog X.w H s Q u s'):EP X pins σ Q u s':=by
 obtain⟨v,H',os,bare,un,hok,r,q⟩:=h;obtain⟨hh,g,d,t,os'⟩:=s';obtain rfl:os'=s.os:=os;exact⟨v,H',I.call (h':=hh) (g':=g) (d':=d) (t':=t) (ch:=[]) un hok bare (fun b z=>absurd z (by simp)),r,q⟩
end
noncomputable def jSS(sp:Sp)(dvs:List V)(E:XK)(t:TA):TE:=fun σ H Q=>t σ H fun vs H1=>sp (vs++dvs) H1 Q E
def jGW(K:QD)(fd:FuncData)(ps:List Str)(ds:List Value):Prop :=
 ∀(s:Shared) (us:List Value),K.In s.heap->(us++ds).length=ps.length->BindsTo s fd ⟨us,[]⟩ (ps.zip (us++ds))
theorem jGW.all{K:QD}{fd:FuncData}{ps:List Str}(h:∀us:List Value,us.length=ps.length->bindArgs fd ⟨us,[]⟩=pure (ps.zip us)):jGW K fd ps []:=fun s us _ hl=>by
 rw[wH]at hl ⊢;exact .of_eq (h us hl)
def jHb(CX:CXT)(X:Cx)(E:XK):Prop:=∀(pins:LAO) (σ:St) (H:Hp) (s:Shared) (e:Value) (s':Shared),Inv X pins σ H s->CX X.stack H s E e s'->X.xe e s'
section
variable{X:Cx}{CX:CXT}{k:Nat}{f C:Addr}{fd:FuncData}{ps:List Str}{sp:Sp}{dvs:List V}{ds:List Value}{E:XK}{x m:Str}{p pos apos:Pos}{e o:Expr}{es:List Expr}{ta:TE}{t:TA}
theorem jOy{pins:LAO}{σ:St}{H:Hp}{s:Shared}{Q:VK}{us:List Value}{vs:List V}(F:FnOk X.prog X.w X.K X.mg X.base CX k f fd ps sp)(hr:Room k X.A)(hb:jGW X.K fd ps ds)(hd:jAQ dvs ds)(hx:jHb CX X E)
  (I:Inv X pins σ H s) (r:jAQ vs us) (h:sp (vs++dvs) H Q E):wpAny (model X.prog X.w) X.A (call (.ref f) us) (EP X pins σ Q) X.xe s:=by
 have r2:jAQ (vs++dvs) (us++ds):=r.append hd;have hl:(us++ds).length=ps.length:=by rw[<- r2.length];exact F.len _ _ _ _ h
 refine wpAny_call (QAG (F.run X.A X.stack s H ⟨us,[]⟩ (us++ds) (vs++dvs) Q E hr I.env0 (hb s us I.kIn hl) r2 h) fun r s' hq=>?_);cases r with
 |error e=>exact hx pins σ H s e s' I hq
 |ok fl =>
  cases fl with
  |ret u=>exact I.after hq
  |next=>exact QZ hq
  |brk=>exact QZ hq
  |cont=>exact QZ hq
theorem jQi(F:FnOk X.prog X.w X.K X.mg X.base CX k f fd ps sp)(hr:Room k X.A)(hg:Gl X x)(hm:X.mg x=some (.ref f))(hk:wu X.K (.ref f)=true)(hb:jGW X.K fd ps ds)(hd:jAQ dvs ds)(hx:jHb CX X E)
  (ha:PA X (e::es) t) (hdb:(x==("__debug__":Str))=false:=by decide) (he:starEach (e::es) X.env=(false,eval e X.env)::starEach es X.env:=by rfl) (hpl:(backTo pos (starEach es X.env)).any (·.1)=false:=by rfl) :
  PE X (.Call (.Name x p) (e::es) [] pos) (jSS sp dvs E t):=by
 intro pins s σ H Q I h;refine qy (jH9 I hg hm ?_ hdb);refine PySem.W.callWith_K (h₀:=X.base) I.ok.mod.kin hk (thn (ha pos pins s σ H _ I h) fun us s1 ⟨vs,H1,I1,r,q⟩=>⟨I1.kIn,?_⟩) he hpl;exact jOy F hr hb hd hx I1 r q
theorem jNb(F:FnOk X.prog X.w X.K X.mg X.base CX k f fd ps sp)(hr:Room k X.A)(hg:Gl X x)(hm:X.mg x=some (.ref f))(hk:wu X.K (.ref f)=true)(hb:jGW X.K fd ps ds)(hd:jAQ dvs ds)(hx:jHb CX X E)
  (hdb:(x==("__debug__":Str))=false:=by decide):PE X (.Call (.Name x p) [] [] pos) (jSS sp dvs E jXD):=by
 intro pins s σ H Q I h;refine qy (jH9 I hg hm ?_ hdb);exact PySem.W.callWith_K0 I.kIn hk (jOy (us:=[]) F hr hb hd hx I .nil h)
end
section
variable{X:Cx}{CX:CXT}{k:Nat}{f C:Addr}{fd:FuncData}{ps ks:List Str}{sp:Sp}{E:XK}{x m:Str}{p pos apos kpos:Pos}{e o:Expr}{es:List Expr}{kws:List Keyword}{te ta:TE}{t tk:TA}{nm:Option Str}
variable{g:List Value->List Value->List Value}{gV:List V->List V->List V}
end
structure FnScope(N P:List Str)(sc:Scope):Prop where
 kind:sc.kind=.function
 co:sc.isCoroutine=false
 gen:sc.isGenerator=false
 nd:N.Nodup
 pre:N.take P.length=P
 par:∀x∈P,sc.names.lookup x=some .local∨sc.names.lookup x=some .cell
 nofree:∀y∈sc.names,y.2≠.free
theorem jHU{kindOf:Str->Option NameKind}{x:Str}:∀{binds:List (Str×Value)}{m:Str->Option Value},(∀v,(x,v)∉binds)->bindL kindOf binds m x=m x
 |[],_,_=>rfl
 | (n,v)::r,m,h=>by
  unfold bindL;rw[jHU fun w hw=>h w (QE _ hw)];split
  ·have:x≠n:=by rintro rfl;exact h v QF
   simp[this]
  ·rfl
theorem jHW{kindOf:Str->Option NameKind}{x:Str}:∀{binds:List (Str×Value)}{m:Str->Option Value},(∀v,(x,v)∉binds)->bindC kindOf binds m x=m x
 |[],_,_=>rfl
 | (n,v)::r,m,h=>by
  unfold bindC;rw[jHW fun w hw=>h w (QE _ hw)];split
  ·rfl
  ·have:x≠n:=by rintro rfl;exact h v QF
   simp[this]
theorem jHV{kindOf:Str->Option NameKind}{x:Str}{v:Value}:∀{P:List Str}{vs:List Value}{i:Nat}{m:Str->Option Value},P.Nodup->P[i]?=some x->vs[i]?=some v->kindOf x=some .local ->
  bindL kindOf (P.zip vs) m x=some v
 |[],_,_,_,_,h,_,_=>by simp at h
 |_::_,[],_,_,_,_,h,_=>by simp at h
 |p::P,w::vs,0,m,nd,h1,h2,hk=>by
  simp at h1 h2;subst h1;subst h2;show bindL kindOf ((p,w)::P.zip vs) m p=_;unfold bindL;rw[jHU fun v hv=>(Qf.mp nd).1 (QAt hv).1,if_pos hk];simp
 |p::P,w::vs,i+1,m,nd,h1,h2,hk=>by
  show bindL kindOf ((p,w)::P.zip vs) m x=_;unfold bindL;exact jHV (i:=i) (Qf.mp nd).2 (by simpa using h1) (by simpa using h2) hk
theorem jHX{kindOf:Str->Option NameKind}{x:Str}{v:Value}:∀{P:List Str}{vs:List Value}{i:Nat}{m:Str->Option Value},P.Nodup->P[i]?=some x->vs[i]?=some v->kindOf x≠some .local ->
  bindC kindOf (P.zip vs) m x=some v
 |[],_,_,_,_,h,_,_=>by simp at h
 |_::_,[],_,_,_,_,h,_=>by simp at h
 |p::P,w::vs,0,m,nd,h1,h2,hk=>by
  simp at h1 h2;subst h1;subst h2;show bindC kindOf ((p,w)::P.zip vs) m p=_;unfold bindC;rw[jHW fun v hv=>(Qf.mp nd).1 (QAt hv).1,if_neg hk];simp
 |p::P,w::vs,i+1,m,nd,h1,h2,hk=>by
  show bindC kindOf ((p,w)::P.zip vs) m x=_;unfold bindC;exact jHX (i:=i) (Qf.mp nd).2 (by simpa using h1) (by simpa using h2) hk
noncomputable def jCt(N:List Str)(vs:List V):St:=vs.map some++Qw (N.length - vs.length) none
noncomputable def jRl(CX:CXT)(P:Program)(w:World)(K:QD)(mg:Str->Option Value)(base:Heap)(N:List Str)(qual:Str)(scope:Scope)(f:Addr)(cd:Value)(A:Around)(outer:List Env)(s:Shared)(H:Hp)(E:XK):Cx where
 prog:=P
 w:=w
 K:=K
 mg:=mg
 base:=base
 A:=A.deeper (envOfC qual scope s.heap.objs.size f cd)
 N:=N
 s₀:=s
 H₀:=H
 env:=envOfC qual scope s.heap.objs.size f cd
 outer:=outer
 stack:=envOfC qual scope s.heap.objs.size f cd::outer
 ex:=[]
 calm:=true
 fn:=fun _=>true
 pn:=[]
 xe:=fun e s'=>wpAny (model P w) (A.deeper (envOfC qual scope s.heap.objs.size f cd)) (leaving (envOfC qual scope s.heap.objs.size f cd) e) (fun _ s''=>CX outer H s E e s'') (fun e' s''=>CX outer H s E e' s'') s'
theorem jJd{sc:Scope}{n:Nat}{x:Str}(h:sc.names.lookup x=some .cell):∃c,(cellsFrom n sc.names []).lookup x=some c:=by
 have q:=QAl sc.names n [] (.inl h);exact Option.isSome_iff_exists.mp q
theorem jMH{CX:CXT}{P:Program}{w:World}{K:QD}{mg:Str->Option Value}{base:Heap}{N ps:List Str}{qual:Str}{scope:Scope}{f:Addr}{cd:Value}{A:Around}{outer:List Env}{s s1:Shared}{H:Hp}{E:XK}{us:List Value}{vs:List V}
  (S:FnScope N ps scope) (hd:A.handled=none) (e0:Env0 P w K mg base A outer s H) (hl:vs.length=ps.length) (r:jAQ vs us)
  (x:InCallC s s.heap.objs.size (bindL (envOfC qual scope s.heap.objs.size f cd).kindOf (ps.zip us) fun _=>none) (cellsFrom (s.heap.objs.size+1) scope.names []) (bindC (envOfC qual scope s.heap.objs.size f cd).kindOf (ps.zip us) fun _=>none) s1) :
  Inv (jRl CX P w K mg base N qual scope f cd A outer s H E) [] (jCt N vs) H s1:=by
 have hpl:ps.length<=N.length:=by have:=congrArg qz S.pre;rw[Wo]at this;omega
 obtain⟨h1,tk,rfl,hk⟩:=x.done;have noA:∀b:Addr,b∉(jRl CX P w K mg base N qual scope f cd A outer s H E).ex:=fun b z=>absurd (show b∈([]:List Addr) from z) (by simp);refine⟨⟨e0.mod,S.kind,rfl,rfl,QU _,fun y z c h1 h2=>?_,fun y hy=>?_,fun y c _ h=>?_,fun _=>hd,Around.frames_deeper e0.frames,.inr ⟨rfl,rfl⟩,fun b z=>absurd z (noA b),e0.bs,e0.bsz,fun b _ _=>noA b,fun b z=>absurd z (noA b),e0.funs,e0.frf⟩,
  rfl,e0.bare,Un.kept hk,⟨_,x.toInCall.ns,fun i y v h1 h2 h3=>?_⟩,fun y c h=>⟨_,x.cell y c h⟩,e0.hok.fresh (QU _),fun y c h=>?_,fun p hp=>absurd (show p∈([]:LAO) from hp) (by simp),e0.hok.kept hk,?_⟩
 ·exact name_of_addr x.apart (qR h1) (qR h2)
 ·have hy:scope.names.lookup y=some .cell∨scope.names.lookup y=some .free:=hy
  rcases hy with hy|hy
  ·exact jJd hy
  ·exact absurd rfl (S.nofree _ (qR hy))
 ·exact QAE (x.above y c (qR h))
 ·have hi:i<vs.length:=by
   unfold jCt at h2;by_cases hi:i<vs.length
   ·exact hi
   ·rw[Qy (by simpa using hi)]at h2
    rw[wm]at h2;split at h2<;>cases h2
  have ha:vs[i]?=some v:=by
   unfold jCt at h2;rw[Qr (by simpa using hi),QY]at h2;cases e:vs[i]? with
   |none=>rw[e]at h2;cases h2
   |some a=>rw[e]at h2;cases h2;rfl
  obtain⟨u,hu,rv⟩:=r.get ha;have hp:ps[i]?=some y:=by
   rw[<- S.pre,List.getElem?_take_of_lt (by omega)];exact h1
  have ndP:ps.Nodup:=by rw[<- S.pre];exact S.nd.sublist (List.take_sublist _ _)
  refine⟨u,rv,?_⟩;rcases S.par y (qC hp) with k|k
  ·exact .inl ⟨k,jHV ndP hp hu k⟩
  ·obtain⟨c,e⟩:=jJd (n:=s.heap.objs.size+1) k
   refine .inr ⟨.inl k,c,e,?_⟩;have q:=x.cell y c e;rw[jHX ndP hp hu (by show scope.names.lookup y≠_;rw[k];decide)]at q;exact q
 ·exact e0.hok.fresh (QAE (x.above y c (qR h)))
 ·unfold jCt
  show _=N.length;rw[QM,QG,qZ]
  omega
theorem jWi{CX:CXT}{P:Program}{w:World}{K:QD}{mg:Str->Option Value}{base:Heap}{k:Nat}{f:Addr}{name qual:Str}{params:Arguments}{body:List Stmt}{scope:Scope}{dV kV doc pm cdv ct oc:Value}{an od:Option Addr}
  {osl:Array (Option Value)}{N ps:List Str}{sp:Sp}(lk:K.lookup f=some ⟨oc,od,.func (wQ name qual params body scope dV kV doc pm an cdv ct),osl⟩) (hcd:QAM K cdv qual=true) (S:FnScope N ps scope)
  (len:∀vs H Q E,sp vs H Q E->vs.length=ps.length)
  (hbody:∀(A:Around) (outer:List Env) (s:Shared) (H:Hp) (vs:List V) (Q:VK) (E:XK),Room k (A.deeper (envOfC qual scope s.heap.objs.size f cdv))->sp vs H Q E ->
   ∃t,PSs (jRl CX P w K mg base N qual scope f cdv A outer s H E) body t/\t { nx:=fun _ H'=>Q .non H',rt:=Q } (jCt N vs) H) :
  FnOk P w K mg base CX (k+1) f (wQ name qual params body scope dV kV doc pm an cdv ct) ps sp:=by
 refine⟨len,fun A outer s H args us vs Q E hr e0 hb r hsp=>?_⟩;have hl:=len _ _ _ _ hsp;have KX:K.In s.heap:=e0.mod.kin.keeps fun b o e=>(e0.bs b o e).1;have lim:s.heap.NoLimit:=e0.mod.nolimit.keeps fun b o e=>(e0.bs b o e).1;have hkind:∀y∈ps.zip us,scope.names.lookup y.1=some .local∨(scope.names.lookup y.1=some .cell/\((cellsFrom (s.heap.objs.size+1) scope.names []).lookup y.1).isSome=true):=fun⟨n,v⟩ hy=>by
  rcases S.par n (QAt hy).1 with q|q
  ·exact .inl q
  ·exact .inr ⟨q,QAl _ _ _ (.inl q)⟩
 refine codeAny_call_function hr.depth (KX _ _ lk) rfl S.co S.gen rfl (PySem.W.codeRec_of KX hcd) (hb _ _ _ _ ?_);refine wpAny_newFunctionEnv_cells S.kind hkind fun env he s1 x=>?_;subst he;refine⟨lim.keeps x.toInCall.keep,codeAny_func ?_⟩;obtain⟨t,ht,hq⟩:=hbody A outer s H vs Q E (hr.deeper _) hsp;have I:Inv (jRl CX P w K mg base N qual scope f cdv A outer s H E) [] (jCt N vs) H s1:=jMH S hr.hd e0 hl r x;refine wO (ht [] s1 (jCt N vs) H _ I hq) (fun fl s' hs=>?_) fun e s' hs=>hs;have fin:∀{σ':St}{H':Hp}{v:V}{u:Value},Inv (jRl CX P w K mg base N qual scope f cdv A outer s H E) [] σ' H' s'->jAm v u->Q v H'->CE outer P w H s Q u s' :=
  fun {σ' H' v u} J rv q=>⟨v,H',J.os,J.bare,J.base,J.hok,rv,q⟩
 cases fl with
 |ret u =>
  obtain⟨v,σ',H',J,rv,q⟩:=hs;exact fin J rv q
 |next =>
  obtain⟨σ',H',J,q⟩:=hs;exact fin (v:=V.non) (u:=Value.none) J rfl q
 |brk =>
  obtain⟨_,_,_,q⟩:=hs;exact QZ q
 |cont =>
  obtain⟨_,_,_,q⟩:=hs;exact QZ q
section
variable{X:Cx}{x:Str}{p pos:Pos}{e:Expr}{es:List Expr}{t:TA}{id T:String}{r:List V->Hp->VK->Prop}
noncomputable def tCB(r:List V->Hp->VK->Prop)(t:TA):TE:=fun σ H Q=>t σ H fun vs H1=>r vs H1 Q
theorem jIv(hc:jCW X (.builtin id) r)(hg:Gl X x)(hm:X.mg x=none)(hv:bootBuiltins x=some (.builtin id))(ha:PA X (e::es) t)(hn:x≠"__name__":=by decide)(hdb:(x==("__debug__":Str))=false:=by decide)
  (he:starEach (e::es) X.env=(false,eval e X.env)::starEach es X.env:=by rfl) (hpl:(backTo pos (starEach es X.env)).any (·.1)=false:=by rfl):PE X (.Call (.Name x p) (e::es) [] pos) (tCB r t):=by
 intro pins s σ H Q I h;refine qy (jDt I hg hm hv ?_ hn hdb);exact wj (thn (ha pos pins s σ H _ I h) fun us s1 ⟨vs,H1,I1,r1,q1⟩=>hc pins s1 σ H1 vs us Q I1 r1 q1) he hpl
theorem jLR(hc:jCW X (.type T) r)(hg:Gl X x)(hm:X.mg x=none)(hv:bootBuiltins x=some (.type T))(ha:PA X (e::es) t)(hn:x≠"__name__":=by decide)(hdb:(x==("__debug__":Str))=false:=by decide)
  (he:starEach (e::es) X.env=(false,eval e X.env)::starEach es X.env:=by rfl) (hpl:(backTo pos (starEach es X.env)).any (·.1)=false:=by rfl):PE X (.Call (.Name x p) (e::es) [] pos) (tCB r t):=by
 intro pins s σ H Q I h;refine qy (jDt I hg hm hv ?_ hn hdb);exact wI (thn (ha pos pins s σ H _ I h) fun us s1 ⟨vs,H1,I1,r1,q1⟩=>hc pins s1 σ H1 vs us Q I1 r1 q1) he hpl
end
end L2
namespace HT
open PySem PyProof.Rows
section
open PySem.SeqAt
open PySem.AutoSeq1 (wpAny_loadPart')
open PySem.MeetsSeq PySem.MeetsSeq2 PySem.MeetsSeq3
end
section
variable{prog:Program}{w:World}{A:Around}{E:VSP}{s:Shared}
theorem cat_tup{t b:Addr}{vs ws:List Value}{Q:VSP}(ht:IsTup s.heap t vs.toArray)(hb:IsTup s.heap b ws.toArray)(hv:vs≠[])
  (h1:ws=[]->Q (.ref t) s) (h2:ws≠[]->Q (.ref s.heap.objs.size) { s with heap:=s.heap.push { cls:=.type "tuple",data:=.seq (vs++ws).toArray } })
  (hsz:vs.length+ws.length<=sizeLine):wpAny (model prog w) A (binaryOp .Add (.ref t) (.ref b)) Q E s:=by
 obtain⟨⟨cls,dd,data,sl⟩,ho,hc,n,hd⟩:=id ht;obtain⟨⟨cls2,dd2,data2,sl2⟩,ho2,hc2,n2,hd2⟩:=id hb;simp only at hc hd hc2 hd2;subst hc hd hc2 hd2;have e:vs.toArray++ws.toArray=(vs++ws).toArray:=by simp
 by_cases hw:ws=[]
 ·exact QBr ⟨_,ho,rfl⟩ ⟨_,ho2,rfl⟩ QBz seq_tuple_add QAm QAc (QAT _ _)
   (tuple_addW1 t b vs.toArray ws.toArray n n2 dd dd2 sl sl2 (by simpa using hv) (by simp[hw])) ⟨ho,ho2,h1 hw⟩
 ·refine QBr ⟨_,ho,rfl⟩ ⟨_,ho2,rfl⟩ QBz seq_tuple_add QAm QAc (QAT _ _)
   (tuple_addW2 t b vs.toArray ws.toArray n n2 dd dd2 sl sl2 (by simpa using hv) (by simpa using hw) (by rw[QS,QS];exact hsz)) ⟨ho,ho2,?_⟩
  rw[e];exact h2 hw
noncomputable def sIx(n d:Nat):Option Int->Nat
 |none=>d
 |some v=>if v<0 then(v+(n:Int)).toNat else min v.toNat n
theorem jSe(n d:Nat)(hd:d<=n)(o:Option Int):sIx n d o<=n:=by
 cases o with
 |none=>exact hd
 |some v =>
  show(if v<0 then(v+(n:Int)).toNat else min v.toNat n)<=n;by_cases hv:v<0
  ·rw[if_pos hv];omega
  ·rw[if_neg hv];exact Nat.min_le_right _ _
theorem jMk(v:Int)(n d:Nat):(if v<0 then max (v+(n:Int)) 0 else min v (n:Int))=((sIx n d (some v):Nat):Int):=by
 show(if v<0 then max (v+(n:Int)) 0 else min v (n:Int))=(((if v<0 then(v+(n:Int)).toNat else min v.toNat n):Nat):Int)
 by_cases hv:v<0
 ·simp only[if_pos hv];omega
 ·simp only[if_neg hv];omega
theorem jKT(lo hi:Option Int)(n:Nat):WG lo hi 1 (n:Int)=(((sIx n 0 lo:Nat):Int),((sIx n n hi:Nat):Int)):=by
 have h1:¬ ((1:Int)<0):=by omega
 unfold WG;simp only[h1,if_false];refine QCG ?_ ?_
 ·cases lo with
  |none=>rfl
  |some v=>exact jMk v n 0
 ·cases hi with
  |none=>rfl
  |some v=>exact jMk v n n
theorem jJ5(i j:Nat):wT (i:Int) (j:Int) 1=j - i:=by
 unfold wT;have h1:(1:Int) > 0:=by omega
 simp only[h1,if_true,Int.ediv_one];split<;>omega
theorem jFQ{v:Value}{o:Option Int}{Q:Option Int->Shared->Prop}(p:IsPart v o)(h:Q o s):wpAny (model prog w) A (Builtin.Slice.slicePartIndex v) Q E s:=by
 cases p with
 |none=>exact slicePart_none h
 |int i t=>exact slicePart_int h
theorem jD4{sl:Addr}{vl vu:Value}{lo hi:Option Int}{n:Nat}{Q:Int×Int×Nat->Shared->Prop}(hs:s.heap.IsSliceOf sl vl vu .none)(pl:IsPart vl lo)(pu:IsPart vu hi)
  (h:Q (((sIx n 0 lo:Nat):Int),1,sIx n n hi - sIx n 0 lo) s):wpAny (model prog w) A (QAA (.ref sl) (pure (n:Int))) Q E s:=by
 obtain⟨os,hos,hcs,hds⟩:=id hs;unfold QAA Builtin.Slice.sliceFields;refine QA (QA (wU hos hds (x:=vl) rfl (QA (wU hos hds (x:=vu) rfl (QA (wU hos hds (x:=.none) rfl (QI ?_)))))));refine QA (slicePart_none ?_);show wpAny _ _ (if((1:Int)==0)=true then _ else _) _ _ s;rw[if_neg (by decide)];refine QA (jFQ pl (QA (jFQ pu (QA (QI ?_)))));show wpAny _ _ (match WG lo hi 1 (n:Int) with | (lo,hi)=>pure (lo,(1:Int),wT lo hi 1)) _ _ s;rw[jKT lo hi n];show wpAny _ _ (pure (((sIx n 0 lo:Nat):Int),(1:Int),wT ((sIx n 0 lo:Nat):Int) ((sIx n n hi:Nat):Int) 1)) _ _ s;rw[jJ5];exact QI h
theorem jNX(xs:Array Value)(i k:Nat):((qE k).filterMap fun(m:Nat)=>xs[((i:Int)+(m:Int) * 1).toNat]?).toArray=((xs.toList.drop i).take k).toArray:=by
 have e:(fun(m:Nat)=>xs[((i:Int)+(m:Int) * 1).toNat]?)=fun m=>xs[i+m]?:=by
  funext m
  have:((i:Int)+(m:Int) * 1).toNat=i+m:=by omega
  rw[this]
 rw[e];have:=pick_run xs i k;rw[List.filterMap_map]at this;have e2:((fun x=>xs[x]?)∘fun x=>i+x)=fun m=>xs[i+m]?:=rfl;rw[e2]at this;rw[this]
theorem getItem_tuple_cut{t sl:Addr}{items:Array Value}{vl vu:Value}{lo hi:Option Int}{Q:VSP}(ht:IsTup s.heap t items)(hs:s.heap.IsSliceOf sl vl vu .none)(pl:IsPart vl lo)(pu:IsPart vu hi)
  (hw:¬ (sIx items.size 0 lo=0/\sIx items.size items.size hi=items.size))
  (h:Q (.ref s.heap.objs.size) { s with heap:=s.heap.push { cls:=.type "tuple",data:=.seq ((items.toList.drop (sIx items.size 0 lo)).take (sIx items.size items.size hi - sIx items.size 0 lo)).toArray } })
  (hsz:items.size<=sizeLine):wpAny (model prog w) A (getItem (.ref t) (.ref sl)) Q E s:=by
 have htake:sizeOk (.seq ((items.toList.drop (sIx items.size 0 lo)).take (sIx items.size items.size hi - sIx items.size 0 lo)).toArray):=by
  show((items.toList.drop (sIx items.size 0 lo)).take (sIx items.size items.size hi - sIx items.size 0 lo)).toArray.size<=sizeLine;rw[QS,Wo,QB0,QT]
  omega
 have hj:sIx items.size items.size hi<=items.size:=jSe _ _ (QU _) hi;obtain⟨os,hos,hcs,hds⟩:=id hs;have hTs:s.TypeIs (.ref sl) "slice":=⟨os,hos,hcs⟩
 unfold getItem
 try with_reducible refine qT ?_
 first|refine QA (QI ?_)|skip
 refine QA (wpAny_sequenceKey ht.typeIs (by decide) ?_);refine QA (qA (name:=Qt "__getitem__") ht.typeIs wa
  (Q0 wa ht.typeIs entry_tuple_getitem ?_ (args_tuple_getitem _ _)))
 show wpAny _ _ (Builtin.Tuple.tupleItemsOf (.ref t) >>= _) _ _ s;refine QA (tupleItemsOf_ ht ?_);refine QA (QAH hTs ?_);rw[if_pos (by decide)];refine QA (jD4 hs pl pu ?_);have hno:¬ ((((sIx items.size 0 lo:Nat):Int)==0&&(1:Int)==1&&(sIx items.size items.size hi - sIx items.size 0 lo)==items.size)=true):=by
  intro q;rw[Qb,Qb]at q;have q1:((sIx items.size 0 lo:Nat):Int)=0:=qa q.1.1;have q2:sIx items.size items.size hi - sIx items.size 0 lo=items.size:=qa q.2;exact hw ⟨by omega,by omega⟩
 show wpAny _ _ (if(((sIx items.size 0 lo:Nat):Int)==0&&(1:Int)==1&&(sIx items.size items.size hi - sIx items.size 0 lo)==items.size)=true then _ else _) _ _ s;rw[if_neg hno,jNX]
 first
  |exact QA (m:=wb _) (Qp (QI ⟨_,rfl,QI h⟩) htake)
  |exact QA (m:=wb _) (Qp (QA (QI (QI ⟨_,rfl,QI h⟩))) htake)
  |exact QA (QA (m:=wb _) (Qp (QI (QI ⟨_,rfl,QI h⟩)) htake))
  |exact QA (QA (m:=wb _) (Qp (QI ⟨_,rfl,QI h⟩) htake))
end
end HT
namespace L2
open PySem PySem.Spec PyProof.Rows
noncomputable abbrev TO:=St->Hp->(Option Int->Hp->Prop)->Prop
def PO(X:Cx)(e:Option Expr)(t:TO):Prop :=
 ∀(pins:LAO) (s:Shared) (σ:St) (H:Hp) (Q:Option Int->Hp->Prop),Inv X pins σ H s->t σ H Q ->
  wpAny (model X.prog X.w) X.A (evalPart e X.env) (fun u s'=>∃o H',Inv X pins σ H' s'/\IsPart u o/\Q o H') X.xe s
noncomputable def jP1:TO:=fun _ H Q=>Q none H
noncomputable def jV5(t:TE):TO:=fun σ H Q=>t σ H fun x H1=>∃i,x=.int i/\Q (some i) H1
section
variable{X:Cx}{e:Expr}{te:TE}{lo hi:Option Expr}{tl th:TO}{pos p2:Pos}
theorem jQV:PO X none jP1:=by
 intro pins s σ H Q I h;rw[evalPart_none];exact QI ⟨none,H,I,.none,h⟩
theorem jQU(h:PE X e te):PO X (some e) (jV5 te):=by
 intro pins s σ H Q I hw;rw[evalPart_some];refine thn (h pins s σ H _ I hw) fun u s1 ⟨x,H1,I1,r1,q1⟩=>?_;obtain⟨i,rfl,q⟩:=q1;obtain⟨t,rfl⟩:=r1;exact⟨some i,H1,I1,.int i t,q⟩
def SlR(X:Cx)(r:V->Option Int->Option Int->Hp->VK->Prop):Prop :=
 ∀(pins:LAO) (s:Shared) (σ:St) (H:Hp) (x:V) (v vl vu:Value) (lo hi:Option Int) (sl:Addr) (Q:VK),Inv X pins σ H s->jAm x v->s.heap.IsSliceOf sl vl vu .none->IsPart vl lo->IsPart vu hi->r x lo hi H Q ->
  ∃T id,typeLookup (.type T) "__getitem__"=pure (some (.builtin id))/\s.TypeIs v T/\wpAny (model X.prog X.w) X.A (getItem v (.ref sl)) (EP X pins σ Q) X.xe s
theorem SlR.or{r r':V->Option Int->Option Int->Hp->VK->Prop}(h:SlR X r)(h':SlR X r'):SlR X (fun x lo hi H Q=>r x lo hi H Q∨r' x lo hi H Q):=by
 intro pins s σ H x v vl vu lo hi sl Q I rx hs pl pu q;rcases q with q|q
 ·exact h pins s σ H x v vl vu lo hi sl Q I rx hs pl pu q
 ·exact h' pins s σ H x v vl vu lo hi sl Q I rx hs pl pu q
noncomputable def tSl(r:V->Option Int->Option Int->Hp->VK->Prop)(te:TE)(tl th:TO):TE:=fun σ H Q=>te σ H fun x H1=>tl σ H1 fun l H2=>th σ H2 fun u H3=>r x l u H3 Q
theorem jNZ{r:V->Option Int->Option Int->Hp->VK->Prop}(hr:SlR X r)(he:PE X e te)(hl:PO X lo tl)(hu:PO X hi th):PE X (.Subscript e (.Slice lo hi none p2) pos) (tSl r te tl th):=by
 intro pins s σ H Q I h;refine Subscript_ (thn (he pins s σ H _ I h) fun v s1 ⟨x,H1,I1,r1,q1⟩=>?_);refine wpAny_Slice (thn (hl pins s1 σ H1 _ I1 q1) fun vl s2 ⟨l,H2,I2,pl,q2⟩=>thn (hu pins s2 σ H2 _ I2 q2) fun vu s3 ⟨u,H3,I3,pu,q3⟩=>?_);rw[evalPart_none];refine QI ?_;have I4:Inv X pins σ H3 { s3 with heap:=s3.heap.push { cls:=.type "slice",data:=.fields #[vl,vu,.none] } }:=I3.kept (t':=s3.toks) fun b ob q=>QH _ q;obtain⟨T,id,hT,ht,hg⟩:=hr pins { s3 with heap:=s3.heap.push { cls:=.type "slice",data:=.fields #[vl,vu,.none] } } σ H3 x v vl vu l u s3.heap.objs.size Q I4 r1 (Heap.IsSliceOf.new ..) pl pu q3;show wpAny (model X.prog X.w) X.A (subscriptTail e (.Slice lo hi none p2) v (.ref s3.heap.objs.size)) (EP X pins σ Q) X.xe { s3 with heap:=s3.heap.push { cls:=.type "slice",data:=.fields #[vl,vu,.none] } };exact tail_any (ops:=[.ref s3.heap.objs.size,v]) ht hT hg (by with_unfolding_all rfl)
noncomputable def jPY(xs:List V)(lo hi:Option Int):List V:=(xs.drop (HT.sIx xs.length 0 lo)).take (HT.sIx xs.length xs.length hi - HT.sIx xs.length 0 lo)
theorem jEr(xs:List V)(lo hi:Option Int):(jPY xs lo hi).length<=xs.length:=by
 unfold jPY;rw[Wo,QB0]
 omega
noncomputable def jXM(K:QD):V->Option Int->Option Int->Hp->VK->Prop:=fun x lo hi H Q=>∃a xs,x=.ref a/\SqT K H a xs /\
 ¬ (HT.sIx xs.length 0 lo=0/\HT.sIx xs.length xs.length hi=xs.length)/\∀p,H p=none->Q (.ref p) (upd H p (.tup (jPY xs lo hi)))
theorem jSZ:SlR X (jXM X.K):=by
 intro pins s σ H x v vl vu lo hi sl Q I rx hs pl pu h;obtain⟨a,xs,rfl,hx,hw,q⟩:=h;cases rx;obtain⟨its,r,ht,hz⟩:=I.tuple hx;have hlen:its.toArray.size=xs.length:=by rw[QS];exact r.length.symm
 refine⟨"tuple",_,wa.lookup,ht.typeIs,?_⟩;refine HT.getItem_tuple_cut ht hs pl pu (by rw[hlen];exact hw) ?_ (by rw[hlen];exact hz);rw[hlen];refine⟨.ref s.heap.objs.size,_,I.laid (t':=s.toks) (o:=.tup (jPY xs lo hi)) (fun b ob q=>QH _ q) (QU _) ?_,rfl,q _ (I.hok.fresh (QU _))⟩;exact⟨QX (jEr xs lo hi) hz,_,(r.drop (HT.sIx xs.length 0 lo)).take (HT.sIx xs.length xs.length hi - HT.sIx xs.length 0 lo),IsTup.new _ _⟩
noncomputable def jSn(K:QD):R2:=fun x y H Q=>∃a b xs ys,x=.ref a/\y=.ref b/\SqT K H a xs/\SqT K H b ys/\xs≠[]/\xs.length+ys.length<=sizeLine /\
 (ys=[]->Q (.ref a) H)/\(ys≠[]->∀p,H p=none->Q (.ref p) (upd H p (.tup (xs++ys))))
theorem jAQ.nil_iff{xs:List V}{us:List Value}(r:jAQ xs us):us=[]↔xs=[]:=by
 cases r with
 |nil=>simp
 |cons _ _=>simp
theorem jQm:OpR X (binaryOp .Add) (jSn X.K):=by
 intro pins s σ H x y v u Q I rx ry h;obtain⟨a,b,xs,ys,rfl,rfl,ha,hb,hx,hz,q1,q2⟩:=h;cases rx;cases ry;obtain⟨its,r1,p1,_⟩:=I.tuple ha;obtain⟨its2,r2,p2,_⟩:=I.tuple hb;refine HT.cat_tup p1 p2 (fun z=>hx (r1.nil_iff.mp z)) (fun z=>⟨.ref a,H,I,rfl,q1 (r2.nil_iff.mp z)⟩) (fun z=>?_) (by rw[<- r1.length,<- r2.length];exact hz);refine⟨.ref s.heap.objs.size,_,I.laid (t':=s.toks) (o:=.tup (xs++ys)) (fun b ob q=>QH _ q) (QU _) ?_,rfl,q2 (fun w=>z (r2.nil_iff.mpr w)) _ (I.hok.fresh (QU _))⟩;exact⟨by rw[QM];exact hz,_,r1.append r2,IsTup.new _ _⟩
end
noncomputable def ixN(n:Nat)(i:Int):Option Nat:=if 0<=i then(if i<n then some i.toNat else none) else if -(n:Int)<=i then some (i+n).toNat else none
noncomputable def atI{α:Type}(xs:List α)(i:Int):Option α:=(ixN xs.length i).bind fun j=>xs[j]?
theorem jIB{n:Nat}{i:Int}{j:Nat}(h:ixN n i=some j):seqIndex? i n=some j/\j<n/\-(n:Int)<=i/\i<n:=by
 unfold ixN at h;by_cases h0:0<=i
 ·rw[if_pos h0]at h
  by_cases h1:i<n
  ·rw[if_pos h1]at h
   have e:i.toNat=j:=Q9 h;exact⟨by rw[QB5 h0 h1,e],by omega,by omega,h1⟩
  ·rw[if_neg h1]at h;cases h
 ·rw[if_neg h0]at h
  by_cases h1:-(n:Int)<=i
  ·rw[if_pos h1]at h
   have e:(i+n).toNat=j:=Q9 h;exact⟨by rw[QBs (by omega) h1,e],by omega,h1,by omega⟩
  ·rw[if_neg h1]at h;cases h
theorem jIX{α:Type}{xs:List α}{i:Int}{v:α}(h:atI xs i=some v):∃j,seqIndex? i xs.length=some j/\xs[j]?=some v/\j<xs.length/\-(xs.length:Int)<=i/\i<xs.length:=by
 unfold atI at h;cases e:ixN xs.length i with
 |none=>rw[e]at h;cases h
 |some j =>
  rw[e]at h;obtain⟨h1,h2,h3,h4⟩:=jIB e;exact⟨j,h1,h,h2,h3,h4⟩
theorem jDg{α:Type}{xs:List α}{j:Nat}{v:α}(h:xs[j]?=some v):atI xs (j:Int)=some v:=by
 have hj:j<xs.length:=(Qa.mp h).1;have e:ixN xs.length (j:Int)=some j:=by
  unfold ixN;rw[if_pos (by omega),if_pos (by omega)];simp
 unfold atI;rw[e];exact h
def jMv(b:Expr):Prop:=∀o i,subscripted b false o i=operate [o,i] (getItem o i)
def IxR(X:Cx)(r:R2):Prop :=
 ∀(value slice:Expr) (pins:LAO) (s:Shared) (σ:St) (H:Hp) (x y:V) (v u:Value) (Q:VK),Inv X pins σ H s->jAm x v->jAm y u->r x y H Q ->
  subscripted slice false v u=operate [v,u] (getItem v u)->wpAny (model X.prog X.w) X.A (subscriptTail value slice v u) (EP X pins σ Q) X.xe s
def MtR(X:Cx)(id:String)(r:V->List V->Hp->VK->Prop):Prop :=
 ∀(pins:LAO) (s:Shared) (σ:St) (H:Hp) (x:V) (xs:List V) (v:Value) (us:List Value) (Q:VK),Inv X pins σ H s->jAm x v->jAQ xs us->r x xs H Q ->
  wpAny (model X.prog X.w) X.A (call (.builtin id) (v::us)) (EP X pins σ Q) X.xe s
section
variable{X:Cx}{a b:Expr}{ta tb:TE}{pos:Pos}
theorem IxR.or{r r':R2}(h:IxR X r)(h':IxR X r'):IxR X (fun x y H Q=>r x y H Q∨r' x y H Q):=by
 intro value slice pins s σ H x y v u Q I rx ry q hs;rcases q with q|q
 ·exact h value slice pins s σ H x y v u Q I rx ry q hs
 ·exact h' value slice pins s σ H x y v u Q I rx ry q hs
theorem MtR.or{id:String}{r r':V->List V->Hp->VK->Prop}(h:MtR X id r)(h':MtR X id r'):MtR X id (fun x xs H Q=>r x xs H Q∨r' x xs H Q):=by
 intro pins s σ H x xs v us Q I rx rs q;rcases q with q|q
 ·exact h pins s σ H x xs v us Q I rx rs q
 ·exact h' pins s σ H x xs v us Q I rx rs q
theorem jWJ{r:R2}(hr:IxR X r)(ha:PE X a ta)(hb:PE X b tb)(hs:jMv b):PE X (.Subscript a b pos) (tOp r ta tb):=by
 intro pins s σ H Q I h;exact Subscript_ (binT ha hb I h fun v u s2 x y H2 I2 rx ry q=>hr a b pins s2 σ H2 x y v u Q I2 rx ry q (hs _ _))
noncomputable def jXU(K:QD):R2:=fun x y H Q=>∃p xs i v,x=.ref p/\y=.int i/\SqL K H p xs/\atI xs i=some v/\Q v H
noncomputable def jXS(K:QD):R2:=fun x y H Q=>∃p xs i v,x=.ref p/\y=.int i/\SqT K H p xs/\atI xs i=some v/\Q v H
noncomputable def jXT:R2:=fun x y H Q=>∃z i c,x=.str z/\y=.int i/\z.length<=sizeLine/\atI z.cps.toList i=some c/\Q (.str ⟨#[c]⟩) H
theorem jRR:IxR X (jXU X.K):=by
 intro value slice pins s σ H x y v u Q I rx ry h hs;obtain⟨p,xs,i,z,rfl,rfl,hq,he,q⟩:=h;cases rx;obtain⟨t,rfl⟩:=ry;obtain⟨its,r,pl,hz⟩:=I.list hq;obtain⟨j,h1,h2,h3,h4,h5⟩:=jIX he;obtain⟨w,ew,rw'⟩:=r.get h2;have hl:=r.length;have hn:=jEe;have fin:EP X pins σ Q w s:=⟨z,H,I,rw',q⟩
 by_cases h0:0<=i
 ·have hj:i.toNat=j:=by
   rw[QB5 h0 h5]at h1;exact Q9 h1
  exact item_listR pl.isList h0 (by omega) (by rw[hj];simpa using ew) fin hs
 ·have hj:(i+(its.toArray.size:Int)).toNat=j:=by
   rw[QBs (by omega) h4]at h1;rw[QS,<- hl];exact Q9 h1
  exact wx (x:=w) pl.isList.typeIs QBf.lookup
   (wpAny_getItem_list_neg (Q:=fun r s'=>r=w/\EP X pins σ Q r s') pl.isList (by omega) (by rw[QS]<;>omega) (by omega) (by rw[hj];simpa using ew) ⟨rfl,fin⟩) hs
theorem jTr:IxR X (jXS X.K):=by
 intro value slice pins s σ H x y v u Q I rx ry h hs;obtain⟨p,xs,i,z,rfl,rfl,hq,he,q⟩:=h;cases rx;obtain⟨t,rfl⟩:=ry;obtain⟨its,r,pl,hz⟩:=I.tuple hq;obtain⟨j,h1,h2,h3,h4,h5⟩:=jIX he;obtain⟨w,ew,rw'⟩:=r.get h2;have hl:=r.length;have hn:=jEe;have fin:EP X pins σ Q w s:=⟨z,H,I,rw',q⟩
 exact wx (x:=w) pl.typeIs slot_tuple_getitem.lookup
  (getItem_tuple (j:=j) (Q:=fun r s'=>r=w/\EP X pins σ Q r s') pl (by omega) (by omega) (by rw[QS,<- hl];exact h1) (by simpa using ew) ⟨rfl,fin⟩) hs
theorem jTs:IxR X jXT:=by
 intro value slice pins s σ H x y v u Q I rx ry h hs;obtain⟨z,i,c,rfl,rfl,hz,he,q⟩:=h;obtain⟨t,rfl⟩:=rx;obtain⟨t',rfl⟩:=ry;obtain⟨j,h1,h2,h3,h4,h5⟩:=jIX he;have hl:z.cps.toList.length=z.length:=by simp[Str.length]
 rw[hl]at h1 h4 h5;have hn:=jEe;exact tail_any (QCC s z t) slot_str_getitem.lookup (getItem_str (c:=c) (by
  have e1:decide (i < -(2 ^ 63:Int))=false:=dF (by omega);have e2:decide (i ≥ 2 ^ 63)=false:=dF (by omega);rw[e1,e2,QBQ]) (by rw[h1];simpa using h2) ⟨.str ⟨#[c]⟩,H,I.tok _,⟨_,rfl⟩,q⟩) hs
noncomputable def rIx(K:QD):R2:=fun x y H Q=>jXU K x y H Q∨jXS K x y H Q∨jXT x y H Q
theorem jTt:IxR X (rIx X.K):=jRR.or (jTr.or jTs)
theorem jKB(its:List Value)(n j:Nat)(u:Value):qI (·.setIfInBounds j u) { cls:=.type "list",data:=.seq its.toArray n }={ cls:=.type "list",data:=.seq (its.set j u).toArray n }:=by
 simp[qI]
theorem Inv.lst{pins:LAO}{σ:St}{H:Hp}{s:Shared}{p:Addr}{xs:List V}(I:Inv X pins σ H s)(h:H p=some (.lst xs)) :
  ∃(its:List Value) (n:Nat),jAQ xs its/\s.heap.get? p=some { cls:=.type "list",data:=.seq its.toArray n }/\xs.length<=sizeLine:=by
 obtain⟨z,its,n,r,e⟩:=I.hok p _ h;exact⟨its,n,r,e,z⟩
theorem Inv.lstUpd{pins:LAO}{σ:St}{H:Hp}{s:Shared}{p:Addr}{xs ys:List V}{its its':List Value}{n n':Nat}{f:Obj->Obj}(I:Inv X pins σ H s)(h:H p=some (.lst xs))
  (ho:s.heap.get? p=some { cls:=.type "list",data:=.seq its.toArray n }) (hf:f { cls:=.type "list",data:=.seq its.toArray n }={ cls:=.type "list",data:=.seq its'.toArray n' }) (r:jAQ ys its') (hz:ys.length<=sizeLine) (t:Nat) :
  Inv X pins σ (upd H p (.lst ys)) { s with heap:=s.heap.update p f,toks:=t }:=by
 have e:(s.heap.update p f).get? p=some { cls:=.type "list",data:=.seq its'.toArray n' }:=by
  rw[Q1 f ho (by rw[hf]<;>rfl),hf]
 refine I.write (x:=p) (e:=p) (by rw[h];trivial) (.inl rfl) (fun b u hb q=>(Q6 _ _ (Q2 hb)).trans q) ⟨_,e⟩ ?_;exact⟨hz,its',n',r,e⟩
noncomputable def jWE:V->V->V->Hp->(Hp->Prop)->Prop:=fun o i v H Q=>∃p xs k j,o=.ref p/\i=.int k/\H p=some (.lst xs)/\ixN xs.length k=some j/\Q (upd H p (.lst (xs.set j v)))
theorem jNM:jVq X jWE:=by
 intro pins s σ H o i v ov iv u Q I ro ri rv h;obtain⟨p,xs,k,j,rfl,rfl,hp,hj,q⟩:=h;cases ro;obtain⟨t,rfl⟩:=ri;obtain⟨its,n,r,ho,hz⟩:=I.lst hp;obtain⟨h1,h2,h3,h4⟩:=jIB hj;have hl:=r.length;have hn:=jEe;have I':Inv X pins σ (upd H p (.lst (xs.set j v))) { s with heap:=s.heap.update p (qI (·.setIfInBounds j u)) } :=
  I.lstUpd hp ho (jKB its n j u) (r.set rv j) (by rw[qu];exact hz) s.toks
 by_cases h0:0<=k
 ·have hk:k.toNat=j:=by
   rw[QB5 h0 h4]at h1;exact Q9 h1
  exact PySem.W.ki_setAt ho h0 (by omega) (by rw[QS,<- hl];exact h4) (by rw[hk];exact⟨_,I',q⟩)
 ·have hk:(k+(its.toArray.size:Int)).toNat=j:=by
   rw[QBs (by omega) h3]at h1;rw[QS,<- hl];exact Q9 h1
  exact PySem.W.ki_setBack ho (by omega) (by rw[QS,<- hl];exact h3) (by omega) (by rw[hk];exact⟨_,I',q⟩)
theorem jGj(lo hi:Option Int)(n:Nat):(sliceBounds lo hi none n).1=((HT.sIx n 0 lo:Nat):Int)/\(sliceBounds lo hi none n).2.1=((HT.sIx n n hi:Nat):Int)/\(sliceBounds lo hi none n).2.2=1:=by
 refine⟨?_,?_,rfl⟩
 ·cases lo with
  |none=>simp[sliceBounds,HT.sIx]
  |some i =>
   simp only[sliceBounds,HT.sIx,QB1,show(1:Int) > 0 by decide,if_true];by_cases h:i<0
   ·simp only[h,if_true]<;>omega
   ·simp only[h,if_false]<;>omega
 ·cases hi with
  |none=>simp[sliceBounds,HT.sIx]
  |some i =>
   simp only[sliceBounds,HT.sIx,QB1,show(1:Int) > 0 by decide,if_true];by_cases h:i<0
   ·simp only[h,if_true]<;>omega
   ·simp only[h,if_false]<;>omega
theorem jFv(its:List Value)(lo hi:Option Int):slicePick its.toArray lo hi none=((its.drop (HT.sIx its.length 0 lo)).take (HT.sIx its.length its.length hi - HT.sIx its.length 0 lo)).toArray:=by
 obtain⟨h1,h2,h3⟩:=jGj lo hi its.toArray.size;unfold slicePick;rw[h1,h2,h3];simp only[sliceRange_one,pick_run,QS]<;>rfl
noncomputable def jXN(K:QD):V->Option Int->Option Int->Hp->VK->Prop:=fun x lo hi H Q=>∃a xs,x=.ref a/\SqL K H a xs/\∀p,H p=none->Q (.ref p) (upd H p (.lst (jPY xs lo hi)))
theorem jP9:SlR X (jXN X.K):=by
 intro pins s σ H x v vl vu lo hi sl Q I rx hs pl pu h;obtain⟨a,xs,rfl,hx,q⟩:=h;cases rx;obtain⟨its,r,ht,hz⟩:=I.list hx;have hlen:=r.length;refine⟨"list",_,QBf.lookup,ht.isList.typeIs,?_⟩;refine wpAny_getItem_list_slice ht.isList hs pl pu .none (by simp) ?_ (by rw[QS]<;>omega);rw[jFv,<- hlen];refine⟨.ref s.heap.objs.size,_,I.laid (t':=s.toks) (o:=.lst (jPY xs lo hi)) (fun b ob q=>QH _ q) (QU _) ?_,rfl,q _ (I.hok.fresh (QU _))⟩;exact⟨QX (jEr xs lo hi) hz,_,0,(r.drop (HT.sIx xs.length 0 lo)).take (HT.sIx xs.length xs.length hi - HT.sIx xs.length 0 lo),QN _ rfl⟩
noncomputable def jEj:V->Bool
 | .non=>true
 | .bl _=>true
 | .int _=>true
 | .str _=>true
 |_=>false
noncomputable def eqV:V->V->Bool
 | .non,.non=>true
 | .bl a,.bl b=>a==b
 | .bl a,.int b=>(if a then 1 else 0)==b
 | .int a,.bl b=>a==(if b then 1 else 0)
 | .int a,.int b=>a==b
 | .str a,.str b=>a==b
 |_,_=>false
theorem jT8{A:Around}{s:Shared}{y x:V}{u v:Value}(ry:jAm y u)(rx:jAm x v)(fy:jEj y=true)(fx:jEj x=true):ql A s u v (eqV y x):=by
 cases y with
 |non =>
  cases ry;cases x with
  |non=>cases rx;exact ql.same _
  |bl b=>cases rx;exact ql.none_bool b
  |int b=>obtain⟨t,rfl⟩:=rx;exact ql.none_int b t
  |str b=>obtain⟨t,rfl⟩:=rx;exact ql.none_str b t
  |_=>exact absurd (show false=true from fx) QC
 |bl a =>
  cases ry;cases x with
  |non=>cases rx;exact ql.bool_none a
  |bl b=>cases rx;exact ql.bool_bool a b
  |int b=>obtain⟨t,rfl⟩:=rx;exact ql.bool_int a b t
  |str b=>obtain⟨t,rfl⟩:=rx;exact ql.bool_str a b t
  |_=>exact absurd (show false=true from fx) QC
 |int a =>
  obtain⟨t',rfl⟩:=ry;cases x with
  |non=>cases rx;exact ql.int_none a t'
  |bl b=>cases rx;exact ql.int_bool a t' b
  |int b=>obtain⟨t,rfl⟩:=rx;exact ql.int_int a t' b t
  |str b=>obtain⟨t,rfl⟩:=rx;exact QBS a t' b t
  |_=>exact absurd (show false=true from fx) QC
 |str a =>
  obtain⟨t',rfl⟩:=ry;cases x with
  |non=>cases rx;exact ql.str_none a t'
  |bl b=>cases rx;exact ql.str_bool a t' b
  |int b=>obtain⟨t,rfl⟩:=rx;exact QBT a t' b t
  |str b=>obtain⟨t,rfl⟩:=rx;exact ql.str_str a t' b t
  |_=>exact absurd (show false=true from fx) QC
 |_=>exact absurd (show false=true from fy) QC
noncomputable def eqU(x:V)(u:Value):Bool:=match u with
 | .none=>eqV .non x
 | .bool b=>eqV (.bl b) x
 | .int i _=>eqV (.int i) x
 | .str z _=>eqV (.str z) x
 |_=>false
theorem jPT{x y:V}{u:Value}(r:jAm y u)(f:jEj y=true):eqU x u=eqV y x:=by
 cases y with
 |non=>cases r;rfl
 |bl b=>cases r;rfl
 |int i=>obtain⟨t,rfl⟩:=r;rfl
 |str z=>obtain⟨t,rfl⟩:=r;rfl
 |_=>exact absurd (show false=true from f) QC
theorem jE7{x:V}:∀{xs:List V}{us:List Value},jAQ xs us->xs.all jEj=true->us.any (eqU x)=xs.any fun y=>eqV y x
 |_,_,.nil,_=>rfl
 |y::xs,u::us,.cons r t,f=>by
  rw[qf,Qb]at f;rw[WC,WC,jPT r f.1,jE7 t f.2]
theorem jC2{A:Around}{s:Shared}{x:V}{v:Value}(rx:jAm x v)(fx:jEj x=true):∀{xs:List V}{us:List Value},jAQ xs us->xs.all jEj=true->∀u∈us,ql A s u v (eqU x u)
 |_,_,.nil,_=>fun u hu=>by cases hu
 |y::xs,u::us,.cons r t,f=>fun u' hu=>by
  rw[qf,Qb]at f;rcases QK.mp hu with rfl|hu
  ·rw[jPT r f.1];exact jT8 r rx f.1 fx
  ·exact jC2 rx fx t f.2 u' hu
noncomputable def inV(x:V)(xs:List V):Bool:=xs.any fun y=>eqV y x
noncomputable def rIn(K:QD)(neg:Bool):R2:=fun x y H Q=>∃p xs,y=.ref p/\(SqL K H p xs∨SqT K H p xs)/\jEj x=true/\xs.all jEj=true/\Q (.bl (if neg then !inV x xs else inV x xs)) H
theorem jLX:OpR X (compareOp .In) (rIn X.K false):=by
 intro pins s σ H x y v u Q I rx ry h;obtain⟨p,xs,rfl,hq,fx,fs,q⟩:=h;cases ry;rcases hq with hq|hq
 ·obtain⟨its,r,pl,hz⟩:=I.list hq
  refine SeqAt.in_listAt (eqU x) pl.isList (fun w hw=>jC2 rx fx r fs w (by simpa using hw)) ⟨.bl _,H,I,rfl,?_⟩;rw[show its.toArray.any (eqU x)=its.any (eqU x) by simp,jE7 r fs];exact q
 ·obtain⟨its,r,pl,hz⟩:=I.tuple hq
  refine SeqAt.in_tupleAt (eqU x) pl (fun w hw=>jC2 rx fx r fs w (by simpa using hw)) ⟨.bl _,H,I,rfl,?_⟩;rw[show its.toArray.any (eqU x)=its.any (eqU x) by simp,jE7 r fs];exact q
theorem jGt:OpR X (compareOp .NotIn) (rIn X.K true):=by
 intro pins s σ H x y v u Q I rx ry h;obtain⟨p,xs,rfl,hq,fx,fs,q⟩:=h;cases ry;rcases hq with hq|hq
 ·obtain⟨its,r,pl,hz⟩:=I.list hq
  refine SeqAt.notIn_listAt (eqU x) pl.isList (fun w hw=>jC2 rx fx r fs w (by simpa using hw)) ⟨.bl _,H,I,rfl,?_⟩;rw[show its.toArray.any (eqU x)=its.any (eqU x) by simp,jE7 r fs];exact q
 ·obtain⟨its,r,pl,hz⟩:=I.tuple hq
  refine SeqAt.notIn_tupleAt (eqU x) pl (fun w hw=>jC2 rx fx r fs w (by simpa using hw)) ⟨.bl _,H,I,rfl,?_⟩;rw[show its.toArray.any (eqU x)=its.any (eqU x) by simp,jE7 r fs];exact q
theorem jHR:jCW X (.builtin "len") (fun xs H Q=>∃p ys,xs=[.ref p]/\(SqL X.K H p ys∨SqT X.K H p ys)/\Q (.int ys.length) H):=by
 intro pins s σ H xs us Q I r h;obtain⟨p,ys,rfl,hq,q⟩:=h;obtain⟨u,rfl,rx⟩:=jGe r;cases rx;have hn:=jEe;rcases hq with hq|hq
 ·obtain⟨its,r',pl,hz⟩:=I.list hq
  have hlen:=r'.length;exact Calls.call_len_list pl.isList (by simp only[QS]<;>omega) ⟨.int ys.length,H,I.tok _,⟨s.toks+1,by rw[QS,hlen]⟩,q⟩
 ·obtain⟨its,r',pl,hz⟩:=I.tuple hq
  have hlen:=r'.length;exact len_tuple pl (by simp only[QS]<;>omega) ⟨.int ys.length,H,I.tok _,⟨s.toks+1,by rw[QS,hlen]⟩,q⟩
theorem jHQ:jCW X (.builtin "len") (fun xs H Q=>∃z,xs=[.str z]/\z.length<=sizeLine/\Q (.int z.length) H):=by
 intro pins s σ H xs us Q I r h;obtain⟨z,rfl,hz,q⟩:=h;obtain⟨u,rfl,t,rfl⟩:=jGe r;have hn:=jEe;exact len_str (by omega) ⟨.int z.length,H,I.tok _,⟨_,rfl⟩,q⟩
theorem jCW.or{f:Value}{r r':List V->Hp->VK->Prop}(h:jCW X f r)(h':jCW X f r'):jCW X f (fun xs H Q=>r xs H Q∨r' xs H Q):=by
 intro pins s σ H xs us Q I rs q;rcases q with q|q
 ·exact h pins s σ H xs us Q I rs q
 ·exact h' pins s σ H xs us Q I rs q
theorem jHP:jCW X (.type "list") (fun xs H Q=>∃p ys,xs=[.ref p]/\(SqL X.K H p ys∨SqT X.K H p ys)/\∀l,H l=none->Q (.ref l) (upd H l (.lst ys))):=by
 intro pins s σ H xs us Q I r h;obtain⟨p,ys,rfl,hq,q⟩:=h;obtain⟨u,rfl,rx⟩:=jGe r;cases rx;have fin:∀(its:List Value),jAQ ys its->ys.length<=sizeLine->∀(h':Heap) (c':Nat),(∀b o',s.heap.get? b=some o'->h'.get? b=some o') ->
   h'.get? s.heap.objs.size=some { cls:=.type "list",dict:=none,data:=.seq its.toArray c',slots:=#[] }->EP X pins σ Q (.ref s.heap.objs.size) { s with heap:=h' }:=fun its r' hz h' c' kp e =>
  ⟨.ref s.heap.objs.size,_,I.laid (t':=s.toks) kp (QU _) (show jAk X.prog X.w _ h' _ (.lst ys) from⟨hz,its,c',r',e⟩),rfl,q _ (I.hok.fresh (QU _))⟩
 rcases hq with hq|hq
 ·obtain⟨its,r',pl,hz⟩:=I.list hq
  have hlen:=r'.length;obtain⟨o,ho,hc,n,hd⟩:=pl.isList;exact call_list_seq p (.inl rfl) ho hc hd (fun h' c' kp e=>fin its r' hz h' c' kp e) (by simp only[QS]<;>omega)
 ·obtain⟨its,r',pl,hz⟩:=I.tuple hq
  have hlen:=r'.length;obtain⟨o,ho,hc,n,hd⟩:=pl;exact call_list_seq p (.inr rfl) ho hc hd (fun h' c' kp e=>fin its r' hz h' c' kp e) (by simp only[QS]<;>omega)
def tyV(K:QD)(T:String)(x:V)(H:Hp):Prop:=match x with
 | .str _=>T="str"
 | .int _=>T="int"
 | .ref p=>(T="list"/\∃xs,SqL K H p xs)∨(T="tuple"/\∃o,K.lookup p=some o/\o.cls=.type "tuple"/\o.dict=none) ∨
   (T="dict"/\((∃kvs,H p=some (.dK kvs))∨∃ep kvs,H p=some (.dT ep kvs)))∨(T="set"/\∃S n,H p=some (.set S n))
 |_=>False
theorem jOi{pins:LAO}{σ:St}{H:Hp}{s:Shared}{T:String}{x:V}{v:Value}(I:Inv X pins σ H s)(r:jAm x v)(ty:tyV X.K T x H) :
  s.TypeIs v T/\∀a,v=.ref a->∃ob,s.heap.get? a=some ob/\ob.dict=none:=by
 cases x with
 |str z =>
  obtain⟨t,rfl⟩:=r;cases(show T="str" from ty);exact⟨QCC s z t,fun _ e=>nomatch e⟩
 |int i =>
  obtain⟨t,rfl⟩:=r;cases(show T="int" from ty);exact⟨QCD s i t,fun _ e=>nomatch e⟩
 |ref p =>
  cases r;rcases ty with⟨rfl,xs,hq⟩| ⟨rfl,o,hk,hc,hd⟩| ⟨rfl,hk⟩| ⟨rfl,S,n,hk⟩
  ·obtain⟨its,_,pl,_⟩:=I.list hq
   refine⟨pl.isList.typeIs,fun a e=>?_⟩;cases e;obtain⟨o,n,e,c,hd,_⟩:=pl;exact⟨o,e,hd⟩
  ·refine⟨⟨o,I.kIn p o hk,hc⟩,fun a e=>?_⟩
   cases e;exact⟨o,I.kIn _ o hk,hd⟩
  ·have z:∃o,s.heap.get? p=some o/\o.ExactDict:=by
    rcases hk with⟨kvs,hk⟩| ⟨ep,kvs,hk⟩
    ·obtain⟨_,_,_,_,o,_,_,e,ex,_⟩:=I.hok p _ hk
     exact⟨o,e,ex⟩
    ·obtain⟨_,_,_,_,o,_,e,ex,_⟩:=I.hok p _ hk
     exact⟨o,e,ex⟩
   obtain⟨o,e,ex⟩:=z;refine⟨⟨o,e,ex.1⟩,fun a e2=>?_⟩;cases e2;exact⟨o,e,ex.2.1⟩
  ·obtain⟨o,_,_,_,e,ex,_⟩:=I.hok p _ hk
   refine⟨⟨o,e,ex.1⟩,fun a e2=>?_⟩;cases e2;exact⟨o,e,ex.2.1⟩
 |_=>exact QZ ty
noncomputable def jYL(K:QD)(T:String)(r:V->List V->Hp->VK->Prop)(to:TE):TE:=fun σ H Q=>to σ H fun x H1=>tyV K T x H1/\r x [] H1 Q
noncomputable def tBM(K:QD)(T:String)(r:V->List V->Hp->VK->Prop)(to:TE)(t:TA):TE:=fun σ H Q=>to σ H fun x H1=>tyV K T x H1/\t σ H1 fun xs H2=>r x xs H2 Q
variable{o e:Expr}{es:List Expr}{to:TE}{t:TA}{name:Str}{apos cpos:Pos}{T id:String}{r:V->List V->Hp->VK->Prop}
theorem jS7(pa:PlainAttrs T)(slot:Slot T name id)(hty:typeOf (.builtin id)=pure (.type "method_descriptor"))(hm:MtR X id r)(ho:PE X o to)
  (hbase:attributeBase o name X.env (eval o X.env)=eval o X.env:=by rfl) (hline:(apos.endLine==cpos.line)=true:=by rfl):PE X (.Call (.Attribute o name apos) [] [] cpos) (jYL X.K T r to):=by
 intro pins s σ H Q I h;refine QAd hbase hline (thn (ho pins s σ H _ I h) fun v s1 ⟨x,H1,I1,r1,ty,q1⟩=>?_);obtain⟨h1,h2⟩:=jOi I1 r1 ty;exact⟨T,id,pa,slot,hty,h1,h2,Wa rfl (QBG (hm pins s1 σ H1 x [] v [] Q I1 r1 .nil q1))⟩
theorem jWK(pa:PlainAttrs T)(slot:Slot T name id)(hty:typeOf (.builtin id)=pure (.type "method_descriptor"))(hm:MtR X id r)(ho:PE X o to)(ha:PA X (e::es) t)
  (hbase:attributeBase o name X.env (eval o X.env)=eval o X.env:=by rfl)
  (hfew:((backTo cpos (starEach (e::es) X.env)).all (fun x=>!x.1)&&(backToKw cpos (keywordEach [] X.env)).all (fun x=>x.1.isSome)
   && decide ((e::es).length+([]:List Keyword).length+(if([]:List Keyword).isEmpty then 0 else 1)<30))=true:=by rfl)
  (hline:(apos.endLine==cpos.line)=true:=by rfl) (hs:starEach (e::es) X.env=(false,eval e X.env)::starEach es X.env:=by rfl) (hplain:(backTo cpos (starEach es X.env)).any (·.1)=false:=by rfl) :
  PE X (.Call (.Attribute o name apos) (e::es) [] cpos) (tBM X.K T r to t):=by
 intro pins s σ H Q I h;refine wpAny_Call_method_late hbase hfew hline rfl (thn (ho pins s σ H _ I h) fun v s1 ⟨x,H1,I1,r1,ty,q1⟩=>?_);obtain⟨h1,h2⟩:=jOi I1 r1 ty;refine⟨T,id,pa,slot,hty,h1,h2,?_⟩;have hA:=ha cpos pins s1 σ H1 _ I1 q1;rw[hs]at hA ⊢;refine Wa (by show(false||(backTo cpos (starEach es X.env)).any (·.1))=false;rw[hplain]<;>rfl) (Calls.evalArgs_plain ?_);exact thn hA fun us s2 ⟨vs,H2,I2,r2,q2⟩=>hm pins s2 σ H2 x vs v us Q I2 r1 r2 q2
end
def MtM(X:Cx)(id:String)(r:V->List V->Hp->VK->Prop):Prop :=
 ∀(pins:LAO) (s:Shared) (σ:St) (H:Hp) (x:V) (xs:List V) (v:Value) (us:List Value) (Q:VK),Inv X pins σ H s->jAm x v->jAQ xs us->r x xs H Q ->
  wpAny (model X.prog X.w) X.A (call (.builtin id) (v::us)) (EP X pins σ Q) X.xe s
theorem jAQ.one:∀{x:V}{us:List Value},jAQ [x] us->∃u,us=[u]/\jAm x u
 |_,_,.cons r .nil=>⟨_,rfl,r⟩
theorem jAQ.eraseIdx:∀{xs:List V}{us:List Value}(i:Nat),jAQ xs us->jAQ (xs.eraseIdx i) (us.eraseIdx i)
 |_,_,_,.nil=>.nil
 |_,_,0,.cons _ t=>t
 |_,_,i+1,.cons r t=>.cons r (jAQ.eraseIdx i t)
theorem jAQ.rep{xs:List V}{us:List Value}(h:jAQ xs us):∀k:Nat,jAQ (Qw k xs).flatten (Qw k us).flatten
 |0=>.nil
 |k+1=>by
  rw[qm,qm,qp,qp];exact jAQ.append h (jAQ.rep h k)
theorem jG8{α:Type}:∀(l:List α) (i:Nat),(l.eraseIdx i).length<=l.length
 |[],_=>QU _
 |_::_,0=>wJ _
 |_::r,i+1=>Nat.succ_le_succ (jG8 r i)
theorem jHD(its:List Value):∀(k:Nat) (acc:List Value),
  QCE (fun x1 x2=>x1++x2) acc.toArray (Qw k its.toArray)=(acc++(Qw k its).flatten).toArray
 |0,acc=>by simp
 |k+1,acc=>by
  have e:acc.toArray++its.toArray=(acc++its).toArray:=by simp
  have e2:(acc++its)++(Qw k its).flatten=acc++(Qw (k+1) its).flatten:=by
   rw[qm,qp,qq]
  rw[<- e2,<- jHD its k (acc++its),<- e,qm,wz]
section
variable{X:Cx}{pins:LAO}{σ:St}{H:Hp}{s:Shared}{l b:Addr}{xs ys zs:List V}
theorem Inv.lset{its its':List Value}{n:Nat}{f:Array Value->Array Value}{t':Nat}(I:Inv X pins σ H s)(hH:H l=some (.lst xs))
  (e:s.heap.get? l=some { cls:=.type "list",data:=.seq its.toArray n }) (hf:f its.toArray=its'.toArray) (hv:jAQ ys its') (hz:ys.length<=sizeLine) :
  Inv X pins σ (upd H l (.lst ys)) { s with heap:=s.heap.update l (qI f),toks:=t' }:=by
 have q:=PySem.IsL.update e f;rw[hf]at q;refine I.write (x:=l) (e:=l) (by rw[hH];exact trivial) (.inl rfl) (fun b' u hb hu=>(Q6 s.heap (qI f) (Q2 hb)).trans hu) ⟨_,q⟩ ?_;exact⟨hz,its',_,hv,q⟩
theorem Inv.lnew{its:List Value}{t':Nat}(I:Inv X pins σ H s)(hv:jAQ ys its)(hz:ys.length<=sizeLine) :
  Inv X pins σ (upd H s.heap.objs.size (.lst ys)) { s with heap:=s.heap.push { cls:=.type "list",data:=.seq its.toArray },toks:=t' } :=
 I.laid (fun _ _ q=>QH _ q) (QU _) ⟨hz,its,0,hv,QN _ rfl⟩
theorem Inv.fresh(I:Inv X pins σ H s):H s.heap.objs.size=none:=I.hok.fresh (QU _)
theorem Inv.lstM(I:Inv X pins σ H s)(hH:H l=some (.lst xs)):xs.length<=sizeLine/\∃(its:List Value) (n:Nat),jAQ xs its/\xs.length=its.length/\s.heap.get? l=some { cls:=.type "list",data:=.seq its.toArray n }:=by
 obtain⟨z,its,n,r,e⟩:=I.hok l _ hH;exact⟨z,its,n,r,r.length,e⟩
theorem jNr{n:Nat}(h:n<=sizeLine):WR n=false:=by
 unfold WR;exact dF (by omega)
end
section
variable{X:Cx}
noncomputable def jLF:V->List V->Hp->VK->Prop:=fun x vs H Q=>∃l xs y,x=.ref l/\vs=[y]/\H l=some (.lst xs)/\xs.length<sizeLine/\Q .non (upd H l (.lst (xs++[y])))
theorem jLw:MtM X "list.append" jLF:=by
 intro pins s σ H x vs v us Q I rx rv h;obtain⟨l,xs,y,rfl,rfl,hH,hz,q⟩:=h;cases rx;obtain⟨u,rfl,ru⟩:=rv.one;obtain⟨z,its,n,r,hl,e⟩:=I.lstM hH;refine QA2 F.slot_list_append ⟨_,e,rfl⟩ F.entry_list_append (F.args_list_append_2 _ _) (PySem.list_append l its.toArray n u (by rw[QS];omega)) ⟨e,?_⟩;refine⟨.non,_,I.lset (its':=its++[u]) hH e (by simp) (r.append (.cons ru .nil)) ?_,rfl,q⟩;rw[QM,Ql]
 omega
noncomputable def jSk:V->List V->Hp->VK->Prop:=fun x vs H Q=>∃l xs i k y,x=.ref l/\vs=[.int i]/\H l=some (.lst xs)/\-(2 ^ 63)<=i/\i<2 ^ 63/\seqIndex? i xs.length=some k/\xs[k]?=some y/\Q y (upd H l (.lst (xs.eraseIdx k)))
theorem jNz:MtM X "list.pop" jSk:=by
 intro pins s σ H x vs v us Q I rx rv h;obtain⟨l,xs,i,k,y,rfl,rfl,hH,h1,h2,hk,hy,q⟩:=h;cases rx;obtain⟨u,rfl,ru⟩:=rv.one;obtain⟨t,rfl⟩:=ru;obtain⟨z,its,n,r,hl,e⟩:=I.lstM hH;obtain⟨w,hw,rw'⟩:=r.get hy;refine QA2 F.slot_list_pop ⟨_,e,rfl⟩ F.entry_list_pop (F.args_list_pop_2 _ _)
  (MeetsSeq.list_pop_at l its.toArray n i t k w (fitsIndex_both h1 h2) (by rw[QS,<- hl];exact hk) (by rw[<- qv];exact hw) (by rw[QS];omega)) ⟨e,?_⟩
 refine⟨y,_,I.lset (its':=its.eraseIdx k) hH e ?_ (r.eraseIdx k) ?_,rw',q⟩
 ·show its.toArray.eraseIdxIfInBounds k=(its.eraseIdx k).toArray
  rw[List.eraseIdxIfInBounds_toArray]
 ·have:=jG8 xs k
  omega
noncomputable def jXO:R2:=fun x y H Q=>∃l k xs,x=.ref l/\y=.int k/\H l=some (.lst xs)/\-(2 ^ 63)<=k/\k<2 ^ 63/\xs.length * k.toNat<=sizeLine /\
 ∀p,H p=none->Q (.ref p) (upd H p (.lst (Qw k.toNat xs).flatten))
theorem jRK{α:Type}(xs:List α)(k:Nat):(Qw k xs).flatten.length=k * xs.length:=by
 induction k with
 |zero=>simp
 |succ k ih=>rw[qm,qp,QM,ih,Nat.succ_mul,Nat.add_comm]
theorem jTB:OpR X (binaryOp .Mult) jXO:=by
 intro pins s σ H x y v u Q I rx ry h;obtain⟨l,k,xs,rfl,rfl,hH,h1,h2,hz,q⟩:=h;cases rx;obtain⟨t,rfl⟩:=ry;obtain⟨z,its,n,r,hl,e⟩:=I.lstM hH;have hlen:its.toArray.size * k.toNat<=sizeLine:=by rw[QS,<- hl];exact hz
 have hcap:¬ its.toArray.size * k.toNat > (2 ^ 63 - 1) / 8:=by
  have:(sizeLine:Nat)<=(2 ^ 63 - 1) / 8:=by decide
  omega
 have hfit:¬ (!Builtin.List.listFitsIndex k)=true:=by
  rw[fitsIndex_both h1 h2];exact QC
 have hlong:¬ WR (its.toArray.size * k.toNat)=true:=by
  rw[jNr hlen];exact QC
 have hnew:QCE (fun x1 x2=>x1++x2) #[] (Qw (if its.toArray.isEmpty=true then 0 else k.toNat) its.toArray)=(Qw k.toNat its).flatten.toArray:=by
  have f0:∀m:Nat,QCE (fun x1 x2=>x1++x2) #[] (Qw m its.toArray)=(Qw m its).flatten.toArray:=fun m=>by
   have:=jHD its m [];rw[qD]at this;exact this
  rw[f0];cases its with
  |nil=>simp
  |cons a r'=>rw[if_neg (by simp)]
 refine wpAny_binaryOp_repeat_ref (T:="list") (U:="int") (by decide) ⟨_,e,rfl⟩ (fun s'=>QCD s' k t) noFill_list_mul F.fills_int_mul QB6 repeat_list F.slot_int_index.lookup
  (QA2 QB6 (QCD s k t) F.entry_int_rmul (F.args_int_rmul_2 _ _) (int___rmul___int_list k t l its.toArray n)
   ⟨e,rfl,⟨_,e,rfl⟩,QA2 F.slot_list_mul ⟨_,e,rfl⟩ F.entry_list_mul (F.args_list_mul_2 _ _) (AutoListH.list___mul___list_int_3 l its.toArray n k t hfit hcap hlong) ⟨e,?_⟩⟩)
 rw[hnew];exact⟨.ref _,_,I.lnew (t':=s.toks) (r.rep k.toNat) (by rw[jRK,Nat.mul_comm];exact hz),rfl,q _ I.fresh⟩
end
section
variable{prog:Program}{w:World}{A:Around}{E:VSP}{s:Shared}
end
section
variable{X:Cx}
end
end L2
namespace Att
open PySem PySem.W PySem.Calls PyProof.Rows
theorem jEh{P:Params}{h:Heap}:∀(ns:List Int) (vs:List Value),WellAll P h vs (ns.map WData.int)->IntsAre vs ns:=by
 intro ns
 induction ns with
 |nil =>
  intro vs w;rw[w8]at w;cases w;exact .nil
 |cons n ns ih =>
  intro vs w;rw[QR]at w;cases w with
  |cons a b =>
   cases a;exact .cons _ _ (ih _ b)
theorem script_of{l:OpenLaw}{n:Nat}(hn:l.most=some n){P:Params}{h:Heap}{args:List WData}{vals:List Value}
  (hpre:l.row.toRowW.claim.pre args=true) (hwl:WellAll P h vals args) :
  ∃a vs ns,vals=[Value.ref a]/\args=[WData.list (ns.map WData.int)]/\h.get? a=some { cls:=.type "list",data:=.seq vs.toArray }/\IntsAre vs ns/\ns.length<=n:=by
 have hsh:WShape.hasAll [] args [.list .int]=true:=(pre_splitW hpre).1;have hc:l.pre.holds [] { args:=args }=true:=(pre_splitW hpre).2;obtain⟨d,r,rfl,h1,h2⟩:=hasAllW_cons hsh;obtain rfl:=hasAllW_nil h2;obtain⟨xs,rfl,h3⟩:=hasW_list h1;obtain⟨ns,rfl⟩:=items_int h3;have hlen:ns.length<=n:=by
  unfold OpenLaw.pre at hc;have h4:(WTm.not (.lt (.lit (.int (n:Int))) (.len (.arg 0)))).holds [] { args:=[.list (ns.map .int)] }=true:=by
   have h4:=(holds_andW hc).1;rw[hn]at h4;exact h4
  have h5:=condW_of h4 (w_not (w_lt w_lit (w_len_list (w_arg rfl))));rw[QG]at h5;refine Nat.le_of_not_lt fun q=>?_;have q':(n:Int)<((ns.length:Nat):Int):=by omega
  first
   | (rw[dT q']at h5;exact absurd h5 (by decide))
   | (simp at h5;omega)
 cases hwl with
 |cons w1 w2 =>
  cases w2;cases w1 with
  |list ho hall=>exact⟨_,_,ns,rfl,rfl,ho,jEh ns _ hall,hlen⟩
theorem post_true(l:OpenLaw)(args:List WData):l.row.toRowW.claim.post args (.bool true) args=true :=
 postW_of (r:=l.row.toRowW) (X:=(true==true))
  (show WShape.has [] (.bool true) .bool=true by first|rfl|decide|simp[WShape.has,WShape.arms,WShape.armsAll])
  (show(WTm.eq .res (.lit (.bool true))).value [] { args:=args,res:=some (.bool true),after:=args }=some (.bool (true==true)) from w_eq_bool (w_res rfl) w_lit) rfl
section
variable{prog:Program}{w:World}{A:Around}{E:VSP}{s:Shared}{K:Frag}
end
end Att
namespace L2
open PySem PySem.Spec PyProof.Rows
theorem jGd:∀{vs:List Value}{ns:List Int},IntsAre vs ns->jAQ (ns.map V.int) vs
 |_,_,.nil=>.nil
 |_,_,.cons n t h=>.cons ⟨t,rfl⟩ (jGd h)
def jX3(H:Hp):Prop:=∀b,H b=none∨∃o xs,H b=some (.frz o (.lst xs))
theorem jN4{P:Program}{w:World}{K:QD}{mg mb:Str->Option Value}{CX:CXT}{k:Nat}{fa a:Addr}{fd:FuncData}{x:Str}{sp:Sp}{s₁:Shared}{vs:List Value}{ns:List Int}
  (KX:K.In s₁.heap) (hns:s₁.heap.Ns mainGlobals mg) (hb:s₁.heap.Ns builtinsNs mb) (hbb:∀x:Str,x≠"__name__"->mb x=bootBuiltins x) (hlim:s₁.heap.NoLimit) (hg:s₁.gens=#[])
  (ha:s₁.heap.get? a=some { cls:=.type "list",data:=.seq vs.toArray }) (hi:IntsAre vs ns) (hl:ns.length<=sizeLine) (hr:Room k callerA)
  (F:∀base:Heap,K.In base->base.Ns mainGlobals mg->FnOk P w K mg base CX k fa fd [x] sp) (hbind:∀(s:Shared) (u:Value),BindsTo s fd ⟨[u],[]⟩ [(x,u)])
  (hsp:∀H:Hp,jX3 H->SqL K H a (ns.map V.int)->sp [.ref a] H (fun v _=>v=.bl true) fun _ _ _=>False)
  (hCX:∀H e s',CX [] H s₁ (fun _ _ _=>False) e s'->False) :
  codeAny (model P w) callerA (.call (.ref fa) ⟨[.ref a],[]⟩) (fun r s'=>r=.ok (.ret (.bool true))/\OldK s₁.heap s'.heap/\s'.os=s₁.os/\AllBare s'.gens) s₁:=by
 have rv:=jGd hi;have lenV:=hi.length;have core:∀H:Hp,jX3 H->SqL K H a (ns.map V.int)->HOk P w H s₁.heap->(∀b,H b≠none->b=a)->(H a≠none->K.lookup a=none) ->
   codeAny (model P w) callerA (.call (.ref fa) ⟨[.ref a],[]⟩) (fun r s'=>r=.ok (.ret (.bool true))/\OldK s₁.heap s'.heap/\s'.os=s₁.os/\AllBare s'.gens) s₁:=by
  intro H hO hS hok hA hK;have base_of:∀{b:Addr}{o:Obj},s₁.heap.get? b=some o->H b=none->(jOE s₁.heap H).get? b=some o:=fun e n=>jOD e n;have noA:∀{b:Addr}{o:Obj}{es:Array DictEntry}{ep:Nat},s₁.heap.get? b=some o->o.data=.dict es ep->H b=none:=fun {b o es ep} e d=>by
   cases q:H b with
   |none=>rfl
   |some u =>
    have e':b=a:=hA b (by rw[q];simp);subst e';rw[ha]at e;cases e;have d':Data.seq vs.toArray _=Data.dict es ep:=d;cases d'
  have nsK:∀{b:Addr}{m:Str->Option Value},s₁.heap.Ns b m->(jOE s₁.heap H).Ns b m:=fun {b m} ⟨o,es,ep,e,d,r⟩=>⟨o,es,ep,base_of e (noA e d),d,r⟩
  have hKb:K.In (jOE s₁.heap H):=fun b o e=>base_of (KX b o e) (by
   cases q:H b with
   |none=>rfl
   |some u =>
    have e':b=a:=hA b (by rw[q];simp);subst e';rw[hK (by rw[q];simp)]at e;cases e)
  have hM:Mod K mg (jOE s₁.heap H):=⟨hKb,nsK hns,⟨mb,nsK hb,hbb⟩,let⟨mc,h1,h2⟩:=hlim;⟨mc,nsK h1,h2⟩⟩
  have e0:Env0 P w K mg (jOE s₁.heap H) callerA [] s₁ H:=⟨rfl,hM,fun b o e=>jQz e,Wi (jMJ _ _),trivial,fun b hb=>absurd (show b∈([]:List Addr) from hb) (by simp),hok,.of_eq hg⟩
  refine QAG ((F _ hKb (nsK hns)).run callerA [] s₁ H ⟨[.ref a],[]⟩ [.ref a] [.ref a] _ _ hr e0 (hbind s₁ (.ref a)) (.cons rfl .nil) (hsp H hO hS)) fun r s' h=>?_;cases r with
  |error e=>exact(hCX H e s' h).elim
  |ok fl =>
   cases fl with
   |next=>exact QZ h
   |brk=>exact QZ h
   |cont=>exact QZ h
   |ret u =>
    obtain⟨v,H',os,bare,un,hok',r',q⟩:=h;have q':v=.bl true:=q;subst q';obtain rfl:u=Value.bool true:=r';refine⟨rfl,OldK.of_keep fun b o e=>?_,os,bare⟩;cases q:H b with
    |none=>exact un.keep b o e q (by intro z;exact absurd (show b∈([]:List Addr) from z) (by simp)) (by simp)
    |some u =>
     rcases hO b with z|⟨ob,xs,z⟩
     ·rw[q]at z;cases z
     ·have z2:=un.frzs b ob _ z
      obtain⟨e1,_⟩:=hok b _ z;obtain⟨e2,_⟩:=hok' b _ z2;rw[e]at e1;cases e1;exact e2
 cases hk:K.lookup a with
 |some o =>
  have e:=KX a o hk;rw[ha]at e;cases e;refine core (fun _=>none) (fun _=>.inl rfl) (.inr ⟨_,vs.toArray,_,hk,rfl,rfl,rfl,by rw[QS,lenV];exact hl,by simpa using rv⟩) (fun b u z=>by have z':(none:Option HO)=some u:=z;cases z') (fun b z=>absurd rfl z) fun z=>absurd rfl z
 |none =>
  refine core (fun b=>if b=a then some (.frz { cls:=.type "list",data:=.seq vs.toArray } (.lst (ns.map V.int))) else none) (fun b=>?_) (.inl (.inr ⟨{ cls:=.type "list",data:=.seq vs.toArray },if_pos rfl⟩)) (fun b u z=>?_) (fun b z=>?_) fun _=>hk
  ·by_cases hb:b=a
   ·exact .inr ⟨_,_,if_pos hb⟩
   ·exact .inl (if_neg hb)
  ·by_cases hb:b=a
   ·have z':=(if_pos hb).symm.trans z
    cases z';subst hb;exact⟨ha,by rw[QG];exact hl,vs,_,rv,ha⟩
   ·have z':=(if_neg hb).symm.trans z
    cases z'
  ·by_cases hb:b=a
   ·exact hb
   ·exact absurd (if_neg hb) z
noncomputable def jCJ(s:Stmt):Arguments:=match s with
 | .FunctionDef _ a _ _ _ _ _ _ _ _=>a
 |_=>{ posonlyargs:=[],args:=[],vararg:=none,kwonlyargs:=[],kw_defaults:=[],kwarg:=none,defaults:=[] }
noncomputable def jBh(s:Stmt):List Stmt:=match s with
 | .FunctionDef _ _ b _ _ _ _ _ _ _=>b
 |_=>[]
noncomputable def jAZ(s:Stmt):Scope:=match s with
 | .FunctionDef _ _ _ _ _ _ sc _ _ _=>sc
 |_=>{ kind:=.function,names:=[],isGenerator:=false,isCoroutine:=false }
noncomputable abbrev CX0:CXT:=fun _ _ _ _ _ _=>False
noncomputable abbrev E0:XK:=fun _ _ _=>False
theorem jWL{X:Cx}:jHb CX0 X E0:=fun _ _ _ _ _ _ _ h=>h.elim
structure Fun(K:QD)(x qual:Str)(st:Stmt)(f:Addr)(fd:FuncData):Prop where
 ex:∃(oc:Value) (od:Option Addr) (kV doc pm:Value) (an:Option Addr) (cdv ct:Value) (osl:Array (Option Value)),
  fd=wQ x qual (jCJ st) (jBh st) (jAZ st) .none kV doc pm an cdv ct/\K.lookup f=some ⟨oc,od,.func fd,osl⟩/\QAM K cdv qual=true
 kp:wu K (.ref f)=true
section
variable{P:Program}{w:World}{K:QD}{mg:Str->Option Value}{base:Heap}
theorem Fun.ok{x qual:Str}{st:Stmt}{f:Addr}{fd:FuncData}{N ps:List Str}{k:Nat}{sp:Sp}(F:Fun K x qual st f fd)(S:FnScope N ps (jAZ st))(len:∀vs H Q E,sp vs H Q E->vs.length=ps.length)
  (hbody:∀(cdv:Value) (A:Around) (outer:List Env) (s:Shared) (H:Hp) (vs:List V) (Q:VK) (E:XK),Room k (A.deeper (envOfC qual (jAZ st) s.heap.objs.size f cdv))->sp vs H Q E ->
   ∃t,PSs (jRl CX0 P w K mg base N qual (jAZ st) f cdv A outer s H E).nox (jBh st) t/\t { nx:=fun _ H'=>Q .non H',rt:=Q } (jCt N vs) H):FnOk P w K mg base CX0 (k+1) f fd ps sp:=by
 obtain⟨oc,od,kV,doc,pm,an,cdv,ct,osl,rfl,lk,hcd⟩:=F.ex;refine jWi lk hcd S len fun A outer s H vs Q E hr hsp=>?_;obtain⟨t,h,q⟩:=hbody cdv A outer s H vs Q E hr hsp;exact⟨t,h.nox,q⟩
theorem Fun.binds{x qual:Str}{st:Stmt}{f:Addr}{fd:FuncData}{ps:List Str}(F:Fun K x qual st f fd)
  (h:∀(kV doc pm:Value) (an:Option Addr) (cdv ct:Value) (us:List Value),us.length=ps.length->bindArgs (wQ x qual (jCJ st) (jBh st) (jAZ st) .none kV doc pm an cdv ct) ⟨us,[]⟩=pure (ps.zip us)):jGW K fd ps []:=by
 obtain⟨oc,od,kV,doc,pm,an,cdv,ct,osl,rfl,lk,hcd⟩:=F.ex;exact .all (h kV doc pm an cdv ct)
theorem jT3{x qual:Str}{st:Stmt}{f:Addr}{oc:Value}{od an:Option Addr}{osl:Array (Option Value)}{kV doc pm cdv ct:Value}(l:K.lookup f=some ⟨oc,od,.func (wQ x qual (jCJ st) (jBh st) (jAZ st) .none kV doc pm an cdv ct),osl⟩)
  (c:QAM K cdv qual=true) (k:wu K (.ref f)=true):Fun K x qual st f (wQ x qual (jCJ st) (jBh st) (jAZ st) .none kV doc pm an cdv ct):=⟨⟨oc,od,kV,doc,pm,an,cdv,ct,osl,rfl,l,c⟩,k⟩
end
section
variable{X:Cx}
end
def Same(H H':Hp):Prop:=∀b o,H b=some o->H' b=some o
theorem Same.refl(H:Hp):Same H H:=fun _ _ h=>h
theorem Same.trans{H H1 H2:Hp}(a:Same H H1)(b:Same H1 H2):Same H H2:=fun c o h=>b c o (a c o h)
theorem Same.free{H H':Hp}(e:Same H H'){l:Addr}(h:H' l=Option.none):H l=Option.none:=by
 cases q:H l with
 |none=>rfl
 |some o =>
  rw[e l o q]at h;cases h
theorem Same.seq{K:QD}{H H':Hp}{a:Addr}{xs:List V}(e:Same H H')(h:SqL K H a xs):SqL K H' a xs:=by
 rcases h with(h|⟨o,h⟩)|h
 ·exact .inl (.inl (e _ _ h))
 ·exact .inl (.inr ⟨o,e _ _ h⟩)
 ·exact .inr h
noncomputable def jM6(env:Env):List (Str×NameKind)->List (Str×Addr)->List (Str×Addr)
 |[],cs=>cs
 | (n,k)::r,cs=>jM6 env r (if k==.free then(n,(env.cells.lookup n).getD 0)::cs else cs)
theorem jKI{scope:Scope}{env:Env}(h:∀y∈scope.names,y.2=.free->∃c,env.cells.lookup y.1=some c):closureFor scope env=pure (jM6 env scope.names []):=by
 have key:∀(l:List (Str×NameKind)) (cs:List (Str×Addr)),(∀y∈l,y.2=.free->∃c,env.cells.lookup y.1=some c) ->
   (forIn l cs fun(x:Str×NameKind) (r:List (Str×Addr))=>(if(x.2==NameKind.free)=true then(do let c <- cellOf env x.1;pure (ForInStep.yield ((x.1,c)::r))) else pure (ForInStep.yield r):Sem (ForInStep (List (Str×Addr)))))=pure (jM6 env l cs):=by
  intro l
  induction l with
  |nil=>intro cs _;rfl
  |cons y l ih =>
   intro cs hl;obtain⟨n,k⟩:=y;rw[QAu];by_cases hk:k=.free
   ·subst hk
    obtain⟨c,hc⟩:=hl (n,.free) QF rfl;have hc:env.cells.lookup n=some c:=hc;simp only[beq_self_eq_true,if_true,cellOf,hc,pure_bind,jM6,QB2];exact ih _ fun z hz=>hl z (QE _ hz)
   ·have hb:(k==NameKind.free)=false:=by simpa using hk
    simp only[hb,qO,if_false,pure_bind,jM6];exact ih _ fun z hz=>hl z (QE _ hz)
 have e:=key scope.names [] h;unfold closureFor;exact(congrArg (· >>= pure) e).trans (pure_bind _ _)
theorem jHL{env:Env}{x:Str}{c:Addr}:∀(l:List (Str×NameKind)) (cs:List (Str×Addr)),(∀y∈l,y.2=.free->∃c,env.cells.lookup y.1=some c)->(∀c,cs.lookup x=some c->env.cells.lookup x=some c) ->
  (jM6 env l cs).lookup x=some c->env.cells.lookup x=some c
 |[],cs,_,hc,h=>hc c h
 | (n,k)::r,cs,hl,hc,h=>by
  refine jHL r _ (fun z hz=>hl z (QE _ hz)) (fun d hd=>?_) h;by_cases hk:k=.free
  ·subst hk
   obtain⟨e,he⟩:=hl (n,.free) QF rfl;have he:env.cells.lookup n=some e:=he;simp only[beq_self_eq_true,if_true,he,QB2,Wp]at hd;cases hx:x==n with
   |true =>
    rw[hx]at hd;cases hd;rw[qa hx];exact he
   |false =>
    rw[hx]at hd;exact hc d hd
  ·have hb:(k==NameKind.free)=false:=by simpa using hk
   simp only[hb,qO,if_false]at hd;exact hc d hd
theorem jGK{env:Env}{x:Str}:∀(l:List (Str×NameKind)) (cs:List (Str×Addr)),((∃c,cs.lookup x=some c)∨(x,NameKind.free)∈l)->∃c,(jM6 env l cs).lookup x=some c
 |[],cs,h=>by
  rcases h with h|h
  ·exact h
  ·cases h
 | (n,k)::r,cs,h=>by
  refine jGK r _ ?_;rcases h with⟨c,h⟩| h
  ·refine .inl ?_
   split
   ·rw[Wp]
    split
    ·exact⟨_,rfl⟩
    ·exact⟨c,h⟩
   ·exact⟨c,h⟩
  ·rcases QK.mp h with h|h
   ·cases h
    refine .inl ?_;simp
   ·exact .inr h
noncomputable def jBI:List Bool->Nat->List Str->List Str
 |b::m,j,x::N=>(if b then⟨#[46,j]⟩ else x)::jBI m (j+1) N
 |_,_,N=>N
noncomputable def jCE:List Bool->St->St
 |b::m,v::σ=>(if b then none else v)::jCE m σ
 |_,σ=>σ
theorem jEb:∀(m:List Bool) (σ:St),(jCE m σ).length=σ.length
 |[],σ=>by unfold jCE;rfl
 |_::_,[]=>by unfold jCE;rfl
 |b::m,v::σ=>by unfold jCE;rw[QL,QL,jEb m σ]
theorem jHC:∀(m:List Bool) (j:Nat) (N:List Str),(jBI m j N).length=N.length
 |[],_,N=>by unfold jBI;rfl
 |_::_,_,[]=>by unfold jBI;rfl
 |b::m,j,x::N=>by unfold jBI;rw[QL,QL,jHC m (j+1) N]
theorem jGA:∀(m:List Bool) (j:Nat) (N:List Str) (σ:St) (i:Nat) (v:V),(jCE m σ)[i]?=some (some v)->σ[i]?=some (some v)/\(jBI m j N)[i]?=N[i]?
 |[],_,N,σ,i,v,h=>by unfold jCE at h;unfold jBI;exact⟨h,rfl⟩
 |_::_,_,N,[],i,v,h=>by unfold jCE at h;simp at h
 |b::m,j,[],w::σ,i,v,h=>by
  unfold jCE at h;cases i with
  |zero =>
   cases b with
   |true=>simp at h
   |false=>simp at h;subst h;exact⟨by simp,by unfold jBI;rfl⟩
  |succ i =>
   have q:=(jGA m (j+1) [] σ i v (by simpa using h)).1;exact⟨by simpa using q,by unfold jBI;rfl⟩
 |b::m,j,x::N,w::σ,0,v,h=>by
  unfold jCE at h;cases b with
  |true=>simp at h
  |false=>simp at h;subst h;exact⟨by simp,by unfold jBI;simp⟩
 |b::m,j,x::N,w::σ,i+1,v,h=>by
  unfold jCE at h;have q:=jGA m (j+1) N σ i v (by simpa using h);unfold jBI;exact⟨by simpa using q.1,by simpa using q.2⟩
noncomputable def jFy(scope sc:Scope):Scope :=
  { scope with names:=scope.names.map fun(n,k)=>if(k==.free&&sc.kind==.function&&sc.names.lookup n==some .cell) then(n,.cell) else(n,k) }
theorem jBG(sc:Scope)(x:Str):∀(l:List (Str×NameKind)),
  (l.map fun(n,k)=>if(k==NameKind.free&&sc.kind==.function&&sc.names.lookup n==some .cell) then(n,NameKind.cell) else(n,k)).lookup x =
   (l.lookup x).map fun k=>if(k==NameKind.free&&sc.kind==.function&&sc.names.lookup x==some .cell) then NameKind.cell else k
 |[]=>rfl
 | (n,k)::r=>by
  rw[QR];have e:(if(k==NameKind.free&&sc.kind==.function&&sc.names.lookup n==some .cell)=true then(n,NameKind.cell) else(n,k)) =
    (n,if(k==NameKind.free&&sc.kind==.function&&sc.names.lookup n==some .cell)=true then NameKind.cell else k):=by split<;>rfl
  show List.lookup x ((if(k==NameKind.free&&sc.kind==.function&&sc.names.lookup n==some .cell)=true then(n,NameKind.cell) else(n,k))::_)=_;rw[e,Wp,Wp];cases hx:x==n with
  |true=>rw[qa hx];simp
  |false=>exact jBG sc x r
structure CompSt(N:List Str)(sc scope:Scope)(tgs:List Str)(mask:List Bool):Prop where
 kind:scope.kind=.function
 nocell:∀y∈scope.names,y.2≠.cell
 names:∀y∈scope.names,y.2=.local->scope.names.lookup y.1=some .local
 free:∀y∈scope.names,y.2=.free->sc.names.lookup y.1=some .cell∨sc.names.lookup y.1=some .free
 loc:∀y∈scope.names,y.2=.local->y.1∈tgs∨y.1=(".0":Str)
 nd:(tgs++jBI mask 0 N).Nodup
 no0:(".0":Str)∉tgs++jBI mask 0 N
noncomputable def jAf(X:Cx)(scope:Scope)(tgs:List Str)(mask:List Bool)(s:Shared)(H:Hp)(ex:List Addr):Cx :=
  { X with N:=tgs++jBI mask 0 X.N,s₀:=s,H₀:=H,env:=compEnvC scope (jM6 X.env scope.names []) s.heap.objs.size X.env,outer:=X.stack,stack:=X.stack,ex:=ex,fn:=fun _=>false,pn:=[],xe:=fun _ _=>False }
noncomputable def jJW(k:Nat)(mask:List Bool)(σ:St):St:=Qw k none++jCE mask σ
section
variable{X:Cx}{pins:LAO}{σ:St}{H:Hp}{s:Shared}{scope:Scope}{tgs:List Str}{mask:List Bool}{ex:List Addr}
theorem CompSt.cells(C:CompSt X.N X.env.scope scope tgs mask)(ok:X.Ok):∀y∈scope.names,y.2=.free->∃c,X.env.cells.lookup y.1=some c:=fun y hy hf =>
 ok.has y.1 (C.free y hy hf)
theorem CompSt.kindCF(C:CompSt X.N X.env.scope scope tgs mask){x:Str}(h:(relabel scope X.env).names.lookup x=some .cell∨(relabel scope X.env).names.lookup x=some .free):(x,NameKind.free)∈scope.names:=by
 have e:=jBG X.env.scope x scope.names;have e':(relabel scope X.env).names.lookup x=(scope.names.lookup x).map fun k=>if(k==NameKind.free&&X.env.scope.kind==.function&&X.env.scope.names.lookup x==some .cell) then NameKind.cell else k:=e
 rw[e']at h;cases q:scope.names.lookup x with
 |none=>rw[q]at h;simp at h
 |some k =>
  have hm:=qR q;have nc:=C.nocell _ hm;cases k with
  |free=>exact hm
  |cell=>exact absurd rfl nc
  | «local»=>rw[q]at h;simp at h
  |_=>rw[q]at h;simp at h
theorem jKF(I:Inv X pins σ H s)(C:CompSt X.N X.env.scope scope tgs mask)(hex:∀b∈ex,jJp X pins H b/\b<s.heap.objs.size){h':Heap}{t':Nat}
  (hn:h'.Ns s.heap.objs.size (fun _=>none)) (hs:qP s.heap.objs.size (s.heap.push { cls:=.type "dict",data:=.dict #[] }) h') :
  Inv (jAf X scope tgs mask s H ex) [] (jJW tgs.length mask σ) H { s with heap:=h',toks:=t' }:=by
 have kept:∀b u,s.heap.get? b=some u->h'.get? b=some u:=fun b u e=>hs.extBut b u (Qc (QO e)) (QH _ e);have look:∀x c,(jM6 X.env scope.names []).lookup x=some c->X.env.cells.lookup x=some c:=fun x c e=>jHL scope.names [] (C.cells I.ok) (fun c z=>by simp at z) e;have nofs:∀b∈ex,b∉frs X.stack:=fun b hb z=>by
  obtain⟨⟨_,f1,f2,_⟩,_⟩:=hex b hb;rcases QK.mp (I.stkSub b z) with e|e
  ·exact f1 e
  ·exact f2 e
 refine⟨⟨I.ok.mod,C.kind,I.ok.glob,I.ok.blt,QU _,fun x y c h1 h2=>I.ok.inj x y c (look x c h1) (look y c h2),fun x hx=>?_,fun x c hf _=>absurd (show false=true from hf) QC,I.ok.hd,I.ok.frames,.inl rfl,fun b hb=>?_,I.bs,QX I.ok.bsz I.sz,fun b o e hb=>?_,nofs,I.stack,I.stkFree⟩,
  rfl,I.bare,Un.kept kept,⟨_,hn,fun i x v h1 h2 h3=>?_⟩,fun x c h=>?_,I.hok.fresh (QU _),fun x c h=>I.freeC x c (look x c h),fun p hp=>absurd (show p∈([]:LAO) from hp) (by simp),I.hok.kept kept,?_⟩
 ·exact jGK scope.names [] (.inr (C.kindCF hx))
 ·obtain⟨⟨_,_,_,_,f4,_⟩,lt⟩:=hex b hb
  exact⟨Qc lt,fun x c e=>f4 x c (look x c e)⟩
 ·obtain⟨⟨_,_,_,f3,_⟩,_⟩:=hex b hb
  rcases f3 with z|z
  ·exact I.ok.noex b o e z
  ·exact absurd (Qo (QO (I.ok.bs b o e).1) z) (wC _)
 ·
  have hi:tgs.length<=i:=by
   rcases QAv i tgs.length with z|z
   ·unfold jJW at h2
    rw[Qr (by simpa using z),wm]at h2;split at h2<;>cases h2
   ·exact z
  have h1':(jBI mask 0 X.N)[i - tgs.length]?=some x:=by
   have:(tgs++jBI mask 0 X.N)[i]?=some x:=h1;rw[Qy hi]at this;exact this
  have h2':(jCE mask σ)[i - tgs.length]?=some (some v):=by
   unfold jJW at h2;rw[Qy (by simpa using hi)]at h2;simpa using h2
  obtain⟨g1,g2⟩:=jGA mask 0 X.N σ _ v h2';rw[g2]at h1';have hxm:x∈tgs++jBI mask 0 X.N:=qC (show(tgs++jBI mask 0 X.N)[i]?=some x from h1);have hxt:x∉tgs:=fun z=>by
   have nd:=C.nd;rw[qr]at nd;exact nd.2.2 x z x (qC (by rw[g2];exact h1')) rfl
  have hfree:(x,NameKind.free)∈scope.names:=by
   rcases h3 with z|z|z
   ·exfalso
    have e:(relabel scope X.env).names.lookup x=some .local:=z;have e2:=jBG X.env.scope x scope.names;have e3:(relabel scope X.env).names.lookup x=(scope.names.lookup x).map fun k=>if(k==NameKind.free&&X.env.scope.kind==.function&&X.env.scope.names.lookup x==some .cell) then NameKind.cell else k:=e2
    rw[e3]at e;cases q:scope.names.lookup x with
    |none=>rw[q]at e;cases e
    |some k =>
     rw[q]at e;have hm:=qR q;have kl:k=.local:=by
      cases k with
      | «local»=>rfl
      |free=>simp at e;split at e<;>cases e
      |_=>simp at e
     subst kl;rcases C.loc _ hm rfl with z|z
     ·exact hxt z
     ·exact C.no0 (z▸hxm)
   ·exact C.kindCF (.inl z)
   ·exact C.kindCF (.inr z)
  obtain⟨m,hnm,hl⟩:=I.loc;have vis:Vis X.env.scope x:=.inr (C.free _ hfree rfl);obtain⟨u,r,l⟩:=hl _ x v h1' g1 vis;refine⟨u,r,?_⟩;rcases l with⟨k,_⟩| ⟨_,c,hc,hcell⟩
  ·exfalso
   have k':X.env.scope.names.lookup x=some .local:=k;rcases C.free _ hfree rfl with z|z
   ·have z':X.env.scope.names.lookup x=some .cell:=z
    rw[k']at z';cases z'
   ·have z':X.env.scope.names.lookup x=some .free:=z
    rw[k']at z';cases z'
  ·obtain⟨c',hc'⟩:=jGK (env:=X.env) scope.names [] (.inr hfree)
   have:c'=c:=by
    have:=look x c' hc';rw[hc]at this;exact(Q9 this).symm
   subst this;refine .inr ⟨?_,c',hc',?_⟩
   ·rcases h3 with z|z|z
    ·exfalso
     have e:(relabel scope X.env).names.lookup x=some .local:=z;have e2:=jBG X.env.scope x scope.names;have e3:(relabel scope X.env).names.lookup x=(scope.names.lookup x).map fun k=>if(k==NameKind.free&&X.env.scope.kind==.function&&X.env.scope.names.lookup x==some .cell) then NameKind.cell else k:=e2
     rw[e3]at e;cases q:scope.names.lookup x with
     |none=>rw[q]at e;cases e
     |some k =>
      rw[q]at e;have hm:=qR q;have kl:k=.local:=by
       cases k with
       | «local»=>rfl
       |free=>simp at e;split at e<;>cases e
       |_=>simp at e
      subst kl;rcases C.loc _ hm rfl with z|z
      ·exact hxt z
      ·exact C.no0 (z▸hxm)
    ·exact .inl z
    ·exact .inr z
   ·obtain⟨o,ho,hd⟩:=hcell
    exact⟨o,kept _ _ ho,hd⟩
 ·obtain⟨v,o,ho,hd⟩:=I.cell x c (look x c h)
  exact⟨v,o,kept _ _ ho,hd⟩
 ·show(jJW tgs.length mask σ).length=(tgs++jBI mask 0 X.N).length
  unfold jJW;rw[QM,QM,qZ,jEb,jHC,I.len]
end
section
variable{X:Cx}{pins:LAO}{σ σ':St}{H H':Hp}{s s':Shared}{scope:Scope}{tgs:List Str}{mask:List Bool}{ex:List Addr}{D:Addr}{acc:List V}{its:List Value}
theorem jKG(I:Inv X pins σ H s)(hex:∀b∈ex,jJp X pins H b/\b<s.heap.objs.size)(hD:D∈ex)(J:Inv (jAf X scope tgs mask s H ex) [] σ' H' s')(hD':H' D=none)(hv:jAQ acc its)(hz:acc.length<=sizeLine)
  (hl:s'.heap.PlainList D its.toArray) {h'':Heap}(hs:qP s.heap.objs.size s'.heap h''):Inv X pins σ (upd H' D (.lst acc)) { s' with heap:=h'' }:=by
 have un:Un (frs X.stack) ex H H' s.heap s'.heap:=J.base;have neC:∀b o,s.heap.get? b=some o->b≠s.heap.objs.size:=fun b o e=>Qc (QO e);have fD:=hex D hD;have lC:H' s.heap.objs.size=none:=J.free;have DC:D≠s.heap.objs.size:=Qc fD.2;have go:∀b u,b≠s.heap.objs.size->s'.heap.get? b=some u->h''.get? b=some u:=fun b u nb e=>hs.extBut b u nb e;refine I.call' (s':={ s' with heap:=h'' }) (ch:=ex) J.os ⟨fun b o e n hb hx=>?_,fun b o e n hb hx=>?_,fun b o e n hx=>?_,fun b o e hx=>?_,fun b xs e=>?_,fun b o u e=>?_,fun b ps e=>?_⟩ ?_ J.bare fun b hb=>?_
 ·exact go b o (neC b o e) (un.keep b o e n hb hx)
 ·obtain⟨sl,q⟩:=un.slot b o e n hb hx
  exact⟨sl,go b _ (neC b o e) q⟩
 ·have q:=un.free b o e n hx
  rw[jAD (fun(z:b=D)=>hx (by rw[z];exact hD))];exact q
 ·obtain⟨o',q⟩:=un.there b o e hx
  exact⟨o',go b o' (neC b o e) q⟩
 ·rw[jAD (jAI (un.tups b xs e) hD')]
  exact un.tups b xs e
 ·rw[jAD (jAI (un.frzs b o u e) hD')]
  exact un.frzs b o u e
 ·obtain⟨more,q⟩:=un.tbls b ps e
  exact⟨more,by rw[jAD (jAI q hD')];exact q⟩
 ·intro b u e
  by_cases hb:b=D
  ·subst hb
   rw[jAM]at e;cases e;obtain⟨n,q⟩:=hl;exact⟨hz,its,n,hv,go _ _ DC q⟩
  ·rw[jAD hb]at e
   refine(J.hok b u e).stay (fun c v hc q=>go c v ?_ q) (fun c q=>?_) fun c xs q=>?_
   ·rintro rfl
    rcases hc with z|z
    ·subst z;rw[lC]at e;cases e
    ·rw[lC]at z;cases z
   ·rw[jAD (jAI q hD')];exact q
   ·rw[jAD (jAI q hD')];exact q
 ·obtain⟨⟨f0,f1,f2,f3,f4,f5⟩,_⟩:=hex b hb
  exact⟨f3,f1,f4,f5⟩
end
def PIf(X:Cx)(ifs:List Expr)(t:TT):Prop:=∀(pins:LAO) (s:Shared) (σ:St) (H:Hp) (Q:Bool->Hp->Prop),Inv X pins σ H s->t σ H Q ->
 wpAny (model X.prog X.w) X.A (forIn ifs true fun c r=>if r=true then do let ok <- isTrue c X.env (eval c X.env);pure (ForInStep.yield ok) else pure (ForInStep.yield r)) (TP X pins σ Q) X.xe s
theorem jLM{X:Cx}:PIf X [] (fun _ H Q=>Q true H):=fun pins s σ H Q I h=>by
 rw[QBB];exact QI ⟨H,I,h⟩
theorem jLL{X:Cx}{c:Expr}{t:TT}(hc:PT X c t):PIf X [c] t:=fun pins s σ H Q I h=>by
 rw[QAu];simp only[if_true];refine QA (QA (thn (hc pins s σ H Q I h) fun b s1 q=>QI ?_));dsimp only;rw[QBB];exact QI q
theorem jCn{prog:Program}{w:World}{A:Around}{R:Result->Shared->Prop}{s:Shared}{elt target iter:Expr}{ifs:List Expr}{scope:Scope}{pos:Pos}{it acc:Value}{env:Env}(I:Nat->Shared->Prop)
  (turn:∀n s,I n s->wpAny (model prog w) A (pyNext it) (fun r s₁=>match r with
   |none=>R (.ok .next) s₁
   |some v=>wpAny (model prog w) A (letOwnedTupleGo target it v) (fun _ s₁'=>wpAny (model prog w) A (assign target env v) (fun _ s₂ =>
     wpAny (model prog w) A (forIn ifs true fun c r=>if r=true then do let ok <- isTrue c env (eval c env);pure (ForInStep.yield ok) else pure (ForInStep.yield r)) (fun ok s₃ =>
      if ok=true then wpAny (model prog w) A (eval elt env) (fun x s₄ =>
       wpAny (model prog w) A (call (.builtin "list.append") [acc,x]) (fun _ s₅=>∃m,m<n/\I m s₅) (fun _ _=>False) s₄) (fun _ _=>False) s₃
      else ∃m,m<n/\I m s₃) (fun _ _=>False) s₂) (fun _ _=>False) s₁') (fun _ _=>False) s₁) (fun _ _=>False) s)
  (n:Nat) (h:I n s) :
  codeAny (model prog w) A (.compLoop (.ListComp elt [⟨target,iter,ifs,0⟩] scope pos) 0 it acc env) R s:=by
 refine codeAny_loop rfl I (fun n s hI=>?_) n h;show wpAny _ A ((compTurn (.ListComp elt [⟨target,iter,ifs,0⟩] scope pos) 0 it acc env).onRaise (fun x=>do noteFrame x env;theTreesLotGoes x)) _ _ s;refine wpAny_noted ?_;rw[compTurn_list];refine QA (QBU (QA (wO (turn n s hI) (fun r s₁ h₁=>?_) fun _ _ h'=>h'.elim)));cases r with
 |none=>exact QI h₁
 |some v =>
  refine QA (wO h₁ (fun _ s₁' h₁'=>?_) fun _ _ h'=>h'.elim);refine QA (wO h₁' (fun _ s₂ h₂=>QA (wO h₂ (fun ok s₃ h₃=>?_) fun _ _ h'=>h'.elim)) fun _ _ h'=>h'.elim);cases ok with
  |false=>exact QI ⟨rfl,h₃⟩
  |true =>
   exact QA (QA (wO h₃ (fun x s₄ h₄=>QA (wO h₄ (fun _ s₅ h₅=>QI (QI ⟨rfl,h₅⟩)) fun _ _ h'=>h'.elim)) fun _ _ h'=>h'.elim))
noncomputable def jP2(wi:TI)(g:TG)(tc:TT)(te:TE)(k:Nat)(mask:List Bool):TE:=fun σ H Q=>wi σ H fun J H1=>∃W:Nat->Nat->List V->St->Hp->Prop,(∃m,W 0 m [] (jJW k mask σ) H1) /\
 ∀i m acc σ' H',W i m acc σ' H'->(J.stop i H'/\acc.length<=sizeLine/\∀p,H' p=none->Q (.ref p) (upd H' p (.lst acc))) ∨
  (J.go i H'/\∀x H2,J.yld i H' x H2->g x σ' H2 fun σ3 H3=>tc σ3 H3 fun b H4=>if b=true then te σ3 H4 fun y H5=>acc.length<sizeLine/\∃m',m' < m/\W (i+1) m' (acc++[y]) σ3 H5 else ∃m',m' < m/\W (i+1) m' acc σ3 H4)
def jX8(X:Cx)(pins:LAO)(H:Hp)(s:Shared)(C:Addr):Prop :=
 H C=none/\C≠X.env.locals/\X.s₀.heap.objs.size<=C/\(∀x c,X.env.cells.lookup x=some c->c≠C)/\(∀p∈X.pn++pins,p.1≠C)/\∃m,s.heap.Ns C m
theorem jJZ{X:Cx}{elt tg iter:Expr}{ifs:List Expr}{scope:Scope}{pos pos':Pos}{wi:TI}{g:TG}{tc:TT}{te:TE}{tgs:List Str}{mask:List Bool}{use:Option (Value->Sem Unit)}(hc:X.calm=true)(hi:PI X tg iter wi)(C:CompSt X.N X.env.scope scope tgs mask)
  (inner:∀s H ex,PG (jAf X scope tgs mask s H ex) tg g/\PIf (jAf X scope tgs mask s H ex) ifs tc/\PE (jAf X scope tgs mask s H ex) elt te)
  (hs:∀x,foldedSetIterable iter X.env x=pure x) {pins:LAO}{s:Shared}{σ:St}{H:Hp}{Q:VK}{QQ:VSP}(I:Inv X pins σ H s) (h:jP2 wi g tc te tgs.length mask σ H Q)
  (fin:∀(D:Addr) (H':Hp) (s6:Shared) (F:Addr),Inv X pins σ H' s6->jX8 X pins H' s6 F->Q (.ref D) H'->compPost (model X.prog X.w) X.A X.xe use QQ (.ref D) F (.ok .next) s6) :
  wpAny (model X.prog X.w) X.A (comprehension (.ListComp elt [⟨tg,iter,ifs,0⟩] scope pos) scope X.env pos' (newList []) false (eval iter X.env) use) QQ X.xe s:=by
 refine wpAny_comprehension_free (use:=use) rfl hs (jKI (C.cells I.ok)) C.kind C.names (thn (hi pins s σ H _ I h) fun v s1 h1=>thn h1 fun itv s2 h2=>?_);obtain⟨it,fp,tn,J,H2,e,I2,T,st2,f2,W,⟨m0,w0⟩,turn⟩:=h2;subst e;refine Qp ?_;have I3:Inv X pins σ H2 { s2 with heap:=s2.heap.push { cls:=.type "list",data:=.seq ([]:List Value).toArray } }:=I2.kept (t':=s2.toks) fun b o e=>QH _ e;generalize hS:({ s2 with heap:=s2.heap.push { cls:=.type "list",data:=.seq ([]:List Value).toArray } }:Shared)=s3 at I3;have sz3:s3.heap.objs.size=s2.heap.objs.size+1:=by rw[<- hS];exact wV ..
 have lst3:s3.heap.PlainList s2.heap.objs.size ([]:List Value).toArray:=⟨0,by rw[<- hS];exact QN _ rfl⟩
 have old3:∀b o,s2.heap.get? b=some o->s3.heap.get? b=some o:=fun b o e=>by rw[<- hS];exact QH _ e
 generalize hDd:s2.heap.objs.size=D at sz3 lst3;have fD:jJp X pins H2 D:=by rw[<- hDd];exact I2.fpOk (QU _) (I2.hok.fresh (QU _))
 have fpl:∀b∈fp,b<D:=fun b hb=>by
  obtain⟨o,e,_⟩:=T.obj _ _ st2 b hb;rw[<- hDd];exact QO e
 have hex:∀b∈D::fp,jJp X pins H2 b/\b<s3.heap.objs.size:=fun b hb=>by
  rcases QK.mp hb with z|z
  ·subst z;exact⟨fD,by rw[sz3];exact WL _⟩
  ·exact⟨f2 b z,by rw[sz3];exact qb (fpl b z)⟩
 refine wpAny_newFunctionEnv C.nocell (by intro y hy;simp at hy) (fun h' hn hsb=>?_) C.kind;have J0:Inv (jAf X scope tgs mask s3 H2 (D::fp)) [] (jJW tgs.length mask σ) H2 { s3 with heap:=h',toks:=s3.toks+([]:List (Str×Value)).length }:=jKF I3 C hex hn hsb;have kept:∀b u,s3.heap.get? b=some u->h'.get? b=some u:=fun b u e=>hsb.extBut b u (Qc (QO e)) (QH _ e);obtain⟨pg,pf,pl⟩:=inner s3 H2 (D::fp);have loop:∀s4:Shared,s4={ s3 with heap:=h',toks:=s3.toks+([]:List (Str×Value)).length } ->
   codeAny (model X.prog X.w) X.A (.compLoop (.ListComp elt [⟨tg,iter,ifs,0⟩] scope pos) 0 (.ref it) (.ref D) (compEnvC scope (jM6 X.env scope.names []) s3.heap.objs.size X.env))
    (compPost (model X.prog X.w) X.A X.xe use QQ (.ref D) s3.heap.objs.size) s4:=by
  rintro s4 rfl;have exok:∀{H':Hp},(∀b∈D::fp,H' b=none)->∀(pp:LAO),(∀p∈pp,p.1∉fp)->∀b∈fp,jJp (jAf X scope tgs mask s3 H2 (D::fp)) pp H' b:=fun {H'} hn pp hpp b hb=>by
   have g:=J0.ok.exf b (QE _ hb);exact⟨hn b (QE _ hb),g.1,J0.ok.exfs b (QE _ hb),.inl (QE _ hb),g.2,fun p hp z=>hpp p (by simpa[jAf]using hp) (z▸hb)⟩
  have DX:=J0.ok.exf D QF;have Dfp:D∉fp:=fun z=>wC _ (fpl D z);refine jCn (fun n s'=>∃i σ' H' acc its,Inv (jAf X scope tgs mask s3 H2 (D::fp)) [] σ' H' s'/\tn i s'.heap/\(∀b∈D::fp,H' b=none)/\jAQ acc its/\s'.heap.PlainList D its.toArray/\W i n acc σ' H') ?_ m0
   ⟨0,_,H2,[],[],J0,T.keep _ _ _ (T.keep _ _ _ st2 fun b hb o e=>old3 b o e) fun b hb o e=>kept b o e,fun b hb=>((hex b hb).1).1,.nil,lst3.at fun o e=>kept _ _ e,w0⟩
  rintro n s5 ⟨i,σ5,H5,acc,its,I5,st5,fr5,va5,ls5,w5⟩;obtain⟨nL,lo⟩:=id ls5;have pinD:∀{σ':St}{H':Hp}{s':Shared},Inv (jAf X scope tgs mask s3 H2 (D::fp)) [] σ' H' s'->(∀b∈D::fp,H' b=none)->s'.heap.get? D=some { cls:=.type "list",dict:=none,data:=.seq its.toArray nL } ->
    Inv (jAf X scope tgs mask s3 H2 (D::fp)) [(D,{ cls:=.type "list",dict:=none,data:=.seq its.toArray nL })] σ' H' s':=fun {σ' H' s'} I' fr' e' =>
   I'.pins_of fun p hp=>by
    have e:p=(D,{ cls:=.type "list",dict:=none,data:=.seq its.toArray nL }):=by simpa using hp
    subst e;exact⟨e',fr' D QF,DX.1,J0.ok.exfs D QF,fun v z=>by cases z⟩
  have hppD:∀p∈[(D,({ cls:=.type "list",dict:=none,data:=.seq its.toArray nL }:Obj))],p.1∉fp:=fun p hp=>by
   have e:p=(D,{ cls:=.type "list",dict:=none,data:=.seq its.toArray nL }):=by simpa using hp
   subst e;exact Dfp
  have I5':=pinD I5 fr5 lo;rcases turn i n acc σ5 H5 w5 with⟨stop,hz,qn⟩| ⟨go,step⟩
  ·refine thn (T.done (jAf X scope tgs mask s3 H2 (D::fp)) rfl rfl rfl hc i _ s5 σ5 H5 (fun _ _=>False) I5' (exok fr5 _ hppD) st5 stop) fun r s6 ⟨hr,I6⟩=>?_
   subst hr;obtain⟨m6,hn6,_⟩:=I6.loc;have l6:s6.heap.PlainList D its.toArray:=⟨nL,(I6.pin _ (QV _ (QJ.mpr rfl))).1⟩
   have I6':Inv (jAf X scope tgs mask s3 H2 (D::fp)) [] σ5 H5 s6:=I6.pins_of fun p hp=>by simp at hp
   have Iout:Inv X pins σ (upd H5 D (.lst acc)) s6:=jKG I3 hex QF I6' (fr5 D QF) va5 hz l6 (QBg _ _);have lC:H5 s3.heap.objs.size=none:=I6'.free;refine fin D _ s6 s3.heap.objs.size Iout ⟨?_,wP I3.lt,I3.sz,fun x c e z=>?_,fun p hp z=>?_,m6,hn6⟩ (qn D (fr5 D QF))
   ·rw[jAD (fun(z:s3.heap.objs.size=D)=>absurd (hex D QF).2 (by rw[z];exact wC _))]
    exact lC
   ·obtain⟨v,q⟩:=I3.cell x c e
    exact absurd q.lt (by rw[z];exact wC _)
   ·exact absurd (QO (I3.pin p hp).1) (by rw[z];exact wC _)
  ·refine thn (T.item (jAf X scope tgs mask s3 H2 (D::fp)) rfl rfl rfl hc i _ s5 σ5 H5 (fun _ _=>False) I5' (exok fr5 _ hppD) st5 go) fun r s6 ⟨u,hr,h6⟩=>?_
   subst hr;refine thn h6 fun _ s7 ⟨x,H7,I7,r7,y7,st7,fr7⟩=>?_;have hD7:=(I7.pin _ (QV _ (QJ.mpr rfl)))
   have fr7':∀b∈D::fp,H7 b=none:=fun b hb=>by
    rcases QK.mp hb with z|z
    ·subst z;exact hD7.2.1
    ·exact fr7 b z
   have I7':=I7.pinned (exok fr7' _ hppD) (T.obj _ _ st7);have bk:∀{σ':St}{H':Hp}{s':Shared},Inv (jAf X scope tgs mask s3 H2 (D::fp)) ([(D,{ cls:=.type "list",dict:=none,data:=.seq its.toArray nL })]++jGq fp s7.heap) σ' H' s' ->
     s'.heap.get? D=some { cls:=.type "list",dict:=none,data:=.seq its.toArray nL }/\tn (i+1) s'.heap/\(∀b∈D::fp,H' b=none):=fun {σ' H' s'} I'=>by
    have hD:=I'.pin (D,{ cls:=.type "list",dict:=none,data:=.seq its.toArray nL }) (QV _ (Qk _ (QJ.mpr rfl)));refine⟨hD.1,T.keep _ _ _ st7 fun b hb o e=>(I'.pin (b,o) (QV _ (QV _ (jCR hb e)))).1,fun b hb=>?_⟩;rcases QK.mp hb with z|z
    ·subst z;exact hD.2.1
    ·obtain⟨o,e,_⟩:=T.obj _ _ st7 b z
     exact(I'.pin (b,o) (QV _ (QV _ (jCR z e)))).2.1
   refine thn (pg _ s7 σ5 H7 x u _ I7' r7 (step x H7 y7)) fun _ s8 ⟨σ8,H8,I8,q8⟩=>?_;refine thn (pf _ s8 σ8 H8 _ I8 q8) fun ok s9 ⟨H9,I9,q9⟩=>?_;cases ok with
   |false =>
    obtain⟨m',hm,w'⟩:=q9;obtain⟨b1,b2,b3⟩:=bk I9;exact⟨m',hm,i+1,σ8,H9,acc,its,I9.pins_of fun p hp=>by simp at hp,b2,b3,va5,⟨nL,b1⟩,w'⟩
   |true =>
    refine thn (pl _ s9 σ8 H9 _ I9 q9) fun y s10 ⟨yv,H10,I10,r10,hz,m',hm,w'⟩=>?_;obtain⟨b1,b2,b3⟩:=bk I10;have hlen:=va5.length;refine wpAny_list_append_plain (hsz:=by rw[QS];omega) (show s10.heap.PlainList D its.toArray from⟨nL,b1⟩) fun h11 hl11 hs11=>?_;refine⟨m',hm,i+1,σ8,H10,acc++[yv],its++[y],?_,T.keep _ _ _ b2 fun b hb o e=>(hs11.2 b (fun z=>Dfp (z▸hb))).trans e,b3,va5.append (.cons r10 .nil),by simpa using hl11,w'⟩;have I10':Inv (jAf X scope tgs mask s3 H2 (D::fp)) [] σ8 H10 s10:=I10.pins_of fun p hp=>by simp at hp
    exact I10'.turned (t':=s10.toks) (fun b o hb e=>(hs11.2 b hb).trans e) (b3 D QF) DX.1 (.inl QF) DX.2 fun p hp=>by simp[jAf]at hp
 refine codeAny_compStart_list (loop _ rfl) (T.self X.A 0 _ _ _ (T.keep _ _ _ (T.keep _ _ _ st2 fun b hb o e=>old3 b o e) fun b hb o e=>kept b o e) (loop _ rfl))
theorem jFg{X:Cx}{pins:LAO}{σ:St}{H:Hp}{s:Shared}{F:Addr}(I:Inv X pins σ H s)(f:jX8 X pins H s F){h':Heap}(hs:qP F s.heap h'):Inv X pins σ H { s with heap:=h' }:=by
 obtain⟨f0,f1,f2,f3,f4,_⟩:=f;exact I.turned (t':=s.toks) (fun b o hb e=>(hs.2 b hb).trans e) f0 f1 (.inr f2) f3 f4
theorem jQg{X:Cx}{elt tg iter:Expr}{ifs:List Expr}{scope:Scope}{pos:Pos}{wi:TI}{g:TG}{tc:TT}{te:TE}{tgs:List Str}{mask:List Bool}(hc:X.calm=true)(hi:PI X tg iter wi)(C:CompSt X.N X.env.scope scope tgs mask)
  (inner:∀s H ex,PG (jAf X scope tgs mask s H ex) tg g/\PIf (jAf X scope tgs mask s H ex) ifs tc/\PE (jAf X scope tgs mask s H ex) elt te)
  (hs:∀x,foldedSetIterable iter X.env x=pure x:=by intro _;rfl):PE X (.ListComp elt [⟨tg,iter,ifs,0⟩] scope pos) (jP2 wi g tc te tgs.length mask):=by
 intro pins s σ H Q I h;rw[eval_ListComp];refine jJZ hc hi C inner hs I h fun D H' s6 F I6 f q=>?_;obtain⟨m,hn⟩:=f.2.2.2.2.2;exact⟨m,hn,fun h' hs'=>⟨.ref D,H',jFg I6 f hs',rfl,q⟩⟩
theorem jQS{X:Cx}{elt tg iter:Expr}{ifs:List Expr}{scope:Scope}{cpos pos px:Pos}{wi:TI}{g:TG}{tc:TT}{te:TE}{tgs:List Str}{mask:List Bool}{i:Nat}{x:Str}(hc:X.calm=true)(hN:X.N.Nodup)(hi0:X.N[i]?=some x)(hx:X.env.scope.names.lookup x=some .local)
  (hi:PI X tg iter wi) (C:CompSt X.N X.env.scope scope tgs mask)
  (inner:∀s H ex,PG (jAf X scope tgs mask s H ex) tg g/\PIf (jAf X scope tgs mask s H ex) ifs tc/\PE (jAf X scope tgs mask s H ex) elt te)
  (hs:∀x,foldedSetIterable iter X.env x=pure x) (hsw:swapsWith (.ListComp elt [⟨tg,iter,ifs,0⟩] scope cpos) (some (.Name x px)) pos.line X.env=pure true) :
  PS X (.Assign [.Name x px] (.ListComp elt [⟨tg,iter,ifs,0⟩] scope cpos) pos) (jV9 (jP2 wi g tc te tgs.length mask) (jOI i)):=by
 intro pins s σ H D0 I h;rw[exec_Assign_Name_used _ _ _ _ hsw];refine QA (QBU (QA ?_));show wpAny _ X.A (do let _ <- comprehension (.ListComp elt [⟨tg,iter,ifs,0⟩] scope cpos) scope X.env _ (newList []) false (eval iter X.env) (some (assign (.Name x px) X.env))) _ _ s;refine QA (wO (jJZ (use:=some (assign (.Name x px) X.env)) (QQ:=fun _ s'=>SP X pins D0 .next s') hc hi C inner hs I h fun D H' s6 F I6 f q=>?_) (fun _ s' hq=>QI (QI hq)) fun _ _ e=>e);show wpAny _ X.A (assign (.Name x px) X.env (.ref D)) _ _ s6;refine QBd (jGh I6 hN hi0 (.inl hx) (v:=.ref D) rfl (fun s7 I7 ⟨a,sb,ha⟩=>?_) (.inr hx));obtain⟨f0,f1,f2,f3,f4,m,hn⟩:=f;have ne:F≠a:=by
  rcases ha with z|z
  ·rw[z];exact f1
  ·exact fun e=>f3 x a z e.symm
 have hn7:s7.heap.Ns F m:=hn.sameBut sb ne;exact⟨m,hn7,fun h' hs'=>⟨_,H',jFg I7 ⟨f0,f1,f2,f3,f4,m,hn7⟩ hs',q⟩⟩
end L2
namespace L2.L3
open PySem PySem.Spec PyProof.Rows
noncomputable def jXX(K:QD):R2:=fun x y H Q=>match x,y with
 | .int i,.int j=>Q (.int (i+j)) H
 | .str a,.str b=>a.length+b.length<=sizeLine/\Q (.str (a++b)) H
 | .ref a,.ref b=>(∃xs ys,SqL K H a xs/\SqL K H b ys/\xs.length+ys.length<=sizeLine/\∀p,H p=none->Q (.ref p) (upd H p (.lst (xs++ys))))∨jSn K (.ref a) (.ref b) H Q
 |_,_=>False
noncomputable def jXL:R2:=fun x y H Q=>match x,y with
 | .int i,.int j=>Q (.int (i - j)) H
 |_,_=>False
noncomputable def jIt(x:Str)(n:Int):Str:=Txt.mul x n
noncomputable def jXP(K:QD):R2:=fun x y H Q=>match x,y with
 | .int i,.int j=>IntMulOk i j/\Q (.int (i * j)) H
 | .str a,.int k=>(-(2 ^ 31)<=k/\k<2 ^ 31/\a.length * k.toNat<=sizeLine)/\Q (.str (jIt a k)) H
 | .ref a,.int k=>jXO (.ref a) (.int k) H Q
 |_,_=>False
noncomputable def jSm:R2:=fun x y H Q=>match x,y with
 | .int i,.int j=>(0<j/\j<2 ^ 200)/\Q (.int (i / j)) H
 |_,_=>False
noncomputable def jXQ:R2:=fun x y H Q=>match x,y with
 | .int i,.int j=>0<j/\Q (.int (i % j)) H
 |_,_=>False
section
variable{X:Cx}
theorem op_add:OpR X (binaryOp .Add) (jXX X.K):=by
 intro pins s σ H x y v u Q I rx ry h;cases x with
 |int i =>
  cases y with
  |int j=>exact _root_.L2.op_add pins s σ H _ _ v u Q I rx ry ⟨i,j,rfl,rfl,h⟩
  |_=>exact QZ h
 |str a =>
  cases y with
  |str b=>exact jJ7 pins s σ H _ _ v u Q I rx ry ⟨a,b,rfl,rfl,h.1,h.2⟩
  |_=>exact QZ h
 |ref a =>
  cases y with
  |ref b =>
   rcases h with⟨xs,ys,hx,hy,hz,q⟩| h
   ·cases rx
    cases ry;obtain⟨its,r,⟨⟨cls,dd,data,sl⟩,n1,e1,c1,d1,s1⟩,z1⟩:=I.list hx;obtain⟨its2,r2,⟨⟨cls2,dd2,data2,sl2⟩,n2,e2,c2,d2,s2⟩,z2⟩:=I.list hy;simp only at c1 s1 c2 s2;subst c1 s1 c2 s2;have hl:=r.length;have hl2:=r2.length;refine QBr ⟨_,e1,rfl⟩ ⟨_,e2,rfl⟩ noFill_list_add seq_list_add PySem.F.slot_list_add PySem.F.entry_list_add (PySem.F.args_list_add_2 _ _) (list_addW a b its.toArray its2.toArray n1 n2 dd dd2 sl sl2 (by simp;omega)) ⟨e1,e2,?_⟩;have ea:its.toArray++its2.toArray=(its++its2).toArray:=by simp
    rw[ea];exact⟨.ref _,_,I.lnew (t':=s.toks) (r.append r2) (by rw[QM];omega),rfl,q _ I.fresh⟩
   ·exact jQm pins s σ H _ _ v u Q I rx ry h
  |_=>exact QZ h
 |_=>exact QZ h
theorem op_sub:OpR X (binaryOp .Sub) jXL:=by
 intro pins s σ H x y v u Q I rx ry h;cases x with
 |int i =>
  cases y with
  |int j=>exact _root_.L2.op_sub pins s σ H _ _ v u Q I rx ry ⟨i,j,rfl,rfl,h⟩
  |_=>exact QZ h
 |_=>exact QZ h
theorem jQl:OpR X (binaryOp .FloorDiv) jSm:=by
 intro pins s σ H x y v u Q I rx ry h;cases x with
 |int i =>
  cases y with
  |int j =>
   obtain⟨t,rfl⟩:=rx;obtain⟨t',rfl⟩:=ry;obtain⟨⟨h1,h2⟩,q⟩:=h;refine floordiv_int (by omega) ?_ (.inl (PyProof.noPylong_of_log2 ?_))
   ·rw[Int.fdiv_eq_ediv_of_nonneg i (by omega)]
    exact⟨.int _,H,I.tok _,⟨_,rfl⟩,q⟩
   ·have:j.natAbs<2 ^ 200:=by omega
    have:=(Nat.log2_lt (show j.natAbs≠0 by omega)).mpr this
    omega
  |_=>exact QZ h
 |_=>exact QZ h
theorem op_mod:OpR X (binaryOp .Mod) jXQ:=by
 intro pins s σ H x y v u Q I rx ry h;cases x with
 |int i =>
  cases y with
  |int j=>exact _root_.L2.op_mod pins s σ H _ _ v u Q I rx ry ⟨i,j,rfl,rfl,h.1,h.2⟩
  |_=>exact QZ h
 |_=>exact QZ h
theorem jTC:OpR X (binaryOp .Mult) (jXP X.K):=by
 intro pins s σ H x y v u Q I rx ry h;cases x with
 |int i =>
  cases y with
  |int j =>
   obtain⟨t,rfl⟩:=rx;obtain⟨t',rfl⟩:=ry;exact mul_int ⟨.int _,H,I.tok _,⟨_,rfl⟩,h.2⟩ h.1
  |_=>exact QZ h
 |str a =>
  cases y with
  |int k =>
   obtain⟨t,rfl⟩:=rx;obtain⟨t',rfl⟩:=ry;obtain⟨⟨h1,h2,h3⟩,q⟩:=h;refine SB.mul ⟨?_,fun _ _=>?_,fun _ _=>?_⟩ fun t' kk=>⟨.str (jIt a k),H,I.tok _,⟨_,rfl⟩,q⟩
   ·have e1:decide (k < -(2 ^ 63:Int))=false:=dF (by omega)
    have e2:decide (k ≥ 2 ^ 63)=false:=dF (by omega);rw[e1,e2];rfl
   ·have e:(a.length:Int) * k=((a.length * k.toNat:Nat):Int):=by
     rw[Int.natCast_mul,Int.toNat_of_nonneg (by omega)]
    have hz:sizeLine=16777216:=QW;have:=Int.le_ediv_of_mul_le (a:=(a.length:Int)) (b:=2 ^ 63 - 1) (c:=k) (by omega) (by rw[e];omega)
    omega
   ·unfold Builtin.Str.tooLong
    exact dF (by omega)
  |_=>exact QZ h
 |ref a =>
  cases y with
  |int k=>exact jTB pins s σ H _ _ v u Q I rx ry h
  |_=>exact QZ h
 |_=>exact QZ h
end
end L2.L3
namespace L2
open PySem PySem.Spec PyProof.Rows
section
variable{κ:Type}[DecidableEq κ]
noncomputable def jKd(kvs:List (κ×V))(k:κ):Option V:=(kvs.find? fun kv=>decide (kv.1=k)).map (·.2)
noncomputable def jQO(kvs:List (κ×V))(k:κ)(v:V):List (κ×V) :=
 if(kvs.any fun kv=>decide (kv.1=k))=true then kvs.map (fun kv=>if kv.1=k then(kv.1,v) else kv) else kvs++[(k,v)]
theorem jFq{p:κ×V}{r:List (κ×V)}{k:κ}(e:p.1=k):jKd (p::r) k=some p.2:=by simp[jKd,wK,e]
theorem jFr{p:κ×V}{r:List (κ×V)}{k:κ}(e:¬ p.1=k):jKd (p::r) k=jKd r k:=by simp[jKd,wK,e]
theorem jIf(k:κ):∀kvs:List (κ×V),(kvs.any fun kv=>decide (kv.1=k))=(jKd kvs k).isSome
 |[]=>rfl
 |p::r=>by
  rw[WC];by_cases e:p.1=k
  ·simp only[jFq e,dT e,QBp,Option.isSome_some]
  ·rw[jFr e,dF e,QAb];exact jIf k r
theorem jH8(kvs:List (κ×V))(k:κ)(v:V):(jQO kvs k v).length<=kvs.length+1:=by
 unfold jQO;split
 ·rw[QG];omega
 ·rw[QM,QL,Qi];omega
theorem jPg.isSome_eq{o:Option V}{u:Option Value}(r:jPg o u):o.isSome=u.isSome:=by
 cases o with
 |none=>cases u with
  |none=>rfl
  |some _=>exact(show False from r).elim
 |some _=>cases u with
  |none=>exact(show False from r).elim
  |some _=>rfl
theorem KV.val{kvs:List (κ×V)}{vs:List (κ×Value)}(r:KV kvs vs)(k:κ):jPg (jKd kvs k) (valueAt vs k):=by
 unfold KV at r
 induction r with
 |nil=>exact True.intro
 |@cons p q ps qs h t ih =>
  obtain⟨h1,h2⟩:=h;by_cases e:p.1=k
  ·have e':q.1=k:=h1.symm.trans e
   have b:valueAt (q::qs) k=some q.2:=by simp[valueAt,wK,e']
   rw[jFq e,b];exact h2
  ·have e':¬ q.1=k:=fun z=>e (h1.trans z)
   have b:valueAt (q::qs) k=valueAt qs k:=by simp[valueAt,wK,e']
   rw[jFr e,b];exact ih
theorem KV.any{kvs:List (κ×V)}{vs:List (κ×Value)}(r:KV kvs vs)(k:κ):(kvs.any fun kv=>decide (kv.1=k))=vs.any fun kv=>decide (kv.1=k):=by
 unfold KV at r
 induction r with
 |nil=>rfl
 |cons h t ih=>rw[WC,WC,ih,h.1]
theorem KV.repl{kvs:List (κ×V)}{vs:List (κ×Value)}(r:KV kvs vs)(k:κ){y:V}{u:Value}(ry:jAm y u) :
  KV (kvs.map fun kv=>if kv.1=k then(kv.1,y) else kv) (vs.map fun kv=>if kv.1=k then(kv.1,u) else kv):=by
 unfold KV at r ⊢
 induction r with
 |nil=>exact .nil
 |@cons p q ps qs h t ih =>
  rw[QR,QR];refine .cons ?_ ih;obtain⟨h1,h2⟩:=h;by_cases e:p.1=k
  ·rw[if_pos e,if_pos (h1.symm.trans e)];exact⟨h1,ry⟩
  ·rw[if_neg e,if_neg (fun z=>e (h1.trans z))];exact⟨h1,h2⟩
theorem KV.put{kvs:List (κ×V)}{vs:List (κ×Value)}(r:KV kvs vs)(k:κ){y:V}{u:Value}(ry:jAm y u):KV (jQO kvs k y) (stored vs k u):=by
 unfold jQO stored;rw[r.any k];by_cases e:(vs.any fun kv=>decide (kv.1=k))=true
 ·rw[if_pos e,if_pos e];exact r.repl k ry
 ·rw[if_neg e,if_neg e];exact Paired.snoc r ⟨rfl,ry⟩
theorem KV.length{kvs:List (κ×V)}{vs:List (κ×Value)}(r:KV kvs vs):kvs.length=vs.length:=qS r
end
theorem jG9{P:Program}{w:World}{k:Key}{u:Value}(r:jAm (kV k) u):(jAh P w).is k u=true:=by
 cases k with
 |inl i=>obtain⟨t,e⟩:=(show ∃t,u=Value.int i t from r);subst e;exact jH6 P w i t
 |inr x=>obtain⟨t,e⟩:=(show ∃t,u=Value.str x t from r);subst e;exact jH5 P w x t
theorem jHA{P:Program}{w:World}:∀{ks:List Key}{us:List Value},jAQ (ks.map kV) us->ItemsAre (jAh P w) ks us
 |[],_,r=>by rw[w8]at r;cases r;exact .nil
 |k::ks,_,r=>by
  rw[QR]at r;cases r with
  |cons h t=>exact .cons (jG9 h) (jHA t)
end L2
namespace L2.L3
open PySem PySem.Spec PyProof.Rows
noncomputable abbrev KE:=List Key×Addr×V
noncomputable def jHi(kvs:List KE)(k:List Key):Option V:=(kvs.find? fun p=>decide (p.1=k)).map (·.2.2)
noncomputable def jLH(kvs:List KE)(k:List Key)(b:Addr)(v:V):List KE :=
 if(jHi kvs k).isSome=true then kvs.map (fun p=>if p.1=k then(p.1,p.2.1,v) else p) else kvs++[(k,b,v)]
noncomputable abbrev KD:List KE->List (List Key×Addr×Value)->Prop:=Paired fun(p:List Key×Addr×V) (q:List Key×Addr×Value)=>p.1=q.1/\p.2.1=q.2.1/\jAm p.2.2 q.2.2
theorem jIg{p:KE}{r:List KE}{k:List Key}(e:p.1=k):jHi (p::r) k=some p.2.2:=by simp[jHi,wK,e]
theorem jIh{p:KE}{r:List KE}{k:List Key}(e:¬ p.1=k):jHi (p::r) k=jHi r k:=by simp[jHi,wK,e]
theorem KD.val{kvs:List KE}{xs:List (List Key×Addr×Value)}(r:KD kvs xs)(k:List Key):jPg (jHi kvs k) ((atKey xs k).map (·.2)):=by
 induction r with
 |nil=>exact True.intro
 |@cons p q ps qs h t ih =>
  obtain⟨h1,_,h2⟩:=h;by_cases e:p.1=k
  ·have e':q.1=k:=h1.symm.trans e
   have b:atKey (q::qs) k=some q.2:=by simp[atKey,wK,e']
   rw[jIg e,b];exact h2
  ·have e':¬ q.1=k:=fun z=>e (h1.trans z)
   have b:atKey (q::qs) k=atKey qs k:=by simp[atKey,wK,e']
   rw[jIh e,b];exact ih
theorem KD.put{kvs:List KE}{xs:List (List Key×Addr×Value)}(r:KD kvs xs)(k:List Key)(b:Addr){y:V}{u:Value}(ry:jAm y u):KD (jLH kvs k b y) (storedH xs k b u):=by
 have e:(jHi kvs k).isSome=(atKey xs k).isSome:=by rw[(r.val k).isSome_eq,QAU]
 unfold jLH storedH;rw[e];by_cases q:(atKey xs k).isSome=true
 ·rw[if_pos q,if_pos q]
  clear e q
  induction r with
  |nil=>exact .nil
  |@cons p q ps qs h t ih =>
   rw[QR,QR];refine .cons ?_ ih;obtain⟨h1,h2,h3⟩:=h;unfold putAt;by_cases e:p.1=k
   ·rw[if_pos e,if_pos (h1.symm.trans e)];exact⟨h1,h2,ry⟩
   ·rw[if_neg e,if_neg (fun z=>e (h1.trans z))];exact⟨h1,h2,h3⟩
 ·rw[if_neg q,if_neg q];exact Paired.snoc r ⟨rfl,rfl,ry⟩
theorem jJD(kvs:List KE)(k:List Key)(b:Addr)(v:V):(jLH kvs k b v).length<=kvs.length+1:=by
 unfold jLH;split
 ·rw[QG];omega
 ·rw[QM,QL,Qi];omega
def jD3(K:QD)(H:Hp)(kvs:List KE):Prop:=∀p∈kvs,SqT K H p.2.1 (p.1.map kV)
theorem Inv.big{X:Cx}{pins:LAO}{σ:St}{H:Hp}{s:Shared}(I:Inv X pins σ H s):sysModules<s.heap.objs.size:=by
 have h:mainGlobals<s.heap.objs.size:=(I.mod.glob.keeps I.bk).lt;exact Nat.lt_trans (by decide) h
section
variable{X:Cx}{pins:LAO}{σ:St}{H:Hp}{s:Shared}{a b:Addr}
theorem jRP{k:List Key}(I:Inv X pins σ H s)(h:SqT X.K H b (k.map kV)):(tupleKind (jAh X.prog X.w)).is s.heap k b:=by
 obtain⟨its,r,⟨o,h1,h2,n,h3⟩,_⟩:=I.tuple h;exact⟨o,its.toArray,n,h1,h2,h3,by simpa using jHA r⟩
theorem jHH{ep:Nat}{kvs:List KE}(I:Inv X pins σ H s)(e:H a=some (.dT ep kvs))(hk:jD3 X.K H kvs):kvs.length<=sizeLine/\(a==sysModules)=false/\∃xs,KD kvs xs/\s.heap.DictOfH (tupleKind (jAh X.prog X.w)) a xs:=by
 obtain⟨z,y,xs,r,o,es,h1,h2,h3,h4,h5⟩:=(show jAk X.prog X.w H s.heap a (.dT ep kvs) from I.hok a _ e)
 refine⟨z,y,xs,r,o,es,ep,h1,h2,h3,h4,?_,h5⟩;clear h4 h5 z e
 induction r with
 |nil=>intro x hx;exact nomatch hx
 |@cons p q ps qs hq t ih =>
  intro x hx;rcases QK.mp hx with e|hx
  ·subst e
   rw[<- hq.1,<- hq.2.1];exact jRP I (hk p QF)
  ·exact ih (fun p hp=>hk p (QE _ hp)) x hx
theorem jMh{kvs:List (Key×V)}(I:Inv X pins σ H s)(e:H a=some (.dK kvs)):kvs.length<=sizeLine/\(a==sysModules)=false/\∃vs,KV kvs vs/\s.heap.DictOf (jAh X.prog X.w) a vs :=
 show jAk X.prog X.w H s.heap a (.dK kvs) from I.hok a _ e
end
theorem jRk{X:Cx}{pins:LAO}{σ:St}{H:Hp}{s:Shared}{a:Addr}{ep:Nat}(I:Inv X pins σ H s)(e:H a=some (.dT ep [])):(a==sysModules)=false/\s.heap.DictOf (jAh X.prog X.w) a []:=by
 obtain⟨z,y,xs,r,o,es,h1,h2,h3,h4,h5⟩:=(show jAk X.prog X.w H s.heap a (.dT ep []) from I.hok a _ e)
 cases r;have he:es=#[]:=by
  apply Wq.mp;simpa using h4
 subst he;exact⟨y,o,#[],ep,h1,h2,h3,fun e he=>by simp at he,.nil,Q7⟩
noncomputable def kD:Key->PyData
 | .inl i=>.int i
 | .inr x=>.str x
noncomputable def tD(k:List Key):PyData:=.tuple (k.map kD)
theorem jMB{a b:Key}(e:kD a=kD b):a=b:=by
 cases a with
 |inl i=>cases b with
  |inl j=>injection e with e;rw[e]
  |inr y=>exact nomatch (show PyData.int i=PyData.str y from e)
 |inr x=>cases b with
  |inl j=>exact nomatch (show PyData.str x=PyData.int j from e)
  |inr y=>injection e with e;rw[e]
theorem jMA:∀{a b:List Key},a.map kD=b.map kD->a=b
 |[],[],_=>rfl
 |[],_::_,e=>by simp at e
 |_::_,[],e=>by simp at e
 |x::xs,y::ys,e=>by
  rw[QR,QR]at e;injection e with e1 e2
  rw[jMB e1,jMA e2]
theorem jOm{a b:List Key}(e:tD a=tD b):a=b:=by
 injection e with e
 exact jMA e
def DKo(K:QD)(H:Hp)(b:Bool)(o:HO)(ks:List PyData)(vs:List V):Prop:=match b with
 |true=>∃ep,∃kvs:List KE,o=.dT ep kvs/\ks=kvs.map (fun p=>tD p.1)/\vs=kvs.map (·.2.2)/\jD3 K H kvs/\(kvs.map (·.1)).Nodup
 |false=>(∃kvs:List (Key×V),kvs≠[]/\o=.dK kvs/\ks=kvs.map (fun p=>kD p.1)/\vs=kvs.map (·.2)/\(kvs.map (·.1)).Nodup)∨∃ep,o=.dT ep []/\ks=[]/\vs=[]
theorem DKo.len{K:QD}{H:Hp}{b:Bool}{o:HO}{ks:List PyData}{vs:List V}(h:DKo K H b o ks vs):ks.length=vs.length:=by
 cases b with
 |true=>obtain⟨ep,kvs,_,rfl,rfl,_⟩:=h;simp
 |false=>rcases h with⟨kvs,_,_,rfl,rfl,_⟩| ⟨_,_,rfl,rfl⟩<;>simp
def jOd(K:QD)(H:Hp)(a:Addr)(y:V)(r:Option V):Prop:=match y with
 | .str z=>(∃kvs,H a=some (.dK kvs)/\r=jKd kvs (.inr z))∨∃ep,H a=some (.dT ep [])/\r=none
 | .ref b=>∃ep kvs k,H a=some (.dT ep kvs)/\jD3 K H kvs/\SqT K H b (k.map kV)/\r=jHi kvs k
 |_=>False
def jW2(K:QD)(H:Hp)(a:Addr)(y v:V)(Q:Hp->Prop):Prop:=match y with
 | .str z=>(∃kvs,H a=some (.dK kvs)/\kvs.length<sizeLine/\Q (upd H a (.dK (jQO kvs (.inr z) v))))∨∃ep,H a=some (.dT ep [])/\Q (upd H a (.dK [(.inr z,v)]))
 | .ref b=>∃ep kvs k,H a=some (.dT ep kvs)/\jD3 K H kvs/\SqT K H b (k.map kV)/\kvs.length<sizeLine/\∀ep',Q (upd H a (.dT ep' (jLH kvs k b v)))
 |_=>False
theorem jGp{v:V}{o:Option Value}(r:jPg (some v) o):∃w,o=some w/\jAm v w:=by
 cases o with
 |none=>exact(show False from r).elim
 |some w=>exact⟨w,rfl,r⟩
section
variable{X:Cx}
theorem jRS(hu:X.A.units+66<cLine):IxR X (fun x y H Q=>∃a v,x=.ref a/\jOd X.K H a y (some v)/\Q v H):=by
 intro value slice pins s σ H x y v u Q I rx ry h hs;obtain⟨a,r,rfl,g,q⟩:=h;cases rx;cases y with
 |str z =>
  rcases g with⟨kvs,e,l⟩| ⟨ep,e,l⟩
  rotate_left
  ·cases l
  obtain⟨_,hd,vs,rel,dd⟩:=jMh I e;obtain⟨w',hw,rw'⟩:=jGp (v:=r) (o:=valueAt vs (.inr z)) (by rw[l];exact rel.val _);exact wx (x:=w') dd.typeIs QAN.lookup
   (wpAny_getItem_of (Q:=fun r s'=>r=w'/\EP X pins σ Q r s') (jG9 (k:=.inr z) ry) dd.mapOf hw ⟨rfl,r,H,I.tok _,rw',q⟩) hs
 |ref b =>
  obtain⟨ep,kvs,k,e,hk,eb,l⟩:=g;cases ry;obtain⟨_,hd,xs,rel,dd⟩:=jHH I e hk;obtain⟨w',hw,rw'⟩:=jGp (v:=r) (o:=(atKey xs k).map (·.2)) (by rw[l];exact rel.val _);obtain⟨p,hp,hp2⟩:=Option.map_eq_some_iff.mp hw;refine wx (x:=w') dd.typeIs QAN.lookup
   (wpAny_getItem_heap (Q:=fun r s'=>r=w'/\EP X pins σ Q r s') (wy (by omega)) (jRP I eb) dd hp ?_) hs
  exact⟨hp2,r,H,I.tok _,by rw[hp2];exact rw',q⟩
 |_=>exact QZ g
theorem jRZ(hu:X.A.units+66<cLine){pins:LAO}{s:Shared}{σ:St}{H:Hp}{y:V}{a:Addr}{u:Value}{o:Option V}{Q:VK}(I:Inv X pins σ H s)(ry:jAm y u)(g:jOd X.K H a y o)(q:Q (.bl o.isSome) H) :
  wpAny (model X.prog X.w) X.A (compareOp .In u (.ref a)) (EP X pins σ Q) X.xe s:=by
 cases y with
 |str z =>
  rcases g with⟨kvs,e,l⟩| ⟨ep,e,l⟩
  rotate_left
  ·subst l
   obtain⟨hd,dd⟩:=jRk I e;exact wpAny_in_of (jG9 (k:=.inr z) ry) hd dd.mapOf ⟨.bl false,H,I.tok _,rfl,q⟩
  obtain⟨_,hd,vs,rel,dd⟩:=jMh I e;refine wpAny_in_of (jG9 (k:=.inr z) ry) hd dd.mapOf ⟨.bl o.isSome,H,I.tok _,?_,q⟩;rw[<- (rel.val (.inr z)).isSome_eq,<- l]
  rfl
 |ref b =>
  obtain⟨ep,kvs,k,e,hk,eb,l⟩:=g;cases ry;obtain⟨_,hd,xs,rel,dd⟩:=jHH I e hk;refine wpAny_in_heap (wy (by omega)) (jRP I eb) hd dd ⟨.bl o.isSome,H,I.tok _,?_,q⟩;have q:=(rel.val k).isSome_eq;rw[QAU]at q;rw[<- q,<- l]
  rfl
 |_=>exact QZ g
theorem jKA(hu:X.A.units+66<cLine){pins:LAO}{s:Shared}{σ:St}{H:Hp}{y:V}{a:Addr}{u:Value}{o:Option V}{Q:VK}(I:Inv X pins σ H s)(ry:jAm y u)(g:jOd X.K H a y o)(q:Q (.bl (!o.isSome)) H) :
  wpAny (model X.prog X.w) X.A (compareOp .NotIn u (.ref a)) (EP X pins σ Q) X.xe s:=by
 cases y with
 |str z =>
  rcases g with⟨kvs,e,l⟩| ⟨ep,e,l⟩
  rotate_left
  ·subst l
   obtain⟨hd,dd⟩:=jRk I e;exact wpAny_notIn_of (jG9 (k:=.inr z) ry) hd dd.mapOf ⟨.bl true,H,I.tok _,rfl,q⟩
  obtain⟨_,hd,vs,rel,dd⟩:=jMh I e;refine wpAny_notIn_of (jG9 (k:=.inr z) ry) hd dd.mapOf ⟨.bl (!o.isSome),H,I.tok _,?_,q⟩;rw[<- (rel.val (.inr z)).isSome_eq,<- l]
  rfl
 |ref b =>
  obtain⟨ep,kvs,k,e,hk,eb,l⟩:=g;cases ry;obtain⟨_,hd,xs,rel,dd⟩:=jHH I e hk;refine wpAny_notIn_heap (wy (by omega)) (jRP I eb) hd dd ⟨.bl (!o.isSome),H,I.tok _,?_,q⟩;have q:=(rel.val k).isSome_eq;rw[QAU]at q;rw[<- q,<- l]
  rfl
 |_=>exact QZ g
theorem jIK{pins:LAO}{s:Shared}{σ:St}{H:Hp}{a:Addr}{h':Heap}{t':Nat}{ob:HO}(I:Inv X pins σ H s)(mu:Mut (H a))(hs:qP a s.heap h')(he:∃q,h'.get? a=some q)(new:jAk X.prog X.w (upd H a ob) h' a ob) :
  Inv X pins σ (upd H a ob) { s with heap:=h',toks:=t' } :=
 I.write (x:=a) (e:=a) mu (.inl rfl) (fun b q hb z=>(hs.2 b hb).trans z) he new
theorem jGJ{pins:LAO}{s:Shared}{σ:St}{H:Hp}{a:Addr}{h':Heap}{t':Nat}{kvs:List KE}{xs:List (List Key×Addr×Value)}(I:Inv X pins σ H s)(mu:Mut (H a))(hd:(a==sysModules)=false)(hz:kvs.length<=sizeLine)(rel:KD kvs xs)
  (dd:h'.DictOfH (tupleKind (jAh X.prog X.w)) a xs) (hs:qP a s.heap h'):∃ep,Inv X pins σ (upd H a (.dT ep kvs)) { s with heap:=h',toks:=t' }:=by
 obtain⟨q,es,ep,hq,h2,h3,h4,_,h5⟩:=dd;exact⟨ep,jIK I mu hs ⟨q,hq⟩ ⟨hz,hd,xs,rel,q,es,hq,h2,h3,h4,h5⟩⟩
def setD(K:QD)(o y v:V)(H:Hp)(Q:Hp->Prop):Prop:=match o with
 | .ref a=>jW2 K H a y v Q
 |_=>False
theorem jIq(hu:X.A.units+66<cLine):jVq X (setD X.K):=by
 intro pins s σ H o y v ov iv u Q I ro ri rv h;cases o with
 |ref a =>
  cases ro;cases y with
  |str z =>
   rcases h with⟨kvs,e,l,q⟩| ⟨ep,e,q⟩
   rotate_left
   ·obtain⟨hd,dd⟩:=jRk I e
    refine QBH (hsz:=qG _) (jG9 (k:=.inr z) ri) dd fun h' dd' hs=>⟨_,?_,q⟩
    have he:∃q,h'.get? a=some q:=let⟨q,_,_,hq,_⟩:=dd';⟨q,hq⟩
    exact jIK I (by rw[e];exact True.intro) hs he ⟨by simp;decide,hd,_,.cons ⟨rfl,rv⟩ .nil,dd'⟩
   obtain⟨hz,hd,vs,rel,dd⟩:=jMh I e;have hl:(jQO kvs (.inr z) v).length<=sizeLine:=by have:=jH8 kvs (.inr z) v;omega
   refine QBH (hsz:=by rw[<- rel.length];exact hz) (jG9 (k:=.inr z) ri) dd fun h' dd' hs=>⟨_,?_,q⟩
   have he:∃q,h'.get? a=some q:=let⟨q,_,_,hq,_⟩:=dd';⟨q,hq⟩
   exact jIK I (by rw[e];exact True.intro) hs he ⟨hl,hd,_,rel.put _ rv,dd'⟩
  |ref b =>
   obtain⟨ep,kvs,k,e,hk,eb,l,q⟩:=h;cases ri;obtain⟨hz,hd,xs,rel,dd⟩:=jHH I e hk;have hl:(jLH kvs k b v).length<=sizeLine:=by have:=jJD kvs k b v;omega
   refine wpAny_setItem_heap (hsz:=by rw[<- qS rel];exact hz) (wy (by omega)) (jRP I eb) dd fun h' dd' hs=>?_;obtain⟨ep',I'⟩:=jGJ (t':=_) I (by rw[e];exact True.intro) hd hl (rel.put k b rv) dd' hs;exact⟨_,I',q ep'⟩
  |_=>exact QZ h
 |_=>exact QZ h
theorem jUH{P:Program}{w:World}{H:Hp}(h:Heap)(hb:sysModules<h.objs.size):jAk P w H (h.push { cls:=.type "dict",data:=.dict #[] }) h.objs.size (.dT 0 []) :=
 ⟨qG _,beq_eq_false_iff_ne.mpr (Q2 (Qc hb)),[],.nil,_,#[],QN _ rfl,⟨rfl,rfl,rfl⟩,rfl,rfl,Q7⟩
theorem jQf{pos:Pos}:PE X (.Dict [] [] pos) (fun _ H Q=>∀p,H p=none->Q (.ref p) (upd H p (.dT 0 []))):=fun pins s σ H Q I h =>
 wpAny_Dict_empty ⟨.ref s.heap.objs.size,_,I.laid (a:=s.heap.objs.size) (o:=.dT 0 []) (t':=s.toks) (fun _ _ q=>QH _ q) (QU _) (jUH s.heap (Inv.big I)),rfl,h _ (I.hok.fresh (QU _))⟩
theorem jQe(hu:X.A.units+66<cLine){pos:Pos}{k v:Expr}{tk tv:TE}(hk:PE X k tk)(hv:PE X v tv) :
  PE X (.Dict [some k] [v] pos) (fun σ H Q=>∀p,H p=none->tk σ (upd H p (.dT 0 [])) fun y H1=>tv σ H1 fun v H2=>H2 p=some (.dT 0 [])/\∃b ks,y=.ref b/\SqT X.K H2 b (ks.map kV)/\∀ep,Q (.ref p) (upd H2 p (.dT ep [(ks,b,v)]))):=by
 intro pins s σ H Q I q;have hn:=I.hok.fresh (QU s.heap.objs.size);have I1:=I.laid (a:=s.heap.objs.size) (o:=.dT 0 []) (h':=s.heap.push { cls:=.type "dict",data:=.dict #[] }) (t':=s.toks) (fun _ _ q=>QH _ q) (QU _) (jUH s.heap (Inv.big I));refine wpAny_Dict_any rfl rfl (by simp) (by simp) (pairTrees_cons_walk (thn (hk pins _ σ _ _ I1 (q _ hn)) fun u s2 ⟨y,H1,I2,r1,q1⟩=>thn (hv pins s2 σ H1 _ I2 q1) fun w2 s3 ⟨z,H2,I3,r2,e,b,ks,ey,eb,q2⟩=>pairTrees_nil_walk ?_));subst ey;cases r1;obtain⟨hz,hd,xs,rel,dd⟩:=jHH I3 e (fun p hp=>nomatch hp);cases rel;show wpAny _ _ (forIn [(Value.ref b,w2)] PUnit.unit _) _ _ _;rw[QAu];refine QA (QA (wpAny_dictSet_heap (hsz:=qG _) (show X.A.units<cLine by omega) (jRP I3 eb) dd fun h' dd' hs=>QI ?_));show wpAny _ _ (forIn ([]:List (Value×Value)) _ _) _ _ _;rw[QBB];obtain⟨ep',I'⟩:=jGJ (t':=_) (kvs:=[(ks,b,z)]) I3 (by rw[e];exact True.intro) hd (by simp;decide) (.cons ⟨rfl,rfl,r2⟩ .nil) dd' hs;exact QI ⟨.ref _,_,I',rfl,q2 ep'⟩
end
mutual
inductive Rep(K:QD)(H:Hp):V->PyData->Prop where
 |non:Rep K H .non .none
 |bl (b:Bool):Rep K H (.bl b) (.bool b)
 |int (i:Int):Rep K H (.int i) (.int i)
 |str (x:Str):Rep K H (.str x) (.str x)
 |lst {a:Addr}{xs:List V}{ds:List PyData}:SqL K H a xs->Reps K H xs ds->Rep K H (.ref a) (.list ds)
 |tup {a:Addr}{xs:List V}{ds:List PyData}:SqT K H a xs->Reps K H xs ds->Rep K H (.ref a) (.tuple ds)
 |dct {b:Bool}{a:Addr}{o:HO}{ks:List PyData}{xs:List V}{ds:List PyData}:H a=some o->DKo K H b o ks xs->Reps K H xs ds->Rep K H (.ref a) (.dict (ks.zip ds))
inductive Reps(K:QD)(H:Hp):List V->List PyData->Prop where
 |nil:Reps K H [] []
 |cons {x:V}{d:PyData}{xs:List V}{ds:List PyData}:Rep K H x d->Reps K H xs ds->Reps K H (x::xs) (d::ds)
end
theorem Rep.both{K:QD}{H:Hp}{P:V->PyData->Prop}{R:List V->List PyData->Prop}(non:P .non .none)(bl:∀b,P (.bl b) (.bool b))(int:∀i,P (.int i) (.int i))(str:∀x,P (.str x) (.str x))
    (lst:∀{a:Addr}{xs:List V}{ds:List PyData},SqL K H a xs->Reps K H xs ds->R xs ds->P (.ref a) (.list ds))
    (tup:∀{a:Addr}{xs:List V}{ds:List PyData},SqT K H a xs->Reps K H xs ds->R xs ds->P (.ref a) (.tuple ds))
    (dct:∀{b:Bool}{a:Addr}{o:HO}{ks:List PyData}{xs:List V}{ds:List PyData},H a=some o->DKo K H b o ks xs->Reps K H xs ds->R xs ds->P (.ref a) (.dict (ks.zip ds)))
    (nil:R [] []) (cons:∀{x:V}{d:PyData}{xs:List V}{ds:List PyData},Rep K H x d->Reps K H xs ds->P x d->R xs ds->R (x::xs) (d::ds)) :
    (∀{x:V}{d:PyData},Rep K H x d->P x d)/\∀{xs:List V}{ds:List PyData},Reps K H xs ds->R xs ds :=
  ⟨fun h=>Rep.rec (motive_1:=fun x d _=>P x d) (motive_2:=fun x d _=>R x d) non bl int str @lst @tup @dct nil @cons h,
   fun h=>Reps.rec (motive_1:=fun x d _=>P x d) (motive_2:=fun x d _=>R x d) non bl int str @lst @tup @dct nil @cons h⟩
theorem Reps.ind{K:QD}{H:Hp}{R:List V->List PyData->Prop}(nil:R [] [])(cons:∀{x:V}{d:PyData}{xs:List V}{ds:List PyData},Rep K H x d->R xs ds->R (x::xs) (d::ds)){xs:List V}{ds:List PyData}(h:Reps K H xs ds):R xs ds :=
 (Rep.both (P:=fun _ _=>True) trivial (fun _=>trivial) (fun _=>trivial) (fun _=>trivial) (fun _ _ _=>trivial) (fun _ _ _=>trivial) (fun _ _ _ _=>trivial) nil fun h _ _ r=>cons h r).2 h
theorem Reps.length{K:QD}{H:Hp}{xs:List V}{ds:List PyData}(h:Reps K H xs ds):xs.length=ds.length:=Reps.ind (R:=fun xs ds=>xs.length=ds.length) rfl (fun _ e=>congrArg Nat.succ e) h
section
variable{X:Cx}{pins:LAO}{σ:St}{H:Hp}{s:Shared}
theorem jJ4{k:List Key}:∀{us:List Value},jAQ (k.map kV) us->∃as,ReadsAll s.heap us (k.map kD) as:=by
 induction k with
 |nil=>intro us h;cases h;exact⟨_,.nil⟩
 |cons x k ih =>
  intro us h;cases h with
  |cons e r =>
   obtain⟨as,q⟩:=ih r;cases x with
   |inl i=>obtain⟨t,rfl⟩:=e;exact⟨_,.cons (.int i t) q⟩
   |inr x=>obtain⟨t,rfl⟩:=e;exact⟨_,.cons (.str x t) q⟩
theorem jNR(I:Inv X pins σ H s){kvs:List KE}{xs:List (List Key×Addr×Value)}(r:KD kvs xs)(hk:jD3 X.K H kvs):∃as,ReadsAll s.heap (xs.map fun x=>.ref x.2.1) (kvs.map fun p=>tD p.1) as:=by
 induction r with
 |nil=>exact⟨_,.nil⟩
 |@cons p x _ _ h t ih =>
  obtain⟨as,q⟩:=ih fun p hp=>hk p (QE _ hp);obtain⟨its,rv,⟨o,e,c,n,d⟩,_⟩:=I.tuple (hk p QF);obtain⟨bs,rb⟩:=jJ4 (s:=s) rv;rw[h.2.1]at e;exact⟨_,.cons (.tuple e c d (by simpa using rb)) q⟩
theorem jHs{P:Program}{w:World}{kvs:List (Key×V)}{vs:List (Key×Value)}{es:List DictEntry}(hk:KV kvs vs)(hp:Pairs (jAh P w) es vs):(∃as,ReadsAll s.heap (es.map (·.key)) (kvs.map fun p=>kD p.1) as)/\es.map (·.val)=vs.map (·.2):=by
 unfold KV at hk
 induction hk generalizing es with
 |nil=>cases hp;exact⟨⟨_,.nil⟩,rfl⟩
 |cons h t ih =>
  cases hp with
  |cons a b c =>
   obtain⟨⟨as,q⟩,q2⟩:=ih c;refine⟨?_,by rw[QR,QR,q2,b]⟩;rw[QR,QR];rw[<- h.1]at a;rcases jAR a with⟨i,t,e1,e2⟩| ⟨x,t,e1,e2⟩
   ·rw[e1,e2];exact⟨_,.cons (.int i t) q⟩
   ·rw[e1,e2];exact⟨_,.cons (.str x t) q⟩
theorem jPv{kvs:List KE}{xs:List (List Key×Addr×Value)}(r:KD kvs xs):jAQ (kvs.map (·.2.2)) (xs.map (·.2.2)):=by
 induction r with
 |nil=>exact .nil
 |cons h _ ih=>exact .cons h.2.2 ih
theorem jPu{kvs:List (Key×V)}{vs:List (Key×Value)}(r:KV kvs vs):jAQ (kvs.map (·.2)) (vs.map (·.2)):=by
 induction r with
 |nil=>exact .nil
 |cons h _ ih=>exact .cons h.2 ih
theorem jMd(I:Inv X pins σ H s){b:Bool}{a:Addr}{o:HO}{ks:List PyData}{xs:List V}(h:H a=some o)(q:DKo X.K H b o ks xs):∃ob es ep us,s.heap.get? a=some ob/\ob.cls=.type "dict"/\ob.dict=none/\ob.data=.dict es ep/\(a==sysModules)=false /\
  (∃as,ReadsAll s.heap (es.toList.map (·.key)) ks as)/\jAQ xs us/\es.toList.map (·.val)=us:=by
 cases b with
 |true =>
  obtain⟨ep0,kvs,rfl,rfl,rfl,hk,_⟩:=q;obtain⟨_,hd,ys,rel,ob,es,ep,h1,h2,h3,h4,_⟩:=jHH I h hk;refine⟨ob,es,ep,_,h1,h2.1,h2.2.1,h3,hd,?_,jPv rel,?_⟩
  ·rw[h4,Qq]
   exact jNR I rel hk
  ·rw[h4,Qq]
   rfl
 |false =>
  rcases q with⟨kvs,_,rfl,rfl,rfl,_⟩| ⟨ep0,rfl,rfl,rfl⟩
  rotate_left
  ·obtain⟨_,hd,ys,rel,ob,es,ep,h1,h2,h3,h4,_⟩:=jHH I h fun _ z=>nomatch z
   cases rel;exact⟨ob,es,ep,[],h1,h2.1,h2.2.1,h3,hd,⟨_,by rw[h4];exact .nil⟩,.nil,by rw[h4];rfl⟩
  obtain⟨_,hd,vs,rel,ob,es,ep,h1,h2,h3,_,h4,_⟩:=jMh I h;obtain⟨q1,q2⟩:=jHs (s:=s) rel h4;exact⟨ob,es,ep,_,h1,h2.1,h2.2.1,h3,hd,q1,jPu rel,q2⟩
theorem Rep.reads2(I:Inv X pins σ H s):(∀{x:V}{d:PyData},Rep X.K H x d->∀u,jAm x u->∃as,Reads s.heap u d as)/\∀{xs:List V}{ds:List PyData},Reps X.K H xs ds->∀us,jAQ xs us->∃as,ReadsAll s.heap us ds as:=by
 refine Rep.both (P:=fun x d=>∀u,jAm x u->∃as,Reads s.heap u d as) (R:=fun xs ds=>∀us,jAQ xs us->∃as,ReadsAll s.heap us ds as) (fun u r=>?_) (fun b u r=>?_) (fun i u r=>?_) (fun x u r=>?_) (fun h q ih u r=>?_) (fun h q ih u r=>?_) (fun {b a o ks xs ds} h q r ih u rr=>?_) (fun us r=>?_) fun _ _ i1 i2 us r=>?_
 ·cases r;exact⟨_,.none⟩
 ·cases r;exact⟨_,.bool b⟩
 ·obtain⟨t,rfl⟩:=r;exact⟨_,.int i t⟩
 ·obtain⟨t,rfl⟩:=r;exact⟨_,.str x t⟩
 ·cases r
  obtain⟨its,rv,⟨o,n,e,c,_,d⟩,_⟩:=I.list h;obtain⟨as,ra⟩:=ih _ rv;exact⟨_,.list e c d (by simpa using ra)⟩
 ·cases r
  obtain⟨its,rv,⟨o,e,c,n,d⟩,_⟩:=I.tuple h;obtain⟨as,ra⟩:=ih _ rv;exact⟨_,.tuple e c d (by simpa using ra)⟩
 ·cases rr
  obtain⟨ob,es,ep,us,h1,h2,h3,h4,h5,⟨as,h6⟩,h7,h8⟩:=jMd I h q;obtain⟨bs,rb⟩:=ih _ h7;have hl:ks.length=ds.length:=by rw[q.len,Reps.length r]
  have e1:(ks.zip ds).map (fun x=>x.1)=ks:=WM (Wi hl);have e2:(ks.zip ds).map (fun x=>x.2)=ds:=Wr (Wi hl.symm);exact⟨_,.dict h1 h2 h4 (by rw[e1];exact h6) (by rw[e2,h8];exact rb)⟩
 ·cases r;exact⟨_,.nil⟩
 ·cases r with
  |cons r rs =>
   obtain⟨as,ra⟩:=i1 _ r;obtain⟨bs,rb⟩:=i2 _ rs;exact⟨_,.cons ra rb⟩
theorem Rep.reads(I:Inv X pins σ H s){x:V}{d:PyData}{u:Value}(h:Rep X.K H x d)(r:jAm x u):∃as,Reads s.heap u d as:=(Rep.reads2 I).1 h u r
def okD(d:PyData):Prop:=d.canLay0=true/\d.depth<=64
noncomputable def rEq(K:QD)(neg:Bool):R2:=fun x y H Q=>match x,y with
 | .int i,.int j=>Q (.bl (if neg then !decide (i=j) else decide (i=j))) H
 | .str a,.str b=>Q (.bl (if neg then !decide (a=b) else decide (a=b))) H
 | .bl a,.bl b=>Q (.bl (if neg then !decide (a=b) else decide (a=b))) H
 |x,y=>∃dx dy,Rep K H x dx/\Rep K H y dy/\okD dx/\okD dy/\Q (.bl (if neg then !PyData.eqv dx dy else Q5 dx dy)) H
theorem op_eq(hu:X.A.units+64<cLine):OpR X (compareOp .Eq) (rEq X.K false):=by
 intro pins s σ H x y v u Q I rx ry h;have gen:(∃dx dy,Rep X.K H x dx/\Rep X.K H y dy/\okD dx/\okD dy/\Q (.bl (if false=true then !PyData.eqv dx dy else Q5 dx dy)) H)->wpAny (model X.prog X.w) X.A (compareOp .Eq v u) (EP X pins σ Q) X.xe s:=by
  rintro⟨dx,dy,h1,h2,⟨o1,o2⟩,⟨o3,o4⟩,q⟩;obtain⟨as,ra⟩:=h1.reads I rx;obtain⟨bs,rb⟩:=h2.reads I ry;exact SeqAt.compareEq_reads ra rb o1 o3 (by omega) ⟨.bl _,H,I,rfl,q⟩
 have sc:jVh x y=true->Q (.bl (decide (x=y))) H->wpAny (model X.prog X.w) X.A (compareOp .Eq v u) (EP X pins σ Q) X.xe s:=fun h1 h2=>_root_.L2.op_eq pins s σ H x y v u Q I rx ry ⟨h1,h2⟩;cases x with
 |int i =>
  cases y with
  |int j=>exact sc rfl (by simpa[rEq]using h)
  |_=>exact gen h
 |str a =>
  cases y with
  |str b=>exact sc rfl (by simpa[rEq]using h)
  |_=>exact gen h
 |bl a =>
  cases y with
  |bl b=>exact sc rfl (by simpa[rEq]using h)
  |_=>exact gen h
 |_=>exact gen h
theorem op_ne(hu:X.A.units+64<cLine):OpR X (compareOp .NotEq) (rEq X.K true):=by
 intro pins s σ H x y v u Q I rx ry h;have gen:(∃dx dy,Rep X.K H x dx/\Rep X.K H y dy/\okD dx/\okD dy/\Q (.bl (if true=true then !PyData.eqv dx dy else Q5 dx dy)) H)->wpAny (model X.prog X.w) X.A (compareOp .NotEq v u) (EP X pins σ Q) X.xe s:=by
  rintro⟨dx,dy,h1,h2,⟨o1,o2⟩,⟨o3,o4⟩,q⟩;obtain⟨as,ra⟩:=h1.reads I rx;obtain⟨bs,rb⟩:=h2.reads I ry;exact SeqAt.compareNe_reads ra rb o1 o3 (by omega) ⟨.bl _,H,I,rfl,q⟩
 have sc:jVh x y=true->Q (.bl (!decide (x=y))) H->wpAny (model X.prog X.w) X.A (compareOp .NotEq v u) (EP X pins σ Q) X.xe s:=fun h1 h2=>_root_.L2.op_ne pins s σ H x y v u Q I rx ry ⟨h1,h2⟩;cases x with
 |int i =>
  cases y with
  |int j=>exact sc rfl (by simpa[rEq]using h)
  |_=>exact gen h
 |str a =>
  cases y with
  |str b=>exact sc rfl (by simpa[rEq]using h)
  |_=>exact gen h
 |bl a =>
  cases y with
  |bl b=>exact sc rfl (by simpa[rEq]using h)
  |_=>exact gen h
 |_=>exact gen h
noncomputable def jR6(f:Int->Int->Bool):R2:=fun x y H Q=>match x,y with
 | .int i,.int j=>Q (.bl (f i j)) H
 |_,_=>False
theorem jI0{op:CmpOp}{f:Int->Int->Bool}(h0:OpR X (compareOp op) (rI0 fun i j=>.bl (f i j))):OpR X (compareOp op) (jR6 f):=by
 intro pins s σ H x y v u Q I rx ry h;cases x with
 |int i =>
  cases y with
  |int j=>exact h0 pins s σ H _ _ v u Q I rx ry ⟨i,j,rfl,rfl,h⟩
  |_=>exact QZ h
 |_=>exact QZ h
noncomputable def inStr(b a:Str):Bool:=match a.cps.toList with
 |[c]=>decide (c∈b.cps.toList)
 |_=>!(wl b a 0 b.length 1).isEmpty
theorem jJP(b a:Str):inStr b a=!(wl b a 0 b.length 1).isEmpty:=by
 unfold inStr;split
 ·rename_i c e
  have ea:a=⟨#[c]⟩:=by
   obtain⟨cps⟩:=a;have:cps=#[c]:=by
    apply Wq.mp;simpa using e
   rw[this]
  rw[ea];exact(StrLaws.found_one b c).symm
 ·rfl
noncomputable def jO2(K:QD)(neg:Bool):R2:=fun x y H Q=>match y with
 | .str b=>match x with
  | .str a=>Q (.bl (if neg then !inStr b a else inStr b a)) H
  |_=>False
 | .ref p=>rIn K neg x (.ref p) H Q∨(∃d ds,Rep K H x d/\(Rep K H (.ref p) (.list ds)∨Rep K H (.ref p) (.tuple ds))/\okD d/\okD (.list ds)/\Q (.bl (if neg then !(ds.any fun y=>Q5 y d) else ds.any fun y=>Q5 y d)) H)∨(∃o,jOd K H p x o/\Q (.bl (if neg then !o.isSome else o.isSome)) H)
 |_=>False
theorem jGv{ds:List PyData}(h:okD (.list ds)):wE ds=true/\w9 ds<=63:=by
 obtain⟨h1,h2⟩:=h;simp only[WH]at h1;simp only[QAI]at h2;exact⟨h1,by omega⟩
theorem jWN(hu:X.A.units+66<cLine):OpR X (compareOp .In) (jO2 X.K false):=by
 intro pins s σ H x y v u Q I rx ry h;cases y with
 |str b =>
  cases x with
  |str a =>
   refine jLW pins s σ H _ _ v u Q I rx ry ⟨a,b,rfl,rfl,?_⟩;rw[<- jJP];simpa[jO2]using h
  |_=>exact QZ h
 |ref p =>
  rcases h with h|⟨d,ds,hx,hp,o1,o2,q⟩| ⟨o,g,q⟩
  rotate_left 2
  ·cases ry
   exact jRZ hu I rx g q
  ·exact jLX pins s σ H _ _ v u Q I rx ry h
  ·obtain⟨as,ra⟩:=hx.reads I rx
   obtain⟨c1,c2⟩:=jGv o2;rcases hp with hp|hp
   ·obtain⟨bs,rb⟩:=hp.reads I ry
    exact SeqAt.in_list_reads rb ra c1 o1.1 (by omega) ⟨.bl _,H,I,rfl,q⟩
   ·obtain⟨bs,rb⟩:=hp.reads I ry
    exact SeqAt.in_tuple_reads rb ra c1 o1.1 (by omega) ⟨.bl _,H,I,rfl,q⟩
 |_=>exact QZ h
theorem jNe(hu:X.A.units+66<cLine):OpR X (compareOp .NotIn) (jO2 X.K true):=by
 intro pins s σ H x y v u Q I rx ry h;cases y with
 |str b =>
  cases x with
  |str a =>
   refine jGs pins s σ H _ _ v u Q I rx ry ⟨a,b,rfl,rfl,?_⟩;rw[<- jJP];simpa[jO2]using h
  |_=>exact QZ h
 |ref p =>
  rcases h with h|⟨d,ds,hx,hp,o1,o2,q⟩| ⟨o,g,q⟩
  rotate_left 2
  ·cases ry
   exact jKA hu I rx g q
  ·exact jGt pins s σ H _ _ v u Q I rx ry h
  ·obtain⟨as,ra⟩:=hx.reads I rx
   obtain⟨c1,c2⟩:=jGv o2;rcases hp with hp|hp
   ·obtain⟨bs,rb⟩:=hp.reads I ry
    exact SeqAt.notIn_list_reads rb ra c1 o1.1 (by omega) ⟨.bl _,H,I,rfl,q⟩
   ·obtain⟨bs,rb⟩:=hp.reads I ry
    exact SeqAt.notIn_tuple_reads rb ra c1 o1.1 (by omega) ⟨.bl _,H,I,rfl,q⟩
 |_=>exact QZ h
end
noncomputable def Its(z:Str):It:=⟨fun i _=>i<z.cps.size,fun i H x H'=>H'=H/\∃c,z.cps[i]?=some c/\x=.str ⟨#[c]⟩,fun i _=>z.cps.size<=i⟩
theorem jNE{P:Program}{w:World}{K:QD}{tg:Expr}(it:Addr)(z:Str)(t:Tok):Turn P w K tg (Its z) [it] it (fun i h=>h.IsStrIter it (strIterType z) z t i) where
 mem:=by simp
 obj:=fun i h st b hb=>by
  have e:b=it:=by simpa using hb
  subst e;obtain⟨o,e,c,d⟩:=st;exact⟨o,e,fun v z=>by rw[d]at z;cases z⟩
 keep:=fun i h h' st k=>by
  obtain⟨o,e,r⟩:=st;exact⟨o,k it (by simp) o e,r⟩
 item:=by
  intro X hP hw hK hc i pins s σ H E I hf st hg;subst hP hw hK;obtain⟨f0,f1,f2,f3,f4,f5⟩:=hf it (by simp);have hg':i<z.cps.size:=hg;obtain⟨ch,hx⟩:∃ch,z.cps[i]?=some ch:=⟨_,WI hg'⟩
  have key:∀h',h'.IsStrIter it (strIterType z) z t (i+1)->qP it s.heap h'->∃u,some (Value.str ⟨#[ch]⟩ s.toks)=some u /\
    wpAny (model X.prog X.w) X.A (letOwnedTupleGo tg (.ref it) u) (fun _ s2=>∃x H',Inv X pins σ H' s2/\jAm x u/\(Its z).yld i H x H'/\s2.heap.IsStrIter it (strIterType z) z t (i+1)/\∀b∈[it],H' b=none) E { s with heap:=h',toks:=s.toks+1 }:=fun h' st' sb=>by
   have I1:Inv X pins σ H { s with heap:=h',toks:=s.toks+1 }:=I.turned (fun b o hb e=>(sb.2 b hb).trans e) f0 f1 f3 f4 f5;obtain⟨o,e,c,d⟩:=id st';refine⟨_,rfl,jML (s:={ s with heap:=h',toks:=s.toks+1 }) (n:=strIterType z) e c d ?_ ⟨.str ⟨#[ch]⟩,H,I1,⟨_,rfl⟩,⟨rfl,_,hx,rfl⟩,st',fun b hb=>(hf b hb).1⟩⟩;unfold strIterType;split<;>decide
  cases ha:z.cps.all (· < 128) with
  |false =>
   have e1:strIterType z="str_iterator":=by simp[strIterType,ha]
   exact wpAny_pyNext_wide_item (by rw[<- e1];exact st) hx fun h' st' sb=>key h' (by rw[e1];exact st') sb
  |true =>
   have e1:strIterType z="str_ascii_iterator":=by simp[strIterType,ha]
   exact wpAny_pyNext_ascii_item (by rw[<- e1];exact st) hx fun h' st' sb=>key h' (by rw[e1];exact st') sb
 done:=by
  intro X hP hw hK hc i pins s σ H E I hf st hg;subst hP hw hK;obtain⟨f0,f1,f2,f3,f4,f5⟩:=hf it (by simp);have hx:z.cps[i]?=none:=by
   rw[Array.getElem?_eq_none_iff];exact hg
  cases ha:z.cps.all (· < 128) with
  |false =>
   have e1:strIterType z="str_iterator":=by simp[strIterType,ha]
   rw[e1]at st;exact wpAny_pyNext_wide_end (I.ok.hd hc) st hx fun h' eb=>⟨rfl,I.turned (t':=s.toks) (fun b o hb e=>eb b o hb e) f0 f1 f3 f4 f5⟩
  |true =>
   have e1:strIterType z="str_ascii_iterator":=by simp[strIterType,ha]
   rw[e1]at st;exact wpAny_pyNext_ascii_end (I.ok.hd hc) st hx fun h' eb=>⟨rfl,I.turned (t':=s.toks) (fun b o hb e=>eb b o hb e) f0 f1 f3 f4 f5⟩
 self:=by
  intro A i s Q E st h;cases ha:z.cps.all (· < 128) with
  |false =>
   have e1:strIterType z="str_iterator":=by simp[strIterType,ha]
   rw[e1]at st;exact wpAny_pyIter_striter_wide st h
  |true =>
   have e1:strIterType z="str_ascii_iterator":=by simp[strIterType,ha]
   rw[e1]at st;exact wpAny_pyIter_striter_ascii st h
section
variable{X:Cx}
theorem jGR:∀{bs:List Bool}{us:List Value},jAQ (bs.map V.bl) us->∀(i:Nat) (v:Value),us[i]?=some v->∃b,bs[i]?=some b/\v=Value.bool b
 |[],_,.nil,i,v,h=>by simp at h
 |b::bs,_,.cons r t,0,v,h=>by
  simp at h;subst h;exact⟨b,by simp,r⟩
 |b::bs,_,.cons r t,i+1,v,h=>by
  obtain⟨c,h1,h2⟩:=jGR (bs:=bs) t i v (by simpa using h);exact⟨c,by simpa using h1,h2⟩
theorem jLD(bs:List Bool):(qE bs.length).all (fun i=>bs.getD i true)=bs.all id:=by
 rw[qQ,qM,qM];constructor
 ·intro h b hb
  obtain⟨i,hi,e⟩:=QBI hb;have:=h i (by simpa using hi);simp[QAw,hi,e]at this;simpa using this
 ·intro h i hi
  have hi':i<bs.length:=by simpa using hi
  have:=h bs[i] (Ws hi');simpa[QAw,hi']using this
theorem jLC(bs:List Bool):(qE bs.length).any (fun i=>bs.getD i false)=bs.any id:=by
 rw[qQ,Wt,Wt];constructor
 ·rintro⟨i,hi,e⟩
  have hi':i<bs.length:=by simpa using hi
  exact⟨bs[i],Ws hi',by simpa[QAw,hi']using e⟩
 ·rintro⟨b,hb,e⟩
  obtain⟨i,hi,e'⟩:=QBI hb;exact⟨i,by simpa using hi,by simp[QAw,hi,e'];simpa using e⟩
noncomputable def jXW(K:QD):List V->Hp->VK->Prop:=fun vs H Q=>match vs with
 |[.ref a]=>∃bs:List Bool,SqL K H a (bs.map V.bl)/\Q (.bl (bs.all id)) H
 |_=>False
noncomputable def jXV(K:QD):List V->Hp->VK->Prop:=fun vs H Q=>match vs with
 |[.ref a]=>∃bs:List Bool,SqL K H a (bs.map V.bl)/\Q (.bl (bs.any id)) H
 |_=>False
theorem jOY(hh:X.calm=true):jCW X (.builtin "all") (jXW X.K):=by
 intro pins s σ H xs us Q I r h
 match xs,h with
 |[.ref a],⟨bs,hq,q⟩ =>
  obtain⟨u,rfl,ru⟩:=jGe r;cases ru;obtain⟨its,rv,p,hz⟩:=I.list hq;have hl:=rv.length;rw[QG]at hl;refine call_all_walk (WD p.isList ?_);have hlt:a<s.heap.objs.size:=by obtain⟨o,n,e,_⟩:=p;exact QO e
  refine⟨s.heap.objs.size,_,_,_,_,_,fun i=>bs.getD i true,rfl,QCF (A:=X.A.in1) (I.ok.hd hh) s.heap.objs.size a (Qc hlt) its.toArray,⟨⟨_,QN _ rfl,rfl,rfl⟩,?_⟩,?_,?_⟩
  ·obtain⟨o,n,e,c,d,sq⟩:=p
   exact⟨o,QH _ e,c,n,sq⟩
  ·intro i v s' Q' E' hP hQ'
   obtain⟨b,hb,rfl⟩:=jGR rv i v (by simpa using hP);refine wD ?_;have:bs.getD i true=b:=by simp[QAw,hb]
   rw[<- this];exact hQ'
  ·intro h' tk hk
   have e1:(qE its.toArray.size).all (fun i=>bs.getD i true)=bs.all id:=by
    rw[QS,<- hl,jLD]
   rw[e1];exact⟨.bl _,H,I.kept (t':=tk) (fun b o e=>hk b o (by simp;exact Qc (QO e)) (QH _ e)),rfl,q⟩
theorem jOX(hh:X.calm=true):jCW X (.builtin "any") (jXV X.K):=by
 intro pins s σ H xs us Q I r h
 match xs,h with
 |[.ref a],⟨bs,hq,q⟩ =>
  obtain⟨u,rfl,ru⟩:=jGe r;cases ru;obtain⟨its,rv,p,hz⟩:=I.list hq;have hl:=rv.length;rw[QG]at hl;refine call_any_walk (WD p.isList ?_);have hlt:a<s.heap.objs.size:=by obtain⟨o,n,e,_⟩:=p;exact QO e
  refine⟨s.heap.objs.size,_,_,_,_,_,fun i=>bs.getD i false,rfl,QCF (A:=X.A.in1) (I.ok.hd hh) s.heap.objs.size a (Qc hlt) its.toArray,⟨⟨_,QN _ rfl,rfl,rfl⟩,?_⟩,?_,?_⟩
  ·obtain⟨o,n,e,c,d,sq⟩:=p
   exact⟨o,QH _ e,c,n,sq⟩
  ·intro i v s' Q' E' hP hQ'
   obtain⟨b,hb,rfl⟩:=jGR rv i v (by simpa using hP);refine wD ?_;have:bs.getD i false=b:=by simp[QAw,hb]
   rw[<- this];exact hQ'
  ·intro h' tk hk
   have e1:(qE its.toArray.size).any (fun i=>bs.getD i false)=bs.any id:=by
    rw[QS,<- hl,jLC]
   rw[e1];exact⟨.bl _,H,I.kept (t':=tk) (fun b o e=>hk b o (by simp;exact Qc (QO e)) (QH _ e)),rfl,q⟩
noncomputable def jXR(K:QD):List V->Hp->VK->Prop:=fun vs H Q=>(∃z,vs=[.str z]/\z.length<=sizeLine/\Q (.int z.length) H)∨∃a xs,vs=[.ref a]/\(SqL K H a xs∨SqT K H a xs)/\Q (.int xs.length) H
theorem jOV:jCW X (.builtin "len") (jXR X.K):=fun pins s σ H xs us Q I r h=>h.elim (jHQ pins s σ H xs us Q I r) (jHR pins s σ H xs us Q I r)
noncomputable def cV:V->Option Value
 | .ty n=>some (.type n)
 | .ref C=>some (.ref C)
 |_=>none
def TyQ(K:QD)(H:Hp)(x:V)(t:Value):Prop:=(∃a xs,x=.ref a/\SqL K H a xs/\t=.type "list")∨∃a xs,x=.ref a/\SqT K H a xs/\t=.type "tuple"
noncomputable def jWF(K:QD):List V->Hp->VK->Prop:=fun vs H Q=>match vs with
 |[x,c]=>∃t cv b,(TyOf K H x t∨TyQ K H x t)/\cV c=some cv/\QBA K t cv=some b/\Q (.bl b) H
 |_=>False
theorem jOW:jCW X (.builtin "isinstance") (jWF X.K):=by
 intro pins s σ H xs us Q I r h
 match xs,h with
 |[x,c],⟨t,cv,b,ty,hc,hk,q⟩ =>
  obtain⟨u,w',rfl,ru,rw'⟩:=jSN r;have e:w'=cv:=by
   cases c with
   |ty n =>
    have h1:w'=Value.type n:=rw';have h2:some (Value.type n)=some cv:=hc;rw[h1];exact Q9 h2
   |ref C =>
    have h1:w'=Value.ref C:=rw';have h2:some (Value.ref C)=some cv:=hc;rw[h1];exact Q9 h2
   |_=>cases hc
  subst e;rcases ty with ty|⟨a,xs,rfl,hq,rfl⟩| ⟨a,xs,rfl,hq,rfl⟩
  ·exact jMF I ru ty hk fun tk=>⟨.bl b,H,I.tok tk,rfl,q⟩
  ·cases ru
   obtain⟨its,rv,⟨o,n,e,c,_,d⟩,_⟩:=I.list hq;exact qL QAR I.kIn ⟨o,e,c⟩ hk (fun z=>nomatch z) fun tk=>⟨.bl b,H,I.tok tk,rfl,q⟩
  ·cases ru
   obtain⟨its,rv,⟨o,e,c,n,d⟩,_⟩:=I.tuple hq;exact qL QBW I.kIn ⟨o,e,c⟩ hk (fun z=>nomatch z) fun tk=>⟨.bl b,H,I.tok tk,rfl,q⟩
noncomputable def rSl(K:QD):V->Option Int->Option Int->Hp->VK->Prop:=fun x lo hi H Q=>match x with
 | .str z=>z.length<=sizeLine/\Q (.str (QCI z lo hi)) H
 | .ref a=>jXN K (.ref a) lo hi H Q∨jXM K (.ref a) lo hi H Q
 |_=>False
theorem jSa:SlR X (rSl X.K):=by
 intro pins s σ H x v vl vu lo hi sl Q I rx hs pl pu h;cases x with
 |str z =>
  obtain⟨t,rfl⟩:=rx;obtain⟨hz,q⟩:=h;refine⟨"str",_,F.slot_str_getitem.lookup,QCC _ _ _,?_⟩;have fin:∀l u:Option (Int×Tok),l.map (·.1)=lo->u.map (·.1)=hi->s.heap.IsSlice sl l u none->wpAny (model X.prog X.w) X.A (getItem (.str z t) (.ref sl)) (EP X pins σ Q) X.xe s:=fun l u e1 e2 hsl=>by
   refine wpAny_getItem_str_slice hsl rfl ?_;subst e1 e2;exact post_val_or_str ⟨QX (Txt.slice_le z _ _) hz,fun t' k=>⟨.str (QCI z _ _),H,I.tok k,⟨_,rfl⟩,q⟩⟩
  obtain⟨o,ho,hc,hd⟩:=hs;cases pl with
  |none =>
   cases pu with
   |none=>exact fin none none rfl rfl ⟨o,ho,hc,hd⟩
   |int j tj=>exact fin none (some (j,tj)) rfl rfl ⟨o,ho,hc,hd⟩
  |int i ti =>
   cases pu with
   |none=>exact fin (some (i,ti)) none rfl rfl ⟨o,ho,hc,hd⟩
   |int j tj=>exact fin (some (i,ti)) (some (j,tj)) rfl rfl ⟨o,ho,hc,hd⟩
 |ref a =>
  rcases h with h|h
  ·exact jP9 pins s σ H _ v vl vu lo hi sl Q I rx hs pl pu h
  ·exact jSZ pins s σ H _ v vl vu lo hi sl Q I rx hs pl pu h
 |_=>exact QZ h
end
inductive Src where
 |l (a:Addr)|t (a:Addr)
noncomputable def Src.adr:Src->Addr
 | .l a=>a
 | .t a=>a
noncomputable def jDE(h:Heap)(j:Addr):Src->Nat->Prop
 | .l a,k=>h.IsListIter j a k
 | .t a,k=>h.IsTupleIter j a k
noncomputable def jA9(h:Heap):Src->Array Value->Prop
 | .l a,xs=>h.IsList a xs
 | .t a,xs=>h.IsTuple a xs
theorem jDE.keep{h h':Heap}{j:Addr}{z:Src}{k:Nat}(x:jDE h j z k)(e:∀o,h.get? j=some o->h'.get? j=some o):jDE h' j z k:=by
 cases z with
 |l a=>obtain⟨o,g1,g2⟩:=x;exact⟨o,e o g1,g2⟩
 |t a=>obtain⟨o,g1,g2⟩:=x;exact⟨o,e o g1,g2⟩
theorem jDE.obj{h:Heap}{j:Addr}{z:Src}{k:Nat}(x:jDE h j z k):∃o,h.get? j=some o/\∀v,o.data≠.cell v:=by
 cases z with
 |l a=>obtain⟨o,g1,g2,g3⟩:=x;exact⟨o,g1,fun v q=>by rw[g3]at q;cases q⟩
 |t a=>obtain⟨o,g1,g2,g3⟩:=x;exact⟨o,g1,fun v q=>by rw[g3]at q;cases q⟩
theorem jA9.ext{h h':Heap}{b:Addr}{z:Src}{xs:Array Value}(x:jA9 h z xs)(e:QAe b h h')(n:z.adr≠b):jA9 h' z xs:=by
 cases z with
 |l a=>exact QB7.extBut x e n
 |t a=>exact Heap.IsTuple.extBut x e n
theorem jA9.lt{h:Heap}{z:Src}{xs:Array Value}(x:jA9 h z xs):z.adr<h.objs.size:=by
 cases z with
 |l a=>obtain⟨o,g1,_⟩:=x;exact QO g1
 |t a=>obtain⟨o,g1,_⟩:=x;exact QO g1
theorem jDE.lt{h:Heap}{j:Addr}{z:Src}{k:Nat}(x:jDE h j z k):j<h.objs.size:=by
 obtain⟨o,g1,_⟩:=x.obj;exact QO g1
section
variable{prog:Program}{w:World}{A:Around}{E:VSP}{s:Shared}
theorem jTU{j t:Addr}{k:Nat}{xs:Array Value}{x:Value}{Q:VSP}(p:s.heap.IsTupleIter j t k)(pt:s.heap.IsTuple t xs)(px:xs[k]?=some x)
  (q:∀h',h'.IsTupleIter j t (k+1)->qP j s.heap h'->Q x { s with heap:=h' }):wpAny (model prog w) A (qV (.ref j)) Q E s:=by
 obtain⟨ob,g1,g2,g3⟩:=id p;obtain⟨ot,t1,_,nt,t3⟩:=pt;unfold qV;refine QA (qA (name:=Qt "__next__") p.typeIs qj (Q0 qj p.typeIs WU ?_ (WT _)));show wpAny _ _ (field (.ref j) 0 >>= _) _ _ _;refine QA (wU g1 g3 (x:=.ref t) rfl ?_);show wpAny _ _ (if(Value.ref t==Value.none)=true then _ else _) _ _ _;rw[if_neg (show ¬ (Value.ref t==Value.none)=true from QC)];show wpAny _ _ (field (.ref j) 1 >>= _) _ _ _;refine QA (wU g1 g3 (x:=.int k 0) rfl ?_);show wpAny _ _ (seqItems? (.ref t) >>= _) _ _ _;refine QA (QBC t1 t3 ?_);simp only[wc,px];refine QA (qt g1 g3 (by simp) (QI ⟨x,rfl,QI (q _ ?_ (qJ ..))⟩));refine⟨_,Q1 _ g1 (qd (Q3 g3 _)),(WE ..).trans g2,?_⟩;rw[Q3 g3];simp[rawInt]
theorem jJ9{j t:Addr}{k:Nat}{xs:Array Value}{Q:VSP}(ah:A.handled=none)(p:s.heap.IsTupleIter j t k)(pt:s.heap.IsTuple t xs)(px:xs[k]?=none)
  (q:∀h' e,QAe j s.heap h'->(∃o,h'.get? e=some o/\o.cls=.type "StopIteration")->E (.ref e) { s with heap:=h' }):wpAny (model prog w) A (qV (.ref j)) Q E s:=by
 obtain⟨ob,g1,g2,g3⟩:=id p;obtain⟨ot,t1,_,nt,t3⟩:=pt;unfold qV;refine QA (qA (name:=Qt "__next__") p.typeIs qj (Q0 qj p.typeIs WU ?_ (WT _)));show wpAny _ _ (field (.ref j) 0 >>= _) _ _ _;refine QA (wU g1 g3 (x:=.ref t) rfl ?_);show wpAny _ _ (if(Value.ref t==Value.none)=true then _ else _) _ _ _;rw[if_neg (show ¬ (Value.ref t==Value.none)=true from QC)];show wpAny _ _ (field (.ref j) 1 >>= _) _ _ _;refine QA (wU g1 g3 (x:=.int k 0) rfl ?_);show wpAny _ _ (seqItems? (.ref t) >>= _) _ _ _;refine QA (QBC t1 t3 ?_);simp only[wc,px];refine QA (QAV (QA (qt g1 g3 (by simp) ?_)));refine QA (m:=newExc (.type "StopIteration") []) ?_;simp only[newExc,newTuple];refine QA (Qp ?made (by size_fits));refine QA (m:=firstArgMember _ _) (WP (a:=Value.none) (by first|rfl | (rw[firstArgMember];rfl)) ?arg);refine Qp ?made2 (by size_fits);simp only[raiseNew];refine QA (QAf ?_)
 first|rw[show A.in1.handled=none from ah]|rw[ah]
 refine QA (QI (QBJ (q _ _ (((qJ ..).extBut.push _).push _) ⟨_,QN _ rfl,rfl⟩)))
theorem jQ3{j:Addr}{z:Src}{k:Nat}{xs:Array Value}{x:Value}{Q:VSP}(p:jDE s.heap j z k)(pt:jA9 s.heap z xs)(px:xs[k]?=some x)
  (q:∀h',jDE h' j z (k+1)->qP j s.heap h'->Q x { s with heap:=h' }):wpAny (model prog w) A (qV (.ref j)) Q E s:=by
 cases z with
 |l a=>exact wpAny_nextOf_list_item p pt px q
 |t a=>exact jTU p pt px q
theorem jPG{j:Addr}{z:Src}{k:Nat}{xs:Array Value}{Q:VSP}(ah:A.handled=none)(p:jDE s.heap j z k)(pt:jA9 s.heap z xs)(px:xs[k]?=none)
  (q:∀h' e,QAe j s.heap h'->(∃o,h'.get? e=some o/\o.cls=.type "StopIteration")->E (.ref e) { s with heap:=h' }):wpAny (model prog w) A (qV (.ref j)) Q E s:=by
 cases z with
 |l a=>exact wpAny_nextOf_list_end ah p pt px q
 |t a=>exact jJ9 ah p pt px q
noncomputable def Src.it:Src->Obj
 | .l a=>{ cls:=.type "list_iterator",data:=.fields #[.ref a,.int 0 0] }
 | .t a=>{ cls:=.type "tuple_iterator",data:=.fields #[.ref a,.int 0 0] }
theorem jIn{z:Src}{xs:Array Value}{Q:VSP}(pt:jA9 s.heap z xs)(q:Q (.ref s.heap.objs.size) { s with heap:=s.heap.push z.it }):wpAny (model prog w) A (pyIter (.ref z.adr)) Q E s:=by
 cases z with
 |l a=>exact WD pt q
 |t a=>exact QBX pt q
theorem jP6(h:Heap)(z:Src):jDE (h.push z.it) h.objs.size z 0:=by
 cases z with
 |l a=>exact⟨_,QN _ rfl,rfl,rfl⟩
 |t a=>exact⟨_,QN _ rfl,rfl,rfl⟩
end
section
variable{prog:Program}{w:World}{A:Around}{E:VSP}{s:Shared}
theorem jSd{h h':Heap}{b:Addr}{z:Src}{xs:Array Value}(x:jA9 h z xs)(e:qP b h h')(n:z.adr≠b):jA9 h' z xs:=x.ext e.extBut n
end
section
variable{X:Cx}{pins:LAO}{σ:St}{H:Hp}{s:Shared}{h':Heap}
theorem _root_.L2.Inv.turnedL{t':Nat}{ch:List Addr}(I:Inv X pins σ H s)(k:∀b o,b∉ch->s.heap.get? b=some o->h'.get? b=some o)(f:∀b∈ch,jJp X pins H b):Inv X pins σ H { s with heap:=h',toks:=t' }:=by
 have away:∀b u,H b=some u->b∉ch:=fun b u e z=>by rw[(f b z).1]at e;cases e
 have hL:X.env.locals∉ch:=fun z=>(f _ z).2.1 rfl;refine I.step (g':=s.gens) (d':=s.drawn) (ch:=ch) (fun b hb=>?_) (fun b o _ _ hc e _=>k b o hc e) (fun b o _ _ hc e _=>⟨o.slots,k b o hc e⟩) (fun _ _ _ _ n=>n)
  (fun b o hc e=>⟨o,k b o hc e⟩) (fun _ _ e=>e) (fun _ _ _ e=>e) (fun b ps e=>⟨#[],by rw[e];simp⟩) (fun m hm=>?_) (fun b u e=>?_) I.bare
 ·obtain⟨_,f1,_,f3,f4,f5⟩:=f b hb
  exact⟨f3,f1,f4,f5⟩
 ·obtain⟨o,es,ep,ho,r⟩:=hm
  exact⟨o,es,ep,k _ o hL ho,r⟩
 ·refine(I.hok b u e).stay (fun c v hc q=>k c v ?_ q) (fun _ q=>q) fun _ _ q=>q
  rcases hc with z|z
  ·rw[z];exact away b u e
  ·exact away c _ z
noncomputable def SqS(K:QD)(H:Hp):Src->List V->Prop
 | .l a,xs=>SqL K H a xs
 | .t a,xs=>SqT K H a xs
theorem _root_.L2.Inv.src(I:Inv X pins σ H s){z:Src}{xs:List V}(h:SqS X.K H z xs):∃its:List Value,jAQ xs its/\jA9 s.heap z its.toArray/\xs.length<=sizeLine:=by
 cases z with
 |l a =>
  obtain⟨its,rv,p,hz⟩:=I.list h;exact⟨its,rv,p.isList,hz⟩
 |t a =>
  obtain⟨its,rv,p,hz⟩:=I.tuple h;exact⟨its,rv,p,hz⟩
theorem _root_.L2.Inv.src_inj(I:Inv X pins σ H s){z:Src}{xs ys:List V}(h:SqS X.K H z xs)(h':SqS X.K H z ys):xs=ys:=by
 cases z with
 |l a=>exact I.list_inj h h'
 |t a=>exact I.tuple_inj h h'
theorem _root_.L2.Inv.pair{p:Addr}{a b:Value}{x y:V}{t':Nat}(I:Inv X pins σ H s)(k:∀b u,s.heap.get? b=some u->h'.get? b=some u)(hp:s.heap.objs.size<=p)(ho:h'.get? p=some { cls:=.type "tuple",data:=.seq #[a,b] })(ra:jAm x a)(rb:jAm y b) :
  Inv X pins σ (upd H p (.tup [x,y])) { s with heap:=h',toks:=t' } :=
 I.laid k hp ⟨by rw[QW];show 2<=_;decide,[a,b],.cons ra (.cons rb .nil),_,ho,rfl,_,rfl⟩
end
section
variable{prog:Program}{w:World}{A:Around}{E:VSP}{s:Shared}
theorem jBl:Wz "dict_itemiterator"=true:=by decide +kernel
theorem jEW(l:List String)(h:(l.contains "dict_itemiterator" || l.contains "object")=false):(l.any fun t=>[Value.type "dict_itemiterator",Value.type "object"].contains (.type t))=false:=by
 rw[QAQ];intro t ht;rw[Bool.or_eq_false_iff]at h;have h1:t≠"dict_itemiterator":=fun e=>by subst e;rw[Qm.mpr ht]at h;cases h.1
 have h2:t≠"object":=fun e=>by subst e;rw[Qm.mpr ht]at h;cases h.2
 simp[h1,h2]
theorem jNq{it d:Addr}{od:Obj}{es:Array DictEntry}{i ep:Nat}{e:DictEntry}{ok ov:Value}{Q:Option Value->Shared->Prop}
  (hit:IsItemIter s.heap it d i es.size ep ok ov) (hod:s.heap.get? d=some od) (hdd:od.data=.dict es ep) (hx:es[i]?=some e)
  (q:∀h',IsItemIterOut h' it d (i+1) es.size ep e.key e.val s.heap.objs.size->h'.get? s.heap.objs.size=some { cls:=.type "tuple",data:=.seq #[e.key,e.val] } ->
   h'.objs.size=s.heap.objs.size+1->(∀b o,b≠it->s.heap.get? b=some o->h'.get? b=some o)->Q (some (.ref s.heap.objs.size)) { s with heap:=h' }) :
  wpAny (model prog w) A (pyNext (.ref it)) Q E s:=by
 have hT:s.TypeIs (.ref it) "dict_itemiterator":=⟨_,hit,rfl⟩
 show wpAny _ _ (bind _ _) _ _ _;refine QA (WV (qA hT qW (Q0 qW hT Wj ?_ (Wd _))));show wpAny _ _ (bind _ _) _ _ _;refine QA (QI (QA (QA (QA (qw hT (QI (QA (WJ hit rfl ?_))))))));rw[jBl];show wpAny _ _ (if(Value.ref d==Value.none)=true then _ else _) _ _ _;rw[if_neg (show ¬ (Value.ref d==Value.none)=true from QC)];show wpAny _ _ (wW (.ref d) >>= _) _ _ _;refine QA (QI (QA (wF hod hdd ?_)));rw[if_neg (show ¬ (((es.size:Nat):Int) != ((es.size:Nat):Int))=true by simp)];refine QA (QI (QA (WA hod hdd ?_)));rw[if_neg (show ¬ (((ep:Nat):Int) != ((ep:Nat):Int))=true by simp)];refine QI ?_;have h0:(if((i:Nat):Int)<0 then none else es[((i:Nat):Int).toNat]?)=some e:=by
  rw[if_neg (by omega),wc];exact hx
 simp only[h0];refine QA ?_;show wpAny _ _ (typeNameOfWhole (.ref it) >>= _) _ _ _;refine QA (qw hT (QI (QA (Wb hT ?_))));rw[jBl,if_pos rfl];rw[show(List.any _ fun t=>[Value.type "dict_itemiterator",Value.type "object"].contains (.type t))=false from jEW _ (by decide +kernel),if_neg QC];refine QA (wR hit (by simp) fun h1 hit1 hs1=>?_);have hit1:IsItemIter h1 it d (i+1) es.size ep ok ov:=hit1;refine QA (qT ?_);have hT1:({ s with heap:=h1 }:Shared).TypeIs (.ref it) "dict_itemiterator":=⟨_,hit1,rfl⟩
 show wpAny _ _ (Builtin.Dict_items.isOneOf (.ref it) _ >>= _) _ _ _;refine QA (Wb hT1 ?_);rw[jEW _ (by decide +kernel),if_neg QC];refine QA (Wb hT1 ?_);rw[jEW _ (by decide +kernel),if_neg QC];show wpAny _ _ (newTuple [e.key,e.val] >>= _) _ _ _;refine QA (QBD ?_);have sz1:h1.objs.size=s.heap.objs.size:=hs1.1;have hit2:IsItemIter (h1.push { cls:=.type "tuple",data:=.seq #[e.key,e.val] }) it d (i+1) es.size ep ok ov:=QH _ hit1;show wpAny _ _ (Builtin.Dict_items.ownedTupleIsFree (.ref it) >>= _) _ _ _;refine QA ?_;show wpAny _ _ (field (.ref it) 0 >>= _) _ _ _;refine QA (wU hit2 rfl (x:=.none) rfl (QI ?_));rw[if_pos rfl];show wpAny _ _ (field (.ref it) 6 >>= _) _ _ _;refine QA (wU hit2 rfl (x:=ok) rfl ?_);refine QA (wU hit2 rfl (x:=ov) rfl ?_);refine QA (wR hit2 (by simp) fun h3 hit3 hs3=>?_);refine QA (wR hit3 (by simp) fun h4 hit4 hs4=>?_);refine QA (wR hit4 (by simp) fun h5 hit5 hs5=>?_);refine QA (wR hit5 (by simp) fun h6 hit6 hs6=>?_);refine QA (wpAny_letGo (QI ?_));refine QI ⟨_,rfl,QI ?_⟩;have ilt:it<h1.objs.size:=QO hit1;have pt:h6.get? h1.objs.size=some { cls:=.type "tuple",data:=.seq #[e.key,e.val] } :=
  hs6.extBut _ _ (wP ilt) (hs5.extBut _ _ (wP ilt) (hs4.extBut _ _ (wP ilt) (hs3.extBut _ _ (wP ilt) (QN _ rfl))))
 have sz6:h6.objs.size=h1.objs.size+1:=by rw[hs6.1,hs5.1,hs4.1,hs3.1,wV]
 have hit6':IsItemIterOut h6 it d (i+1) es.size ep e.key e.val h1.objs.size:=hit6;rw[sz1]at pt sz6 hit6';have:=q h6 hit6' pt sz6 fun b o hb x=>hs6.extBut _ _ hb (hs5.extBut _ _ hb (hs4.extBut _ _ hb (hs3.extBut _ _ hb (QH _ (hs1.extBut _ _ hb x)))));show Q (some (.ref h1.objs.size)) _;rw[sz1];exact this
theorem jGw{it d:Addr}{od:Obj}{es:Array DictEntry}{i ep:Nat}{ok ov:Value}{Q:Option Value->Shared->Prop}(ah:A.handled=none)
  (hit:IsItemIter s.heap it d i es.size ep ok ov) (hod:s.heap.get? d=some od) (hdd:od.data=.dict es ep) (hx:es[i]?=none)
  (q:∀h',QAe it s.heap h'->Q none { s with heap:=h' }) :
  wpAny (model prog w) A (pyNext (.ref it)) Q E s:=by
 have hT:s.TypeIs (.ref it) "dict_itemiterator":=⟨_,hit,rfl⟩
 show wpAny _ _ (bind _ _) _ _ _;refine QA (WV (qA hT qW (Q0 qW hT Wj ?_ (Wd _))));show wpAny _ _ (bind _ _) _ _ _;refine QA (QI (QA (QA (QA (qw hT (QI (QA (WJ hit rfl ?_))))))));rw[jBl];show wpAny _ _ (if(Value.ref d==Value.none)=true then _ else _) _ _ _;rw[if_neg (show ¬ (Value.ref d==Value.none)=true from QC)];show wpAny _ _ (wW (.ref d) >>= _) _ _ _;refine QA (QI (QA (wF hod hdd ?_)));rw[if_neg (show ¬ (((es.size:Nat):Int) != ((es.size:Nat):Int))=true by simp)];refine QA (QI (QA (WA hod hdd ?_)));rw[if_neg (show ¬ (((ep:Nat):Int) != ((ep:Nat):Int))=true by simp)];refine QI ?_;have h0:(if((i:Nat):Int)<0 then none else es[((i:Nat):Int).toNat]?)=none:=by
  rw[if_neg (by omega),wc];exact hx
 simp only[h0];refine QA ?_;show wpAny _ _ (typeNameOfWhole (.ref it) >>= _) _ _ _;refine QA (qw hT (QI ?_));rw[jBl,if_pos rfl];refine QA (wR hit (by simp) fun h1 hit1 hs1=>?_);refine QA (m:=newExc (.type "StopIteration") []) ?_;simp only[newExc,newTuple];refine QA (Qp ?made (by size_fits));refine QA (m:=firstArgMember _ _) (WP (a:=Value.none) (by first|rfl | (rw[firstArgMember];rfl)) ?arg);refine Qp ?made2 (by size_fits);simp only[raiseNew];refine QA (QAf ?_)
 first|rw[show A.in1.handled=none from ah]|rw[ah]
 refine QA (QI (QBJ ?_));refine QA (Wu (T:="StopIteration") (b:=true) ⟨_,QN _ rfl,rfl⟩ (by kernel_rfl) ?_);rw[if_pos rfl];exact QI (q _ ((hs1.extBut.push _).push _))
theorem jOA{v d:Addr}{od:Obj}{es:Array DictEntry}{ep:Nat}{Q:VSP}(hv:s.heap.IsItemsView v d)(hod:s.heap.get? d=some od)(hdd:od.data=.dict es ep)
  (q:Q (.ref s.heap.objs.size) { s with heap:=s.heap.push { cls:=.type "dict_itemiterator",data:=.fields #[.none,.bool false,.ref d,.int 0 0,.int es.size 0,.int ep 0,.none,.none] } }) :
  wpAny (model prog w) A (pyIter (.ref v)) Q E s:=by
 have hT:=Heap.IsItemsView.typeIs hv;obtain⟨ov,hov,hcv,hdv⟩:=id hv;refine We hT QAn (Q0 QAn hT F.entry_dict_items_iter ?_ (F.args_dict_items_iter_1 _));show wpAny _ _ (bind _ _) _ _ _;refine QA (QI (QA ?_));show wpAny _ _ (bind _ _) _ _ _;refine QA (wU hov hdv rfl (QI (QA ?_)));show wpAny _ _ (bind _ _) _ _ _;refine QA (wF hod hdd (QA (WA hod hdd ?_)));simp only[jBl,if_true];refine Qp (QI ⟨_,rfl,"dict_itemiterator",_,⟨_,QN _ rfl,rfl⟩,qW.lookup,q⟩) (show _<=sizeLine+2 by simp[Builtin.Dict_items.ownedTupleFields,QW])
theorem jKP{d:Addr}{od:Obj}{Q:VSP}(hod:s.heap.get? d=some od)(hdd:od.cls=.type "dict")(hd:(d==sysModules)=false)
  (q:Q (.ref s.heap.objs.size) { s with heap:=s.heap.push { cls:=.type "dict_items",data:=.fields #[.ref d] } }):wpAny (model prog w) A (call (.builtin "dict.items") [.ref d]) Q E s:=by
 have hT:s.TypeIs (.ref d) "dict":=⟨_,hod,hdd⟩
 refine Q0 F.slot_dict_items hT F.entry_dict_items ?_ (F.args_dict_items_1 _);show wpAny _ _ (bind _ _) _ _ _;refine QA ?_;show wpAny _ _ (bind _ _) _ _ _;refine QA (Wk hT ?_);refine QI ?_;show wpAny _ _ ((if(d==sysModules)=true then _ else _) >>= _) _ _ _;rw[hd,if_neg QC];exact QA (QI (QA (Qp (QI ⟨_,rfl,q⟩) (show _<=sizeLine+2 by simp[QW]))))
theorem jKZ{κ:Type}[DecidableEq κ]{knd:HeapKind prog w κ}{d a:Addr}{xs:List (κ×Addr×Value)}{k:κ}{v:Value}{Q:VSP}(hu:knd.room A)(hkey:knd.is s.heap k a)(hm:s.heap.DictOfH knd d xs)(hsz:xs.length<=sizeLine)
  (h1:∀p,atKey xs k=some p->Q p.2 { s with toks:=s.toks+knd.draws k })
  (h2:atKey xs k=none->∀h',h'.DictOfH knd d (storedH xs k a v)->qP d s.heap h'->Q v { s with heap:=h',toks:=s.toks+knd.draws k }) :
  wpAny (model prog w) A (dictSetDefault d (.ref a) v) Q E s:=by
 obtain⟨o,es,ep,ho,hc,hd,he,his,hn⟩:=id hm;have esz:es.size=xs.length:=by
  have:=congrArg qz he;simpa using this
 unfold dictSetDefault;refine qT (QA (knd.pyHash hu hkey (QA (wpAny_dictFind_heap hu hkey ho hd he his hn (fun hno=>?_) fun j p hj=>?_))))
 ·have hat:=atKey_none_of_get hno
  have hnot:=not_mem_keys_of_get hno;refine QA (QAV (QA (wpAny_updateDictKeys ho hd (QI (h2 hat _ ?_ (qJ ..))) (by omega) (by simp))));refine⟨_,_,ep+1,Q1 _ ho (Obj.isFreed_of_dict (QA4 hd _)),Obj.ExactDict.mapDictKeys hc _,QA4 hd _,?_,?_,?_⟩
  ·rw[QB8 hat]
   simp[he,entryOfKey]
  ·rw[QB8 hat]
   intro x hx;rcases Qd.mp hx with hx|hx
   ·exact knd.keeps (his x hx) ho hd (qJ ..)
   ·rw[QJ.mp hx]
    exact knd.keeps hkey ho hd (qJ ..)
  ·rw[QB8 hat,Qe]
   exact qr.mpr ⟨hn,by simp,fun x hx y hy e=>by
    rw[QR,w8,QJ]at hy;rw[e,hy]at hx;exact hnot hx⟩
 ·have hat:=atKey_of_get hn hj
  have ej:es[j]?=some (entryOfKey knd (k,p)):=by
   have:es.toList[j]?=some (entryOfKey knd (k,p)):=by rw[he,QY,hj];rfl
   simpa using this
  refine QA (wF ho hd ?_);rw[ej];exact QA (QAV (QI (h1 p hat)))
theorem jIS{κ:Type}[DecidableEq κ]{knd:HeapKind prog w κ}{d a:Addr}{xs:List (κ×Addr×Value)}{k:κ}{v:Value}{Q:VSP}(hu:knd.room A.in1)(hkey:knd.is s.heap k a)(hm:s.heap.DictOfH knd d xs)(hsz:xs.length<=sizeLine)(hd:(d==sysModules)=false)
  (h1:∀p,atKey xs k=some p->Q p.2 { s with toks:=s.toks+knd.draws k })
  (h2:atKey xs k=none->∀h',h'.DictOfH knd d (storedH xs k a v)->qP d s.heap h'->Q v { s with heap:=h',toks:=s.toks+knd.draws k }) :
  wpAny (model prog w) A (call (.builtin "dict.setdefault") [.ref d,.ref a,v]) Q E s:=by
 have hT:s.TypeIs (.ref d) "dict":=Heap.DictOfH.typeIs hm;refine Q0 F.slot_dict_setdefault hT F.entry_dict_setdefault ?_ (F.args_dict_setdefault_3 _ _ _);show wpAny _ _ (bind _ _) _ _ _;refine QA ?_;show wpAny _ _ (bind _ _) _ _ _;refine QA (Wk hT ?_);refine QI ?_;show wpAny _ _ (if(d==sysModules)=true then _ else _) _ _ _;rw[hd,if_neg QC];exact QA (jKZ hu hkey hm hsz (fun p hp=>QI ⟨_,rfl,h1 p hp⟩) fun hn h' g1 g2=>QI ⟨_,rfl,h2 hn h' g1 g2⟩)
end
noncomputable def jFz(K:QD):V->List V->Hp->VK->Prop:=fun x vs H Q=>∃a b v ep kvs k,x=.ref a/\vs=[.ref b,v]/\H a=some (.dT ep kvs)/\jD3 K H kvs/\SqT K H b (k.map kV)/\kvs.length<sizeLine /\
   (∀u,jHi kvs k=some u->Q u H)/\(jHi kvs k=none->∀ep',Q v (upd H a (.dT ep' (jLH kvs k b v))))
theorem jLv{X:Cx}(hu:X.A.units+66<cLine):MtR X "dict.setdefault" (jFz X.K):=by
 intro pins s σ H x xs v us Q I rx rs h
 ·obtain⟨a,b,y,ep,kvs,k,rfl,rfl,e,hk,eb,l,q1,q2⟩:=h
  cases rx;obtain⟨u,w',rfl,ru,rw'⟩:=jSN rs;cases ru;obtain⟨hz,hd,ys,rel,dd⟩:=jHH I e hk;have hl:(jLH kvs k b y).length<=sizeLine:=by have:=jJD kvs k b y;omega
  refine jIS (wy (by omega)) (jRP I eb) dd (by rw[<- qS rel];exact hz) hd (fun p hp=>?_) fun hn h' dd' hs=>?_
  ·have rv:=rel.val k
   rw[hp]at rv;cases ev:jHi kvs k with
   |none=>rw[ev]at rv;exact(show False from rv).elim
   |some u =>
    rw[ev]at rv;exact⟨u,H,I.tok _,rv,q1 u ev⟩
  ·have rv:=rel.val k
   rw[hn]at rv;cases ev:jHi kvs k with
   |some u=>rw[ev]at rv;exact(show False from rv).elim
   |none =>
    obtain⟨ep',I'⟩:=jGJ (t':=_) I (by rw[e];exact True.intro) hd hl (rel.put k b rw') dd' hs;exact⟨y,_,I',rw',q2 ev ep'⟩
noncomputable def Itm(ep n:Nat)(a:Addr):It :=
  ⟨fun i H=>∃kvs p,H a=some (.dT ep kvs)/\kvs.length=n/\kvs[i]?=some p,
   fun i H v H'=>∃q p,H q=none/\v=.ref q/\H'=upd H q (.tup [.ref p.2.1,p.2.2])/\∀kvs,H a=some (.dT ep kvs)->kvs[i]?=some p,
   fun i H=>∃kvs,H a=some (.dT ep kvs)/\kvs.length=n/\n<=i⟩
theorem jDU{α β:Type}{R:α->β->Prop}:∀{l:List α}{m:List β}{i:Nat}{x:α},Paired R l m->l[i]?=some x->∃y,m[i]?=some y/\R x y
 |_,_,i,_,.nil,e=>by simp at e
 |_,_,0,_,.cons r _,e=>by simp at e;subst e;exact⟨_,rfl,r⟩
 |_,_,i+1,x,.cons _ t,e=>by
  obtain⟨y,h1,h2⟩:=jDU (i:=i) (x:=x) t (by simpa using e);exact⟨y,by simpa using h1,h2⟩
theorem jJy{P:Program}{w:World}{K:QD}{es:List Expr}{kk:Nat}{pp:Pos}{a it:Addr}{n ep:Nat}:Turn0 P w K (.Tuple es kk pp) (Itm ep n a) [it] it (fun i h=>∃ok ov,IsItemIter h it a i n ep ok ov) where
 mem:=by simp
 obj:=fun i h st b hb=>by
  obtain⟨ok,ov,st⟩:=st;rw[QJ]at hb;subst hb;exact⟨_,st,fun v q=>by cases(show Data.fields _=Data.cell v from q)⟩
 keep:=fun i h h' st k=>by
  obtain⟨ok,ov,st⟩:=st;exact⟨ok,ov,k it (by simp) _ st⟩
 item:=by
  intro X hP hw hK hc i pins s σ H E I hf st hg;subst hP hw hK;obtain⟨kvs,p,e,hn,ep⟩:=hg;obtain⟨ok,ov,st⟩:=st;obtain⟨z,y,xs,r,o,es',h1,h2,h3,h4,h5⟩:=(show jAk X.prog X.w H s.heap a (.dT _ kvs) from I.hok a _ e)
  have hsz:es'.size=n:=by
   have:=congrArg qz h4;rw[QG,QT]at this;rw[this,<- qS r,hn]
  obtain⟨q,hq,rq⟩:=jDU r ep;have he:es'[i]?=some (entryOfKey (tupleKind (jAh X.prog X.w)) q):=by
   have:es'.toList[i]?=some (entryOfKey (tupleKind (jAh X.prog X.w)) q):=by rw[h4,QY,hq];rfl
   simpa using this
  subst hsz;refine jNq st h1 h3 he fun h' b1 b3 b4 b5=>⟨_,rfl,wpAny_letOwnedTupleGo_items b1 fun h'' c1 sb=>?_⟩
  have hp:=I.hok.fresh (QU s.heap.objs.size);have elt:it<s.heap.objs.size:=QO st;have old':∀b∈[it],b<s.heap.objs.size:=fun b hb=>by
   rw[QJ]at hb;subst hb;exact elt
  have kept:∀b o,b∉[it]->s.heap.get? b=some o->h''.get? b=some o:=fun b o hb q=>by
   rw[QJ]at hb;exact(sb.2 b hb).trans (b5 b o hb q)
  have pairAt:h''.get? s.heap.objs.size=some { cls:=.type "tuple",data:=.seq #[.ref q.2.1,q.2.2] }:=(sb.2 _ (wP elt)).trans b3;have I1:=I.pair (x:=.ref p.2.1) (y:=p.2.2) (h':=s.heap.push { cls:=.type "tuple",data:=.seq #[.ref q.2.1,q.2.2] }) (t':=s.toks) (fun b o e=>QH _ e) (QU _) (QN _ rfl) (show Value.ref q.2.1=Value.ref p.2.1 by rw[rq.2.1]) rq.2.2;have I2:=I1.turnedL (h':=h'') (t':=s.toks) (ch:=[it]) (fun b o hb e=>by
   rcases QA5 e with⟨q1,q2⟩| q
   ·subst q1 q2;exact pairAt
   ·exact kept b o hb q) fun b hb=>by
    obtain⟨f0,f1,f2,f3,f4,f5⟩:=hf b hb;exact⟨by rw[jAD (Qc (old' b hb))];exact f0,f1,f2,f3,f4,f5⟩
  refine⟨.ref s.heap.objs.size,_,I2,rfl,⟨s.heap.objs.size,p,hp,rfl,rfl,fun kvs' g1=>?_⟩,⟨_,_,c1⟩,fun b hb=>?_⟩
  ·rw[e]at g1;cases g1;exact ep
  ·rw[jAD (Qc (old' b hb))];exact(hf b hb).1
 done:=by
  intro X hP hw hK hc i pins s σ H E I hf st hg;subst hP hw hK;obtain⟨kvs,e,hn,ep⟩:=hg;obtain⟨ok,ov,st⟩:=st;obtain⟨z,y,xs,r,o,es',h1,h2,h3,h4,h5⟩:=(show jAk X.prog X.w H s.heap a (.dT _ kvs) from I.hok a _ e)
  have hsz:es'.size=n:=by
   have:=congrArg qz h4;rw[QG,QT]at this;rw[this,<- qS r,hn]
  subst hsz;obtain⟨f0,f1,f2,f3,f4,f5⟩:=hf it (by simp);exact jGw (I.ok.hd hc) st h1 h3 (QAo ep) fun h' eb=>⟨rfl,I.turned (t':=s.toks) (fun b o hb e=>eb b o hb e) f0 f1 f3 f4 f5⟩
section
variable{prog:Program}{w:World}{A:Around}{E:VSP}{s:Shared}
theorem jCx:Wz "dict_keyiterator"=false:=by decide +kernel
theorem jRU{d:Addr}{od:Obj}{es:Array DictEntry}{ep:Nat}{Q:VSP}(hz:(d==sysModules)=false)(hod:s.heap.get? d=some od)(hc:od.cls=.type "dict")(hdd:od.data=.dict es ep)
  (q:Q (.ref s.heap.objs.size) { s with heap:=s.heap.push { cls:=.type "dict_keyiterator",data:=.fields #[.ref d,.int 0 0,.int es.size 0,.int ep 0] } }) :
  wpAny (model prog w) A (pyIter (.ref d)) Q E s:=by
 have hT:s.TypeIs (.ref d) "dict":=⟨_,hod,hc⟩
 refine We hT QB3 (Q0 QB3 hT F.entry_dict_iter ?body (F.args_dict_iter_1 _))
 case body =>
  show wpAny _ _ (bind _ _) _ _ _;refine QA ?sl
  case sl =>
   show wpAny _ _ (bind _ _) _ _ _;refine QA (Wk hT (QI ?go))
   case go =>
    have e:Wl d=pure PUnit.unit:=by
     unfold Wl;rw[hz]
     rfl
    show wpAny _ _ (Wl d >>= _) _ _ _;rw[e];refine QA (QI (QA (wF hod hdd (QA (WA hod hdd (QA (Qp (QI ⟨_,rfl,"dict_keyiterator",_,⟨_,QN _ rfl,rfl⟩,qe.lookup,?_⟩))))))));simpa[rawInt]using q
theorem jQ2{it d:Addr}{od:Obj}{es:Array DictEntry}{i ep:Nat}{e:DictEntry}{Q:Option Value->Shared->Prop}
  (hit:s.heap.IsKeyIter it d i es.size ep) (hod:s.heap.get? d=some od) (hdd:od.data=.dict es ep) (hx:es[i]?=some e)
  (q:∀h',h'.IsKeyIter it d (i+1) es.size ep->qP it s.heap h'->Q (some e.key) { s with heap:=h' }) :
  wpAny (model prog w) A (pyNext (.ref it)) Q E s:=by
 have hT:=hit.typeIs;obtain⟨oi,hi,hci,hdi⟩:=id hit;show wpAny _ _ (bind _ _) _ _ _;refine QA (WV (qA hT qe (Q0 qe hT Wv ?_ (Wm _))));show wpAny _ _ (bind _ _) _ _ _;refine QA (QI (QA (QA (QA (wA hT (QI (QA (WJ hi hdi ?_))))))));rw[jCx];show wpAny _ _ (if(Value.ref d==Value.none)=true then _ else _) _ _ _;rw[if_neg (show ¬ (Value.ref d==Value.none)=true from QC)];show wpAny _ _ (wW (.ref d) >>= _) _ _ _;refine QA (QI (QA (wF hod hdd ?_)));rw[if_neg (show ¬ (((es.size:Nat):Int) != ((es.size:Nat):Int))=true by simp)];refine QA (QI (QA (WA hod hdd ?_)));rw[if_neg (show ¬ (((ep:Nat):Int) != ((ep:Nat):Int))=true by simp)];refine QI ?_;have h0:(if((i:Nat):Int)<0 then none else es[((i:Nat):Int).toNat]?)=some e:=by
  rw[if_neg (by omega),wc];exact hx
 simp only[h0];refine QA ?_;show wpAny _ _ (typeNameOfWhole (.ref it) >>= _) _ _ _;refine QA (wA hT (QI (QA (QAx hT ?_))));rw[jCx];show wpAny _ _ (setField (.ref it) 1 _ >>= _) _ _ _;refine QA (qt hi hdi (by simp) ?_);have hit':(s.heap.update it (qX (·.setIfInBounds 1 (rawInt ((i:Int)+1))))).IsKeyIter it d (i+1) es.size ep :=
  ⟨_,Q1 _ hi (qd (Q3 hdi _)),(WE ..).trans hci,by rw[Q3 hdi];simp[rawInt]⟩
 refine QA (qT (QA (QAx (s:={ s with heap:=s.heap.update it (qX (·.setIfInBounds 1 (rawInt ((i:Int)+1)))) }) hit'.typeIs ?_)));show wpAny _ _ (pure e.key) _ _ _;exact QI (QI ⟨_,rfl,QI (q _ hit' (qJ ..))⟩)
theorem jHz{it d:Addr}{od:Obj}{es:Array DictEntry}{i ep:Nat}{Q:Option Value->Shared->Prop}(ah:A.handled=none)
  (hit:s.heap.IsKeyIter it d i es.size ep) (hod:s.heap.get? d=some od) (hdd:od.data=.dict es ep) (hx:es[i]?=none)
  (q:∀h',QAe it s.heap h'->Q none { s with heap:=h' }) :
  wpAny (model prog w) A (pyNext (.ref it)) Q E s:=by
 have hT:=hit.typeIs;obtain⟨oi,hi,hci,hdi⟩:=id hit;show wpAny _ _ (bind _ _) _ _ _;refine QA (WV (qA hT qe (Q0 qe hT Wv ?_ (Wm _))));show wpAny _ _ (bind _ _) _ _ _;refine QA (QI (QA (QA (QA (wA hT (QI (QA (WJ hi hdi ?_))))))));rw[jCx];show wpAny _ _ (if(Value.ref d==Value.none)=true then _ else _) _ _ _;rw[if_neg (show ¬ (Value.ref d==Value.none)=true from QC)];show wpAny _ _ (wW (.ref d) >>= _) _ _ _;refine QA (QI (QA (wF hod hdd ?_)));rw[if_neg (show ¬ (((es.size:Nat):Int) != ((es.size:Nat):Int))=true by simp)];refine QA (QI (QA (WA hod hdd ?_)));rw[if_neg (show ¬ (((ep:Nat):Int) != ((ep:Nat):Int))=true by simp)];refine QI ?_;have h0:(if((i:Nat):Int)<0 then none else es[((i:Nat):Int).toNat]?)=none:=by
  rw[if_neg (by omega),wc];exact hx
 simp only[h0];refine QA ?_;show wpAny _ _ (typeNameOfWhole (.ref it) >>= _) _ _ _;refine QA (wA hT (QI ?_));rw[jCx];show wpAny _ _ (setField (.ref it) 0 .none >>= _) _ _ _;refine QA (qt hi hdi (by simp) ?_);refine QA (m:=newExc (.type "StopIteration") []) ?_;simp only[newExc,newTuple];refine QA (Qp ?made (by size_fits));refine QA (m:=firstArgMember _ _) (WP (a:=Value.none) (by first|rfl | (rw[firstArgMember];rfl)) ?arg);refine Qp ?made2 (by size_fits);simp only[raiseNew];refine QA (QAf ?_)
 first|rw[show A.in1.handled=none from ah]|rw[ah]
 refine QA (QI (QBJ ?_));refine QA (Wu (T:="StopIteration") (b:=true) ⟨_,QN _ rfl,rfl⟩ (by kernel_rfl) ?_);rw[if_pos rfl];exact QI (q _ (((qJ ..).extBut.push _).push _))
end
noncomputable def Itk(ep n:Nat)(a:Addr):It :=
  ⟨fun i H=>∃kvs p,H a=some (.dT ep kvs)/\kvs.length=n/\kvs[i]?=some p,
   fun i H v H'=>H'=H/\∀kvs,H a=some (.dT ep kvs)->∃p,kvs[i]?=some p/\v=.ref p.2.1,
   fun i H=>∃kvs,H a=some (.dT ep kvs)/\kvs.length=n/\n<=i⟩
theorem jKi{P:Program}{w:World}{K:QD}{tg:Expr}{a it:Addr}{n ep:Nat}:Turn P w K tg (Itk ep n a) [it] it (fun i h=>h.IsKeyIter it a i n ep) where
 mem:=by simp
 obj:=fun i h st b hb=>by
  obtain⟨o,e,c,d⟩:=st;rw[QJ]at hb;subst hb;exact⟨o,e,fun v z=>by rw[d]at z;cases z⟩
 keep:=fun i h h' st k=>st.at fun o e=>k it (by simp) o e
 item:=by
  intro X hP hw hK hc i pins s σ H E I hf st hg;subst hP hw hK;obtain⟨kvs,p,e,hn,ep⟩:=hg;obtain⟨z,y,xs,r,o,es',h1,h2,h3,h4,h5⟩:=(show jAk X.prog X.w H s.heap a (.dT _ kvs) from I.hok a _ e)
  have hsz:es'.size=n:=by
   have:=congrArg qz h4;rw[QG,QT]at this;rw[this,<- qS r,hn]
  obtain⟨q,hq,rq⟩:=jDU r ep;have he:es'[i]?=some (entryOfKey (tupleKind (jAh X.prog X.w)) q):=by
   have:es'.toList[i]?=some (entryOfKey (tupleKind (jAh X.prog X.w)) q):=by rw[h4,QY,hq];rfl
   simpa using this
  subst hsz;obtain⟨f0,f1,f2,f3,f4,f5⟩:=hf it (by simp);refine jQ2 st h1 h3 he fun h' st' sb=>?_;have I1:Inv X pins σ H { s with heap:=h' }:=I.turned (t':=s.toks) (fun b o hb e=>(sb.2 b hb).trans e) f0 f1 f3 f4 f5;obtain⟨oi,ei,ci,di⟩:=id st';exact⟨_,rfl,jML (s:={ s with heap:=h' }) ei ci di (by decide) ⟨.ref p.2.1,H,I1,show Value.ref q.2.1=Value.ref p.2.1 by rw[rq.2.1],⟨rfl,fun ks hk=>by rw[e]at hk;cases hk;exact⟨p,ep,rfl⟩⟩,st',fun b hb=>(hf b hb).1⟩⟩
 done:=by
  intro X hP hw hK hc i pins s σ H E I hf st hg;subst hP hw hK;obtain⟨kvs,e,hn,ep⟩:=hg;obtain⟨z,y,xs,r,o,es',h1,h2,h3,h4,h5⟩:=(show jAk X.prog X.w H s.heap a (.dT _ kvs) from I.hok a _ e)
  have hsz:es'.size=n:=by
   have:=congrArg qz h4;rw[QG,QT]at this;rw[this,<- qS r,hn]
  subst hsz;obtain⟨f0,f1,f2,f3,f4,f5⟩:=hf it (by simp);exact jHz (I.ok.hd hc) st h1 h3 (QAo ep) fun h' eb=>⟨rfl,I.turned (t':=s.toks) (fun b o hb e=>eb b o hb e) f0 f1 f3 f4 f5⟩
 self:=fun _ _ _ _ _ st h=>wpAny_pyIter_keyiter st h
open PySem.SeqAt
open AutoSeq1 (wpAny_loadPart')
open MeetsSeq MeetsSeq2 MeetsSeq3
noncomputable def ltL:List Str->List Str->Bool
 |[],[]=>false
 |[],_::_=>true
 |_::_,[]=>false
 |x::a,y::b=>if(x==y)=true then ltL a b else decide (x.cps.toList<y.cps.toList)
theorem jHm{vs:List Value}{ss:List Str}(h:StrsAre vs ss):vs.length=ss.length/\∀(i:Nat) (x:Str),ss[i]?=some x->∃t:Tok,vs[i]?=some (Value.str x t):=by
 induction h with
 |nil=>exact⟨rfl,fun i x e=>by simp at e⟩
 |cons y t _ ih =>
  refine⟨by rw[QL,QL,ih.1],fun i x e=>?_⟩;cases i with
  |zero=>simp at e;subst e;exact⟨t,rfl⟩
  |succ i=>simp at e;simpa using ih.2 i x e
theorem jLz(l b:Addr)(items items2:Array Value)(n n2:Nat)(dd dd2:Option Addr)(sl sl2:Array (Option Value))(ss ts:List Str)(h1:StrsAre items.toList ss)(h2:StrsAre items2.toList ts)(k:Nat) :
  ∀i:Nat,items.size - i=k->i<=items.size->i<=items2.size->Meets (Builtin.«list.__eq__.loop» ⟨[.ref l,.ref b,rawInt i,rawInt 0],[]⟩)
   (fun A R s=>s.heap.get? l=some { cls:=.type "list",dict:=dd,data:=.seq items n,slots:=sl }/\s.heap.get? b=some { cls:=.type "list",dict:=dd2,data:=.seq items2 n2,slots:=sl2 } /\
    R (.ok (.ret (.bool (ltL (ss.drop i) (ts.drop i))))) s):=by
 obtain⟨a1,a2⟩:=jHm h1;obtain⟨b1,b2⟩:=jHm h2;rw[QT]at a1 b1
 induction k with
 |zero =>
  intro i hk hi hi2 prog w A R s h;obtain⟨hp,g,d,tk,os⟩:=s;obtain⟨hl,hb,h⟩:=h;wp_walk using qF hl,qF hb
  have e1:items[((i:Nat):Int).toNat]?=none:=by simp;omega
  rw[e1];wp_walk using qF hl,qF hb
  have d1:ss.drop i=[]:=by simp;omega
  rw[d1]at h;have e2:ltL [] (ts.drop i)=decide (items.size<items2.size):=by
   cases z:ts.drop i with
   |nil =>
    have:ts.length<=i:=by simpa using z
    exact(dF (by omega)).symm
   |cons y r =>
    have:i<ts.length:=by
     by_cases c:i<ts.length
     ·exact c
     ·rw[Wc (by omega)]at z;cases z
    exact(dT (by omega)).symm
  rw[e2]at h;exact h
 |succ k ih =>
  intro i hk hi hi2 prog w A R s h;obtain⟨hp,g,d,tk,os⟩:=s;obtain⟨hl,hb,h⟩:=h;wp_walk using qF hl,qF hb
  have hlt:i<ss.length:=by omega
  obtain⟨t,ev⟩:=a2 i ss[i] (Qx hlt);have e1:items[((i:Nat):Int).toNat]?=some (.str ss[i] t):=by simpa using ev
  rw[e1];have d1:ss.drop i=ss[i]::ss.drop (i+1):=WK hlt;rw[d1]at h;by_cases c:i<ts.length
  ·obtain⟨u,eu⟩:=b2 i ts[i] (Qx c)
   have e2:items2[((i:Nat):Int).toNat]?=some (.str ts[i] u):=by simpa using eu
   have d2:ts.drop i=ts[i]::ts.drop (i+1):=WK c;rw[d2]at h;have h:R (.ok (.ret (.bool (if(ss[i]==ts[i])=true then ltL (ss.drop (i+1)) (ts.drop (i+1)) else decide (ss[i].cps.toList<ts[i].cps.toList))))) _:=h;rw[e2];refine QA (EqAt.str_str ss[i] t ts[i] u prog w _ _ ?_);have hc:((i:Int)+1)=((i+1:Nat):Int):=by push_cast;rfl
   cases q:(ss[i]==ts[i]) with
   |true =>
    rw[q,if_pos rfl]at h;wp_walk;rw[hc];exact⟨WW plain_eq_loop _,wL entry_eq_loop (by
     rw[qh plain_eq_loop _];exact ih (i+1) (by omega) (by omega) (by omega) prog w A R _ ⟨hl,hb,h⟩)⟩
   |false =>
    rw[q,if_neg QC]at h;wp_walk using qF hl,qF hb
    rw[e1,e2];show wpAny _ _ (compareOp .Lt (.str ss[i] t) (.str ts[i] u) >>= _) _ _ _;refine QA (PySem.P.lt_str ?_);exact QI h
  ·have e2:items2[((i:Nat):Int).toNat]?=none:=by simp;omega
   rw[e2];wp_walk using qF hl,qF hb
   rw[Wc (show ts.length<=i by omega)]at h;have:decide (items.size<items2.size)=false:=dF (by omega);have h:R (.ok (.ret (.bool false))) _:=h;rw[<- this]at h;exact h
theorem jL4(l b:Addr)(items items2:Array Value)(n n2:Nat)(dd dd2:Option Addr)(sl sl2:Array (Option Value))(ss ts:List Str)(h1:StrsAre items.toList ss)(h2:StrsAre items2.toList ts) :
  Meets (Builtin.«list.__lt__» ⟨[.ref l,.ref b],[]⟩)
   (fun A R s=>s.heap.get? l=some { cls:=.type "list",dict:=dd,data:=.seq items n,slots:=sl }/\s.heap.get? b=some { cls:=.type "list",dict:=dd2,data:=.seq items2 n2,slots:=sl2 } /\
    R (.ok (.ret (.bool (ltL ss ts)))) s):=by
 intro prog w A R s h;obtain⟨hp,g,d,tk,os⟩:=s;obtain⟨hl,hb,h⟩:=h;have f3:=AutoSeq1.sub_list_list;wp_walk using qF hl,qF hb
 exact⟨WW plain_eq_loop _,wL entry_eq_loop (by
  rw[qh plain_eq_loop _];exact jLz l b items items2 n n2 dd dd2 sl sl2 ss ts h1 h2 _ 0 rfl (qG _) (qG _) prog w A R _ ⟨hl,hb,h⟩)⟩
section
variable{prog:Program}{w:World}{A:Around}{E:VSP}{s:Shared}
theorem jJ8{l b:Addr}{items items2:Array Value}{n n2:Nat}{dd dd2:Option Addr}{sl sl2:Array (Option Value)}{ss ts:List Str}{Q:Bool->Shared->Prop}(hu:A.units<cLine)(hl:s.heap.get? l=some { cls:=.type "list",dict:=dd,data:=.seq items n,slots:=sl })(hb:s.heap.get? b=some { cls:=.type "list",dict:=dd2,data:=.seq items2 n2,slots:=sl2 })
  (h1:StrsAre items.toList ss) (h2:StrsAre items2.toList ts) (h:Q (ltL ss ts) s):wpAny (model prog w) A (keyLt' oneType' (.ref l) (.ref b)) Q E s:=by
 rw[keyLt'_oneType,oneLt'_eq];simp only[if_true];refine QA (wpAny_cRoomFor hu (QA (wpAny_callSpecialIfBound?_slot (T:="list") ⟨_,hl,rfl⟩ F.slot_list_lt ?_)));refine QA2 F.slot_list_lt ⟨_,hl,rfl⟩ F.entry_list_lt (F.args_list_lt_2 _ _) (jL4 l b items items2 n n2 dd dd2 sl sl2 ss ts h1 h2) ⟨hl,hb,?_⟩;exact wD h
end
end L2.L3
namespace L2.L3
open PySem PySem.Spec PyProof.Rows PySem.W
noncomputable def jD7{α:Type}(n:Nat)(P:α->Prop):KasT α->Prop
 | .ret a=>P a
 | .ask i j k=>i<n/\j<n/\∀b,jD7 n P (k b)
theorem jD7.bnd{α β:Type}{n:Nat}{P:α->Prop}{R:β->Prop}{f:α->KasT β}(hf:∀a,P a->jD7 n R (f a)):∀{t:KasT α},jD7 n P t->jD7 n R (t.bind f)
 | .ret a,h=>hf a h
 | .ask i j k,⟨h1,h2,h⟩=>⟨h1,h2,fun b=>jD7.bnd hf (h b)⟩
theorem jD7.wp{α:Type}{n:Nat}{P:α->Prop}{cmp:Nat->Nat->(Bool->Shared->Prop)->Shared->Prop}{Q:α->Shared->Prop}{s:Shared}(ask:∀i j,i<n->j<n->∀C:Bool->Shared->Prop,(∀b,C b s)->cmp i j C s)(hQ:∀a,P a->Q a s):∀{t:KasT α},jD7 n P t->t.kasWp cmp Q s
 | .ret a,h=>hQ a h
 | .ask i j k,⟨h1,h2,h⟩=>ask i j h1 h2 _ fun b=>jD7.wp ask hQ (h b)
def Pm(n:Nat)(p:Array Nat):Prop:=p.Perm (QAy (qE n))
section
variable{n:Nat}
theorem Pm.lt{p:Array Nat}(h:Pm n p)(h0:0<n)(i:Nat):p.getD i 0<n:=by
 by_cases c:i<p.size
 ·have e:p.getD i 0=p[i]:=by simp[Array.getD,c]
  rw[e];have m:p[i]∈p.toList:=by simp
  have:=(QAB.mp h).mem_iff.mp m;simpa using this
 ·have e:p.getD i 0=0:=by simp[Array.getD,c]
  rw[e];exact h0
theorem Pm.rev{p:Array Nat}(h:Pm n p)(i j:Nat):Pm n (kas_rev p i j):=(mirror_perm _ _ _ _).trans h
theorem jIa{p:Array Nat}(h:Pm n p)(h0:0<n):∀(f m:Nat),jD7 n (fun _=>True) (kas_asc p f m)
 |0,m=>trivial
 |f+1,m=>⟨h.lt h0 _,h.lt h0 _,fun b=>by
  cases b with
  |true=>exact trivial
  |false=>exact jIa h h0 f (m+1)⟩
theorem jEJ(h0:0<n):∀(f:Nat) {p:Array Nat}(h:Pm n p) (m q:Nat),jD7 n (fun r=>Pm n r.1) (kas_desc f p m q)
 |0,p,h,m,q=>h
 |f+1,p,h,m,q=>⟨h.lt h0 _,h.lt h0 _,fun b=>by
  cases b with
  |true =>
   show jD7 n _ (if q > 0 then _ else _);split
   ·exact jEJ h0 f (h.rev _ _) _ _
   ·exact jEJ h0 f h _ _
  |false =>
   refine⟨h.lt h0 _,h.lt h0 _,fun b=>?_⟩;cases b with
   |true=>exact h
   |false=>exact jEJ h0 f h _ _⟩
theorem jHa(h0:0<n){p:Array Nat}(h:Pm n p)(a b:Nat):jD7 n (fun r=>Pm n r.2) (kas_tail3 a b p):=by
 refine jD7.bnd (f:=fun m=>.ret (m,kas_rev p 0 a)) (fun m _=>?_) (jIa (h.rev _ _) h0 _ _);exact h.rev _ _
theorem jD0(h0:0<n){p:Array Nat}(h:Pm n p)(a b:Nat):jD7 n (fun r=>Pm n r.2) (kas_descPart a b p):=by
 refine jD7.bnd (fun r hr=>?_) (jEJ h0 _ h _ _);split
 ·exact jHa h0 (Pm.rev hr _ _) _ _
 ·exact jHa h0 hr _ _
theorem jMs(h0:0<n){p:Array Nat}(h:Pm n p)(b:Nat):jD7 n (fun r=>Pm n r.2) (kas_count b p):=by
 refine jD7.bnd (fun m _=>?_) (jIa h h0 _ _);split
 ·exact h
 ·split
  ·refine⟨h.lt h0 _,h.lt h0 _,fun c=>?_⟩
   cases c with
   |true=>exact h
   |false=>exact jD0 h0 (h.rev _ _) _ _
  ·exact jD0 h0 h _ _
theorem jE8(h0:0<n){p:Array Nat}(h:Pm n p)(k:Nat):∀(f l r:Nat),jD7 n (fun _=>True) (kas_place p k f l r)
 |0,l,r=>trivial
 |f+1,l,r=>by
  show jD7 n _ (if l ≥ r then _ else _);split
  ·exact trivial
  ·refine⟨h.lt h0 _,h.lt h0 _,fun b=>?_⟩
   cases b with
   |true=>exact jE8 h0 h k f _ _
   |false=>exact jE8 h0 h k f _ _
theorem jMt(h0:0<n):∀(f:Nat) {p:Array Nat}(h:Pm n p) (k:Nat),jD7 n (Pm n) (kas_bin f p k)
 |0,p,h,k=>h
 |f+1,p,h,k=>jD7.bnd (fun l _=>jMt h0 f ((bubble_perm _ _ _).trans h) _) (jE8 h0 h _ _ _ _)
theorem jOa(h0:0<n):jD7 n (Pm n) (kas_sort n):=by
 refine jD7.bnd (fun r hr=>?_) (jMs h0 (Array.Perm.refl _) _);split
 ·exact jMt h0 _ hr _
 ·exact hr
end
theorem jLB{α:Type}(vs:List α)(d:α):(qE vs.length).map (fun i=>vs.getD i d)=vs:=by
 apply we;intro i;rw[QY];by_cases c:i<vs.length
 ·rw[QBK c]
  simp[c]
 ·rw[qH (by simp;omega),qH (by omega)]
  rfl
section
variable{prog:Program}{w:World}{A:Around}{E:VSP}{s:Shared}
theorem jWe{M:Model}{vs:List Value}{Q:SortKind->Shared->Prop}(h2:2<=vs.length)(hT:∀v∈vs,s.TypeIs v "list")(h:Q oneType' s):wpAny M A (keyKind' vs.toArray) Q E s:=by
 cases vs with
 |nil=>simp at h2
 |cons v r =>
  rw[keyKind'_eq,QBh,map_eq_pure_bind];refine QA (QA (kas_mapM (r:=none) _ (fun u hu Q' q=>?_) (QI ?_)))
  ·rw[kas_first_eq]
   exact QA (QAH (hT u hu) (QI q))
  ·rw[if_neg (by simp),if_neg (by simp),oneTypeOnly'_eq,QBh,map_eq_pure_bind]
   refine QA (QA (QA (kas_mapM (r:=.type "list") _ (fun u hu Q' q=>QAH (hT u hu) q) (QI ?_))));have e0:((v::r).map fun _=>Value.type "list").toArray[0]?=some (.type "list"):=by simp
   have e1:(((v::r).map fun _=>Value.type "list").toArray.all fun x=>x==Value.type "list")=true:=by
    simp only[List.all_toArray,QBt,qM];intro _ _
    rfl
   rw[e0];simp only[e1,if_true];exact QI (QI h)
theorem jTd{a:Addr}{vs:List Value}{n:Nat}{P:QCJ->Shared->Prop}(ho:s.heap.get? a=some (seqObj "list" vs.toArray n))(h64:vs.length<64)(hT:∀v∈vs,∃b o,v=.ref b/\b≠a/\s.heap.get? b=some o/\o.cls=.type "list")
  (ask:∀h3:Heap,(∀b o,b≠a->s.heap.get? b=some o->h3.get? b=some o)->∀x∈vs,∀y∈vs,∀C:Bool->Shared->Prop,(∀k,C k { s with heap:=h3 })->wpAny (model prog w) A (keyLt' oneType' x y) C (fun _ _=>False) { s with heap:=h3 })
  (k:∀out:List Value,out.Perm vs->P (.done (.ret .none)) { s with heap:=sortedHeap s.heap a vs out.toArray }):wpAny (model prog w) A (Builtin.«list.sort» ⟨[.ref a],[]⟩) P E s:=by
 have hz:sizeLine=16777216:=QW;have ha:a<s.heap.objs.size:=QO ho;have s1:=qJ s.heap a (qI fun _=>(#[]:Array Value));obtain⟨e1,ho1⟩:∃e1,(s.heap.update a (qI fun _=>(#[]:Array Value))).get? a=some (seqObj "list" #[] e1):=⟨_,get?_update_seq ho fun _=>#[]⟩
 have ho6:(((s.heap.update a (qI fun _=>(#[]:Array Value))).push (seqObj "tuple" vs.toArray 0)).push (seqObj "list" #[] 0)).get? a=some (seqObj "list" #[] e1):=QH _ (QH _ ho1);have kept:∀b o,b≠a->s.heap.get? b=some o->(((s.heap.update a (qI fun _=>(#[]:Array Value))).push (seqObj "tuple" vs.toArray 0)).push (seqObj "list" #[] 0)).get? b=some o:=fun b o hb e=>QH _ (QH _ ((s1.2 b hb).trans e));rw[list_sort_plain];refine QA (listItems_at ho rfl (QA (listUpdate_at ho rfl ?_ (by rw[QS];omega) (qG _))));refine QA (seqEpoch_at ho1 rfl (QA (QBD ?_ (by show vs.length<=_;omega))));refine QA (QBY (qT ?_) (qG _));show wpAny (model prog w) A _ P E { s with heap:=((s.heap.update a (qI fun _=>(#[]:Array Value))).push (seqObj "tuple" vs.toArray 0)).push (seqObj "list" #[] 0) };dsimp only;have fin:∀out:List Value,out.Perm vs->wpAny (model prog w) A (do
   let touched:=(<- seqEpoch a) != e1
   Builtin.List.listUpdate (.ref a) fun _=>out.toArray
   if touched then rule "list.sort.modified";raiseError "ValueError" "list modified during sort"
   ret .none) P E { s with heap:=((s.heap.update a (qI fun _=>(#[]:Array Value))).push (seqObj "tuple" vs.toArray 0)).push (seqObj "list" #[] 0) }:=fun out hp=>by
  have hl:=hp.length_eq;refine QA (seqEpoch_at ho6 rfl (QA (listUpdate_at ho6 rfl ?_ (qG _) (by rw[QS];omega))));simp only[bne_self_eq_false,qO,if_false];exact QI (k out hp)
 by_cases h2:vs.length<2
 ·have h2':vs.toArray.size<2:=by rw[QS];exact h2
  rw[if_pos h2',if_pos h2'];refine QA (QI ?_);rw[StateT.run_pure];refine QA (QI ?_);have e:(arrOf (QBi general' (vs.toArray.zip vs.toArray) #[] 7 none)).map (·.2)=vs.toArray:=by
   show(vs.toArray.zip vs.toArray).map (·.2)=_;apply Wq.mp;simp[Wr]
  dsimp only;rw[e];exact fin vs (wv _)
 ·have h2':¬ vs.toArray.size<2:=by rw[QS];exact h2
  rw[if_neg h2',if_neg h2'];refine QA (jWe (by omega) (fun v hv=>?_) ?_)
  ·obtain⟨b,o,rfl,hb,e,c⟩:=hT v hv
   exact⟨o,kept b o hb e,c⟩
  ·have est:QBi oneType' (vs.toArray.zip vs.toArray) #[] 7 none=kas_st oneType' (pairsOf vs) (QAy (qE vs.length)):=by
    have e:=kas_range (pairsOf vs);rw[pairsOf_size]at e;show QBi oneType' (pairsOf vs) #[] 7 none=QBi oneType' ((QAy (qE vs.length)).map (kas_item (pairsOf vs))) #[] 7 none;rw[e]
   have all:=jOa (n:=vs.length) (by omega);have tree:(kas_sort vs.length).kasWp (kas_cmp prog w A oneType' (pairsOf vs)) (fun p s'=>s'={ s with heap:=((s.heap.update a (qI fun _=>(#[]:Array Value))).push (seqObj "tuple" vs.toArray 0)).push (seqObj "list" #[] 0) }/\Pm vs.length p) { s with heap:=((s.heap.update a (qI fun _=>(#[]:Array Value))).push (seqObj "tuple" vs.toArray 0)).push (seqObj "list" #[] 0) }:=by
    rw[<- kas_ask_eq];refine jD7.wp (fun i j hi hj C hC=>?_) (fun p hp=>⟨rfl,hp⟩) all;have gi:vs.getD i Value.none∈vs:=by
     have:vs.getD i Value.none=vs[i]:=by simp[hi]
     rw[this];exact Ws _
    have gj:vs.getD j Value.none∈vs:=by
     have:vs.getD j Value.none=vs[j]:=by simp[hj]
     rw[this];exact Ws _
    exact ask _ kept _ gi _ gj C hC
   have run:=kas_runs (prog:=prog) (w:=w) (A:=A) (E:=E) (Q:=fun _ st' s'=>∃p:Array Nat,p.size=vs.length/\arrOf st'=p.map (kas_item (pairsOf vs))/\failedOf st'=none/\s'={ s with heap:=((s.heap.update a (qI fun _=>(#[]:Array Value))).push (seqObj "tuple" vs.toArray 0)).push (seqObj "list" #[] 0) }/\Pm vs.length p)
    (by omega) h64 (fun p' st' s' a1 a2 a3 a4=>⟨p',a1,a2,a3,a4⟩) tree
   rw[<- est]at run;refine QA (wO run ?_ fun _ _ e=>e);rintro⟨⟨⟩,st'⟩ s' ⟨p,hp,har,hf,rfl,pm⟩;dsimp only;have hout:(arrOf st').map (·.2)=QAy (p.toList.map fun i=>vs.getD i Value.none):=by
    apply Wq.mp;rw[har,Array.map_map,Array.toList_map];exact WQ fun i _=>by show(kas_item (pairsOf vs) i).2=_;rw[kas_item_eq]
   rw[hout,hf];refine fin _ ?_;have:=(QAB.mp pm).map fun i=>vs.getD i Value.none;refine this.trans ?_;show((qE vs.length).map fun i=>vs.getD i Value.none).Perm vs;rw[jLB]
theorem jP7{l:Addr}{vs:List Value}{Q:VSP}(hl:s.heap.IsList l vs.toArray)(h64:vs.length<64)(hT:∀v∈vs,∃b o,v=.ref b/\s.heap.get? b=some o/\o.cls=.type "list")
  (ask:∀h3:Heap,(∀b o,s.heap.get? b=some o->h3.get? b=some o)->∀x∈vs,∀y∈vs,∀C:Bool->Shared->Prop,(∀k,C k { s with heap:=h3 })->wpAny (model prog w) A.in1.in1 (keyLt' oneType' x y) C (fun _ _=>False) { s with heap:=h3 })
  (k:∀out:List Value,out.Perm vs->Q (.ref (s.heap.objs.size+1)) { s with heap:=sortedAll s.heap vs out.toArray }):wpAny (model prog w) A (call (.builtin "sorted") [.ref l]) Q E s:=by
 have hz:sizeLine=16777216:=QW;refine QAO kind_sorted plain_sorted entry_sorted (args_sorted1 _) ?_;unfold Builtin.«sorted»;refine QA (m:=checkCount "sorted" 1 1 _) (QI (QA (collect_list hl ?_ (by omega))));refine QA (QBY ?_ (by show vs.length<=_;omega));have hsz:((s.heap.push (seqObj "list" #[] 0)).update s.heap.objs.size (qI (·++vs.toArray))).objs.size=s.heap.objs.size+1:=by rw[Heap.size_update,size_push']
 have hoL:(((s.heap.push (seqObj "list" #[] 0)).update s.heap.objs.size (qI (·++vs.toArray))).push (seqObj "list" vs.toArray 0)).get? (s.heap.objs.size+1)=some (seqObj "list" vs.toArray 0):=by rw[<- hsz];exact QN _ rfl
 have old:∀b o,s.heap.get? b=some o->(((s.heap.push (seqObj "list" #[] 0)).update s.heap.objs.size (qI (·++vs.toArray))).push (seqObj "list" vs.toArray 0)).get? b=some o:=fun b o q=>by
  have hlt:b<s.heap.objs.size:=QO q;refine QH _ ?_;rw[Heap.get?_update_ne _ _ _ _ (Qc hlt)];exact QH _ q
 show wpAny _ _ _ _ _ { s with heap:=((s.heap.push (seqObj "list" #[] 0)).update s.heap.objs.size (qI (·++vs.toArray))).push (seqObj "list" vs.toArray 0) };rw[hsz];refine QA (qT (Q0 slot_list_sort ⟨_,hoL,rfl⟩ entry_list_sort ?body (args_list_sort _)))
 case body =>
  refine jTd (s:={ s with heap:=((s.heap.push (seqObj "list" #[] 0)).update s.heap.objs.size (qI (·++vs.toArray))).push (seqObj "list" vs.toArray 0) }) hoL h64 (fun v hv=>?_) (fun h3 kp x hx y hy C hC=>?_) fun out hp=>⟨_,rfl,QI ⟨_,rfl,k out hp⟩⟩
  ·obtain⟨b,o,e,q,c⟩:=hT v hv
   have hlt:b<s.heap.objs.size:=QO q;exact⟨b,o,e,Qc (qb hlt),old b o q,c⟩
  ·refine ask h3 (fun b o q=>?_) x hx y hy C hC
   have hlt:b<s.heap.objs.size:=QO q;exact kp b o (Qc (qb hlt)) (old b o q)
end
theorem jUC{prog:Program}{w:World}{A:Around}(ah:A.handled=none)(j:Addr)(z:Src)(ne:z.adr≠j)(items:Array Value)(c:Nat) :
  Draws prog w A j [j,z.adr] (c+items.size) (fun i v=>∃k,i=c+k/\items[k]?=some v) (fun i h=>∃k,i=c+k/\jDE h j z k/\jA9 h z items) where
 live:=fun _ _ ⟨_,_,p,_⟩=>let⟨o,e,_⟩:=p.obj;⟨o,e⟩
 frame:=fun _ h h' ⟨k,e,p,q⟩ kp=>⟨k,e,p.keep fun o x=>kp j (by simp) o x,by
  cases z with
  |l a=>exact QB7.at q fun o x=>kp a (by simp[Src.adr]) o x
  |t a=>obtain⟨o,g1,g2⟩:=q;exact⟨o,kp a (by simp[Src.adr]) o g1,g2⟩⟩
 item:=fun i s Q E hi ⟨k,e,p,q⟩ hQ=>by
  have hk:k<items.size:=by omega
  exact jQ3 p q (x:=items[k]) (by simp[hk]) fun h' p' sb=>hQ _ h' s.toks ⟨k,e,by simp[hk]⟩ ⟨k+1,by omega,p',jSd q sb ne⟩ sb
 done:=fun s Q E ⟨k,e,p,q⟩ hE=>by
  have hk:k=items.size:=by omega
  exact jPG ah p q (by simp[hk]) hE
theorem jUD{prog:Program}{w:World}{A:Around}(ah:A.handled=none)(j:Addr)(z:Src)(items:Array Value)(n k:Nat)(hx:items[k]?=none) :
  Draws prog w A j [j,z.adr] n (fun _ _=>False) (fun i h=>i=n/\jDE h j z k/\jA9 h z items) where
 live:=fun _ _ ⟨_,p,_⟩=>let⟨o,e,_⟩:=p.obj;⟨o,e⟩
 frame:=fun _ h h' ⟨e,p,q⟩ kp=>⟨e,p.keep fun o x=>kp j (by simp) o x,by
  cases z with
  |l a=>exact QB7.at q fun o x=>kp a (by simp[Src.adr]) o x
  |t a=>obtain⟨o,g1,g2⟩:=q;exact⟨o,kp a (by simp[Src.adr]) o g1,g2⟩⟩
 item:=fun i s Q E hi ⟨e,_,_⟩ hQ=>absurd hi (by omega)
 done:=fun s Q E ⟨_,p,q⟩ hE=>jPG ah p q hx hE
noncomputable def Ite(K:QD)(z:Src)(c:Nat):It :=
  ⟨fun i H=>∃xs x,SqS K H z xs/\xs[i]?=some x,
   fun i H v H'=>∃p x,H p=none/\v=.ref p/\H'=upd H p (.tup [.int ((c+i:Nat):Int),x])/\∀xs,SqS K H z xs->xs[i]?=some x,
   fun i H=>∃xs,SqS K H z xs/\xs.length<=i⟩
def jMy(e j:Addr)(z:Src)(c i:Nat)(h:Heap):Prop:=(∃old,IsEnum h e j ((c+i:Nat):Int) old)/\jDE h j z i
theorem jKj{P:Program}{w:World}{K:QD}{es:List Expr}{kk:Nat}{pp:Pos}{e j:Addr}{z:Src}{c:Nat}(n1:e≠j)(n2:z.adr≠e)(n3:z.adr≠j) :
  Turn P w K (.Tuple es kk pp) (Ite K z c) [e,j] e (jMy e j z c) where
 mem:=by simp
 obj:=fun i h st b hb=>by
  obtain⟨⟨old,a1⟩,a2⟩:=st;simp only[QK,Q4,or_false]at hb;rcases hb with rfl|rfl
  ·exact⟨_,a1,fun v q=>by cases(show Data.fields _=Data.cell v from q)⟩
  ·exact a2.obj
 keep:=fun i h h' st k=>by
  obtain⟨⟨old,a1⟩,a2⟩:=st;exact⟨⟨old,k e (by simp) _ a1⟩,a2.keep fun o x=>k j (by simp) o x⟩
 item:=by
  intro X hP hw hK hc i pins s σ H E I hf st hg;subst hP hw hK;obtain⟨xs,x,h1,ex⟩:=hg;obtain⟨its,rv,sh,_⟩:=I.src h1;obtain⟨u,hu,ru⟩:=rv.get ex;obtain⟨⟨old,a1⟩,a2⟩:=st;have hi:i<its.toArray.size:=by
   have:=(Qa.mp hu).1;simpa using this
  refine wpAny_pyNext_enum_itemD (jUC (show X.A.in1.handled=none from I.ok.hd hc) j z n3 its.toArray c) a1 ⟨i,rfl,a2,sh⟩ (by omega) n1 (by simp[n1,Q2 n2]) fun y h' tk ⟨k,ek,hy⟩ b1 b2 b3 b4 b5=>?_;have ek:k=i:=by omega
  subst ek;have ey:y=u:=by
   have:its.toArray[k]?=some u:=by simpa using hu
   rw[this]at hy;exact(Q9 hy).symm
  subst ey;refine⟨_,rfl,wpAny_letOwnedTupleGo_enum b1 fun h'' c1 sb=>?_⟩;obtain⟨k2,ek2,b2,b2'⟩:=b2;have ek2:k2=k+1:=by omega
  subst ek2;have hp:=I.hok.fresh (QU s.heap.objs.size);have elt:e<s.heap.objs.size:=QO a1;have old':∀b∈[e,j],b<s.heap.objs.size:=fun b hb=>by
   simp only[QK,Q4,or_false]at hb;rcases hb with rfl|rfl
   ·exact elt
   ·exact a2.lt
  have kept:∀b o,b∉[e,j]->s.heap.get? b=some o->h''.get? b=some o:=fun b o hb q=>by
   simp only[QK,Q4,or_false,not_or]at hb;exact(sb.2 b hb.1).trans (b5 b o hb.1 hb.2 q)
  have pairAt:h''.get? s.heap.objs.size=some { cls:=.type "tuple",data:=.seq #[.int ((c+k:Nat):Int) tk,y] }:=(sb.2 _ (wP elt)).trans b3;have I1:=I.pair (x:=.int ((c+k:Nat):Int)) (h':=s.heap.push { cls:=.type "tuple",data:=.seq #[.int ((c+k:Nat):Int) tk,y] }) (t':=tk+1) (fun b o e=>QH _ e) (QU _) (QN _ rfl) ⟨_,rfl⟩ ru;have I2:=I1.turnedL (h':=h'') (t':=tk+1) (ch:=[e,j]) (fun b o hb e=>by
   rcases QA5 e with⟨q1,q2⟩| q
   ·subst q1 q2;exact pairAt
   ·exact kept b o hb q) fun b hb=>by
    obtain⟨f0,f1,f2,f3,f4,f5⟩:=hf b hb;exact⟨by rw[jAD (Qc (old' b hb))];exact f0,f1,f2,f3,f4,f5⟩
  refine⟨.ref s.heap.objs.size,_,I2,rfl,⟨s.heap.objs.size,x,hp,rfl,rfl,fun xs' g1=>?_⟩,⟨⟨y,?_⟩,b2.keep fun o q=>(sb.2 _ (Q2 n1)).trans q⟩,fun b hb=>?_⟩
  ·rw[I.src_inj g1 h1];exact ex
  ·have:(((c+(k+1):Nat)):Int)=((c+k:Nat):Int)+1:=by omega
   rw[this];exact c1
  ·rw[jAD (Qc (old' b hb))];exact(hf b hb).1
 done:=by
  intro X hP hw hK hc i pins s σ H E I hf st hg;subst hP hw hK;obtain⟨xs,h1,en⟩:=hg;obtain⟨its,rv,sh,_⟩:=I.src h1;obtain⟨⟨old,a1⟩,a2⟩:=st;have l1:=rv.length;obtain⟨f0,f1,f2,f3,f4,f5⟩:=hf j (by simp);exact wpAny_pyNext_enum_endD (jUD (show X.A.in1.handled=none from I.ok.hd hc) j z its.toArray 0 i (by simp;omega)) a1 ⟨rfl,a2,sh⟩ fun h' eb=>⟨rfl,I.turned (t':=s.toks) (fun b o hb e=>eb b o hb e) f0 f1 f3 f4 f5⟩
 self:=fun _ _ _ _ _ st h=>by
  obtain⟨⟨old,a1⟩,_⟩:=st;exact QBj a1 h
section
variable{prog:Program}{w:World}{A:Around}{E:VSP}{s:Shared}
end
theorem jMX(z:Src)(xs:Array Value):Meets (Builtin.«enumerate.__new__» ⟨[.type "enumerate",.ref z.adr],[]⟩) (fun _ R s=>jA9 s.heap z xs /\
   R (.ok (.ret (.ref (s.heap.push z.it).objs.size))) { s with heap:=(s.heap.push z.it).push { cls:=.type "enumerate",data:=.fields #[.none,.bool false,.ref s.heap.objs.size,rawInt 0,.none,.none] } }) :=
 .of_wp fun prog w A R s h=>by
  obtain⟨hp,g,d,tk,os⟩:=s;obtain⟨q1,h⟩:=h;have hsub:=sub_enumerate;have hL1:jA9 (Shared.heap ⟨hp,g,d,tk,os⟩) z xs:=q1;wp_walk;refine wpAny_stack_any fun st=>QI ?_;split
  ·rename_i cl _ _ _ _ _
   cases(cl==Value.type "enumerate")<;>(wp_walk using jIn hL1;exact⟨_,rfl,h⟩)
  ·wp_walk using jIn hL1
   exact⟨_,rfl,h⟩
section
variable{prog:Program}{w:World}{A:Around}{E:VSP}{s:Shared}
end
section
variable{prog:Program}{w:World}{A:Around}{E:VSP}{s:Shared}
theorem jMW{h:Heap}{z:Src}{n:Int}:IsEnum ((h.push z.it).push { cls:=.type "enumerate",data:=.fields #[.none,.bool false,.ref h.objs.size,rawInt n,.none,.none] }) (h.objs.size+1) h.objs.size n .none:=by
 have:=QN (h.push z.it) (o:={ cls:=.type "enumerate",data:=.fields #[.none,.bool false,.ref h.objs.size,rawInt n,.none,.none] }) rfl;rw[wV]at this;exact this
theorem jKQ{z:Src}{xs:Array Value}{Q:VSP}(q1:jA9 s.heap z xs)
  (h:∀h',jMy (s.heap.objs.size+1) s.heap.objs.size z 0 0 h'->(∀c o,s.heap.get? c=some o->h'.get? c=some o)->Q (.ref (s.heap.objs.size+1)) { s with heap:=h' }):wpAny (model prog w) A (call (.type "enumerate") [.ref z.adr]) Q E s:=by
 refine callType_new PySem.F.called_enumerate (by decide) (PySem.F.typeCall_enumerate_1 _) (PySem.F.newCall_enumerate_1 _) (fun obj=>PySem.F.args_object_init_2 obj _) PySem.F.entry_enumerate_new (jMX z xs) ⟨q1,?_⟩;show _/\_;rw[wV];exact⟨⟨_,jMW,rfl⟩,h _ ⟨⟨.none,jMW⟩,(jP6 s.heap z).keep fun o e=>QH _ e⟩ fun c o x=>QH _ (QH _ x)⟩
end
theorem nne{a b:Nat}(h:a≠b):((a:Addr)≠(b:Addr)):=h
noncomputable def sOf:Value->Str
 | .str z _=>z
 |_=>⟨#[]⟩
def jJm(pg:Program)(wd:World)(h:Heap)(a:Addr)(b:Bool)(zs:List Str):Prop :=
 ∃es ep t,h.get? a=some { cls:=.type "set",dict:=none,data:=.set es ep t,slots:=#[] }/\ElemsOf (strKind pg wd) es.toList/\es.toList.map (fun e=>sOf e.2)=zs/\zs.Nodup/\t.fits es.size=true/\t.led=b/\(es.size=0∨t.plain=false)
theorem jJm.at{pg:Program}{wd:World}{h h':Heap}{a:Addr}{b:Bool}{zs:List Str}(x:jJm pg wd h a b zs)(k:∀o,h.get? a=some o->h'.get? a=some o):jJm pg wd h' a b zs:=by
 obtain⟨es,ep,t,e,r⟩:=x;exact⟨es,ep,t,k _ e,r⟩
theorem jRO(t:SetTable)(es:Array (Int×Value))(h:Int)(x:Value):(layNew t es h x).2.1.led=t.led:=by
 unfold layNew;cases t.freeSlot h with
 |none=>rfl
 |some p =>
  show(QBZ _ _).led=_;unfold QBZ;split<;>rfl
theorem jN5{m f v:Nat}{l p:Bool}{hs:Array Int}{t:SetTable}{o:Array Nat}(e:SetTable.laid m f v l p hs=some (t,o)):t.led=l/\t.plain=p:=by
 unfold SetTable.laid at e;cases c:SetTable.layClean m hs with
 |none=>rw[c]at e;cases e
 |some w=>rw[c]at e;cases e;exact⟨rfl,rfl⟩
theorem jK9(t:SetTable)(es:Array (Int×Value))(n:Nat)(hp:t.plain=false):(relayAll t es n).2.1.led=t.led/\(relayAll t es n).2.1.plain=false:=by
 unfold relayAll;split
 ·rename_i t' o e
  have:=jN5 e;show(if _ then _ else _:Array (Int×Value)×SetTable×Bool).2.1.led=_/\(if _ then _ else _:Array (Int×Value)×SetTable×Bool).2.1.plain=_;split
  ·exact⟨this.1,this.2.trans hp⟩
  ·exact⟨rfl,rfl⟩
 ·exact⟨rfl,rfl⟩
section
variable{pg:Program}{wd:World}{Ar:Around}{Er:VSP}{sh:Shared}
theorem jPU{es:List (Int×Value)}(el:ElemsOf (strKind pg wd) es){e:Int×Value}(he:e∈es):∃t,e.2=.str (sOf e.2) t:=by
 obtain⟨⟨k,hk,_⟩,_⟩:=el e he;obtain⟨t,ht⟩:=QBF hk;exact⟨t,by rw[ht];rfl⟩
theorem jT9{es:List (Int×Value)}(el:ElemsOf (strKind pg wd) es){e:Int×Value}(he:e∈es)(z:Str):(strKind pg wd).is z e.2=true↔sOf e.2=z:=by
 obtain⟨t,ht⟩:=jPU el he;rw[ht];generalize sOf e.2=y;show(y==z)=true↔y=z;exact beq_iff_eq
theorem jMZ{es:Array (Int×Value)}{zs:List Str}(el:ElemsOf (strKind pg wd) es.toList)(ez:es.toList.map (fun e=>sOf e.2)=zs){z:Str}:(es.toList.findIdx? (fun e=>(strKind pg wd).is z e.2)=none)↔z∉zs:=by
 rw[List.findIdx?_eq_none_iff,<- ez,Qg];constructor
 ·rintro h ⟨e,he,rfl⟩
  have:=h e he;rw[(jT9 el he _).mpr rfl]at this;cases this
 ·intro h e he
  cases c:(strKind pg wd).is z e.2 with
  |false=>rfl
  |true=>exact(h ⟨e,he,(jT9 el he z).mp c⟩).elim
theorem jMM{b:Bool}{Q:Unit->Shared->Prop}(h:Q () sh):wpAny (model pg wd) Ar (match b with|true=>rule "set.scan.the-table-gave-way"|false=>pure ()) Q Er sh:=by
 cases b with
 |false=>exact QI h
 |true=>exact QAV h
theorem jMK{h:Heap}{a:Addr}{es es':Array (Int×Value)}{ep:Nat}{t t':SetTable}(e:h.get? a=some { cls:=.type "set",dict:=none,data:=.set es ep t,slots:=#[] }):(h.update a (QBk es' t')).get? a=some { cls:=.type "set",dict:=none,data:=.set es' (ep+1) t',slots:=#[] }:=Q1 (QBk es' t') e rfl
theorem jQB{a:Addr}{b:Bool}{zs:List Str}{z:Str}{tk:Tok}{Q:Bool->Shared->Prop}(S:jJm pg wd sh.heap a b zs)(hr:zs.length+1<4096)
  (k:∀r h' zs',qP a sh.heap h'->jJm pg wd h' a b zs'->(∀s,s∈zs'↔s∈zs∨s=z)->zs'.length<=zs.length+1->Q r { sh with heap:=h',toks:=sh.toks+1 }):wpAny (model pg wd) Ar (setAdd a (.str z tk)) Q Er sh:=by
 have hk:(strKind pg wd).is z (.str z tk)=true:=strKind_is _ _ _ _;unfold setAdd;refine qT (QA ((strKind pg wd).pyHash (k:=z) hk ?_));obtain⟨es,ep,t,e0,el,ez,nd,hf,hb,hp⟩:=id S;have sz:es.size=zs.length:=by rw[<- ez,QG,QT]
 have bd:es.size<scanBound:=by show es.size<4096;omega
 unfold setAddHashed setAddHashedIn;refine qT (QA (wf (s:={ sh with toks:=sh.toks+1 }) e0 rfl hf ?_));dsimp only;rw[byScan_of (knd:=strKind pg wd) (x:=.str z tk) rfl bd el,if_pos rfl];unfold setAddByScan;refine QA (QA (QAV (QA (wpAny_setScan_of hk (s:={ sh with toks:=sh.toks+1 }) e0 rfl hf el ?_))));cases fi:es.toList.findIdx? (fun e=>(strKind pg wd).is z e.2) with
 |some j =>
  have mz:z∈zs:=wX fun n=>by rw[(jMZ el ez).mpr n]at fi;cases fi
  dsimp only;exact QI (QI (k _ sh.heap zs (QBg _ _) S (fun s=>⟨.inl,fun o=>o.elim id fun e=>e▸mz⟩) (wJ _)))
 |none =>
  have nz:=(jMZ el ez).mp fi;dsimp only;have pm:=layNew_perm t es ((strKind pg wd).hash z) (.str z tk);have ft:=layNew_fits t es ((strKind pg wd).hash z) (.str z tk);have ld:=jRO t es ((strKind pg wd).hash z) (.str z tk);generalize layNew t es ((strKind pg wd).hash z) (.str z tk)=L at pm ft ld ⊢;obtain⟨e1,t1,wd1,gv⟩:=L;dsimp only at pm ft ld ⊢;rw[QBl]at pm;have el1:ElemsOf (strKind pg wd) e1.toList:=(el.push hk rfl).perm pm;have pz:(e1.toList.map fun e=>sOf e.2).Perm (zs++[z]):=by
   have:=pm.map fun e:Int×Value=>sOf e.2;rw[Qe,ez]at this;exact this
  have n1:e1.size=zs.length+1:=by rw[<- QT,<- QG (f:=fun e:Int×Value=>sOf e.2),pz.length_eq,QM];rfl
  have nd1:(zs++[z]).Nodup:=qr.mpr ⟨nd,Qf.mpr ⟨Q4,Q7⟩,fun x hx y hy=>by rw[QJ.mp hy];exact fun e=>nz (e▸hx)⟩;have b1:e1.size<=sizeLine:=by rw[QW];omega
  have fin:∀(e2:Array (Int×Value)) (t2:SetTable) (h':Heap) (ep':Nat),e2.toList.Perm e1.toList->t2.fits e2.size=true->t2.led=b->t2.plain=false->qP a sh.heap h'->h'.get? a=some { cls:=.type "set",dict:=none,data:=.set e2 ep' t2,slots:=#[] }->Q true { sh with heap:=h',toks:=sh.toks+1 }:=fun e2 t2 h' ep' p2 f2 l2 q2 sb g2=>by
   have pz2:=(p2.map fun e:Int×Value=>sOf e.2).trans pz;refine k true h' _ sb ⟨e2,ep',t2,g2,el1.perm p2,rfl,pz2.nodup_iff.mpr nd1,f2,l2,.inr q2⟩ (fun s=>?_) ?_
   ·rw[pz2.mem_iff,Qd,QJ]
   ·rw[pz2.length_eq,QM];exact QU _
  have tail:∀t2:SetTable,t2.fits e1.size=true->t2.led=b->t2.plain=false->wpAny (model pg wd) Ar (do
    storeSet a e1 t2
    if(!wd1&&t2.tooFull)=true then do
      (match (relayAll t2 e1 (ww e1.size)).2.2 with|true=>rule "set.scan.the-table-gave-way"|false=>pure ())
      storeSet a (relayAll t2 e1 (ww e1.size)).1 (relayAll t2 e1 (ww e1.size)).2.1
      pure (some true)
     else pure (some true)) (fun x s'=>wpAny (model pg wd) Ar (match x with|some r=>pure r|none=>setAddHashedIn a (.str z tk) ((strKind pg wd).hash z) 99999) Q Er s') Er { sh with toks:=sh.toks+1 }:=fun t2 f2 l2 q2=>by
   refine QA (QBm (s:={ sh with toks:=sh.toks+1 }) e0 rfl ?_ b1);have g1:=jMK (es':=e1) (t':=t2) e0;have sb1:=qJ sh.heap a (QBk e1 t2);split
   ·have pr:=relayAll_perm t2 e1 (ww e1.size)
    have fr:=relayAll_fits t2 e1 (ww e1.size);have lr:=jK9 t2 e1 (ww e1.size) q2;generalize relayAll t2 e1 (ww e1.size)=R at pr fr lr ⊢;obtain⟨e2,t3,g3⟩:=R;dsimp only at pr fr lr ⊢;refine QA (jMM (QA (QBm (s:={ sh with heap:=sh.heap.update a (QBk e1 t2),toks:=sh.toks+1 }) g1 rfl (QI (QI ?_)) ?_)))
    ·exact fin e2 t3 _ _ pr fr (lr.1.trans l2) lr.2 (sb1.trans (qJ _ a _)) (jMK g1)
    ·rw[<- QT,pr.length_eq,QT];exact b1
   ·exact QI (QI (fin e1 t2 _ _ (wv _) f2 l2 q2 sb1 g1))
  refine QA (jMM ?_);cases hpl:t1.plain with
  |true =>
   rw[if_pos rfl];refine QA ?_;rw[hashByValue_scannable 8 (x:=.str z tk) rfl];exact QI (tail { t1 with plain:=false } (SetTable.fits_plain_off ft) (ld.trans hb) rfl)
  |false =>
   rw[if_neg QC];exact QA (QI (tail t1 ft (ld.trans hb) hpl))
end
theorem jHl{vs:List Value}{ss:List Str}(h:StrsAre vs ss):vs.length=ss.length/\∀(i:Nat) (v:Value),vs[i]?=some v->∃z t,v=.str z t/\ss[i]?=some z:=by
 induction h with
 |nil=>exact⟨rfl,fun i v e=>by cases e⟩
 |cons y t _ ih =>
  refine⟨congrArg Nat.succ ih.1,fun i v e=>?_⟩;cases i with
  |zero=>cases e;exact⟨y,t,rfl,rfl⟩
  |succ i=>exact ih.2 i v e
section
variable{pg:Program}{wd:World}{Ar:Around}{Er:VSP}{sh:Shared}
theorem jNL{S it l:Addr}{b:Bool}{xs:Array Value}{ss:List Str}{R:Result->Shared->Prop}(hd:Ar.handled=none)(ne:l≠it)(nS:S∉[it,l])(hs:StrsAre xs.toList ss)(bd:xs.size+1<4096) :
  ∀(n i:Nat) (sh:Shared) (zs:List Str),xs.size - i=n->i<=xs.size->(sh.heap.IsListIter it l i/\sh.heap.IsList l xs)->jJm pg wd sh.heap S b zs->(∀s,s∈zs↔s∈ss.take i)->zs.length<=i ->
   (∀s' zs',Moved [S,it] (fun a b=>b=a) sh s'->jJm pg wd s'.heap S b zs'->(∀s,s∈zs'↔s∈ss)->zs'.length<=xs.size->R (.ok (.ret .none)) s') ->
   codeAny (model pg wd) Ar (.builtin "set.update.loop" ⟨[.ref S,.ref it],[]⟩) R sh:=by
 have W:=(QCF (prog:=pg) (w:=wd) (A:=Ar.in1) hd it l ne xs).toS;obtain⟨hl,hx⟩:=jHl hs;rw[QT]at hl;have sub:∀c∈[it],c∈[S,it]:=fun c hc=>QE _ hc;have nw:S∉[it]:=fun z=>nS (QK.mpr (.inl (QJ.mp z)));intro n
 induction n with
 |zero =>
  intro i sh zs en li st0 st1 mem len k;obtain rfl:i=xs.size:=by omega
  refine wL QAg ?_;rw[qh WX _];refine QA (m:=pyNext (.ref it)) (W.done sh _ _ st0 fun s' mv=>QI (k s' zs (mv.mono sub) (st1.at fun o e=>mv.heap S o nw e) ?_ len));intro s;rw[mem,hl,List.take_length]
 |succ n ih =>
  intro i sh zs en li st0 st1 mem len k;have lt:i<xs.size:=by omega
  refine wL QAg ?_;rw[qh WX _];refine QA (m:=pyNext (.ref it)) (W.item i sh _ _ lt st0 fun v s' pq st' mv=>?_);obtain⟨z,tk,rfl,ez⟩:=hx i v (by rw[qv];exact pq);have st2:jJm pg wd s'.heap S b zs:=st1.at fun o e=>mv.heap S o nw e;refine QA (m:=holding [Value.str z tk] (setAdd S (.str z tk))) (qT (jQB st2 (by omega) fun r h' zs' sb st3 m3 l3=>QI ⟨WW WX _,?_⟩));refine ih (i+1) _ zs' (by omega) lt (W.frame _ s' _ _ st' (wJ _) fun c hc o e=>?_) st3 (fun s=>?_) (by omega) fun s'' zs'' mv2 st4 m4 l4=>k s'' zs'' (Moved.trans W.gtrans ((mv.mono sub).then_heap (wJ _) fun c o hc e=>?_) mv2) st4 m4 l4
  ·rw[sb.2 c fun q=>nS (q▸hc)];exact e
  ·rw[m3,mem,List.take_succ,ez,Qd]
   simp
  ·rw[sb.2 c fun q=>hc (q▸QF)];exact e
noncomputable abbrev jNu(b:Bool):Obj:={ cls:=.type "set",dict:=none,data:=.set #[] 0 (.fresh 0 0 b) }
theorem jQ7{v:Value}{Q:VSP}(q:Q (.ref sh.heap.objs.size) { sh with heap:=sh.heap.push (jNu (!wd.params.followText "set-order")) }):codeAny (model pg wd) Ar (.call (.builtin "set.__new__") ⟨[.type "set",v],[]⟩) (wants Q Er) sh:=by
 refine codeAny_of_tree ?_;show wpAny _ Ar.in1 (checkBuiltinCall "set.__new__" ⟨[.type "set",v],[]⟩ >>= fun _=>again (.builtin "set.__new__" ⟨[.type "set",v],[]⟩)) _ _ sh;refine QA (WP (F.newCall_set_1 v) (QI ⟨WW QB9 _,wL F.entry_set_new ?_⟩));rw[qh QB9 _];unfold Builtin.«set.__new__» Builtin.Frozenset.newClass;have sub:=sub_set_self;obtain⟨hp,gs,dr,tk,oo⟩:=sh;dsimp only;wp_walk;refine wr (QI ?_);dsimp only;simp only[newObj];exact QA (wpAny_alloc (QI (QI q)))
theorem jNt{h:Heap}{a:Addr}{b:Bool}(e:h.get? a=some (jNu b)):jJm pg wd h a b []:=⟨#[],0,_,e,fun _ z=>(nomatch z),rfl,Q7,by cases b<;>decide,rfl,.inl rfl⟩
theorem jGP{l:Addr}{xs:Array Value}{ss:List Str}{Q:VSP}(hd:Ar.handled=none)(hl:sh.heap.IsList l xs)(hs:StrsAre xs.toList ss)(bd:xs.size+1<4096)
  (k:∀(h':Heap) (tk:Nat) (zs:List Str),jJm pg wd h' sh.heap.objs.size (!wd.params.followText "set-order") zs->(∀s,s∈zs↔s∈ss)->zs.length<=xs.size->(∀b o,sh.heap.get? b=some o->h'.get? b=some o)->Q (.ref sh.heap.objs.size) { sh with heap:=h',toks:=tk }) :
  wpAny (model pg wd) Ar (call (.type "set") [.ref l]) Q Er sh:=by
 generalize hb:(!wd.params.followText "set-order")=b at k;generalize hn:sh.heap.objs.size=n at k;obtain⟨c,tl,mr⟩:=WB.mro;have md:=WB.made;have sb:=WB.sub;have c1:=WB.notType;have c2:=WB.canCreate;have c3:=F.typeCall_set_1 (.ref l);refine wpAny_call (codeAny_of_tree ?_);show wpAny _ _ (callAny (.type "set") _) _ _ _;refine QI ⟨Code.quiet_builtin _ (by decide +kernel),wL F.entry_type_call ?_⟩;rw[Around.under_plain (weight_type_call_type "set" [.ref l] []) rfl]
 repeat (any_goals (first|assumption|wp_step))
 refine QAG (jQ7 (v:=.ref l) (Er:=Er) (Q:=fun p q=>p=.ref n/\q={ sh with heap:=sh.heap.push (jNu b) }) ⟨by rw[hn],by rw[hb]⟩) fun r q hr=>?_;cases r with
 |error e=>exact hr
 |ok fl =>
  cases fl with
  |ret obj =>
   obtain⟨rfl,rfl⟩:=hr;have e0:(sh.heap.push (jNu b)).get? n=some (jNu b):=hn▸QN _ rfl;have ty:Shared.TypeIs { sh with heap:=sh.heap.push (jNu b) } (.ref n) "set":=⟨_,e0,rfl⟩
   have li:=WB.init.lookup;have bi:=WB.init.bind (.ref n)
   repeat (any_goals (first|assumption|wp_step))
   refine QAG (codeAny_call_builtin (R:=wants (fun r q=>r=.none/\∃h' tk zs,q={ sh with heap:=h',toks:=tk }/\jJm pg wd h' n b zs/\(∀s,s∈zs↔s∈ss)/\zs.length<=xs.size/\∀c o,sh.heap.get? c=some o->h'.get? c=some o) Er) WB.init.plain F.entry_set_init (check_set_init_1 ty ?body)) ?after
   case after =>
    intro r q hr;cases r with
    |error e=>exact hr
    |ok fl =>
     cases fl with
     |ret r =>
      obtain⟨rfl,h',tk,zs,rfl,a1,a2,a3,a4⟩:=hr
      repeat (any_goals (first|assumption|wp_step))
      exact k h' tk zs a1 a2 a3 a4
     |_=>exact hr.elim
   case body =>
    obtain⟨ol,el,cl,nl,dl⟩:=hl;obtain⟨ocls,odict,odata,oslots⟩:=ol;cases cl;cases dl;have el1:(sh.heap.push (jNu b)).get? l=some { cls:=.type "list",dict:=odict,data:=.seq xs nl,slots:=oslots }:=QH _ el;have t1:=F.sub_list_set;have t2:=F.sub_list_frozenset;have t3:(Value.type "list" == Value.type "dict")=false:=by decide
    have l1:(sh.heap.push (jNu b)).IsList l xs:=⟨_,el1,rfl,nl,rfl⟩
    unfold Builtin.«set.__init__» noKeywords Builtin.Frozenset.updateFrom;generalize hi:pyIter=it;wp_walk;subst hi;refine WD l1 (QA (wpAny_runValue ?_));have lt:l<sh.heap.objs.size:=QO el;have sz:(sh.heap.push (jNu b)).objs.size=n+1:=by rw[wV,hn]
    rw[hn]at lt;refine jNL (b:=b) (ss:=ss) (by simp[hd]) (show l≠_ by rw[sz];exact Qc (qb lt)) (fun z=>?_) hs bd xs.size 0 _ [] (Nat.sub_zero _) (qG _) ⟨⟨_,QN _ rfl,rfl,rfl⟩,l1.push _⟩ (jNt (QH _ e0)) (fun s=>?_) (QU _) fun s' zs' mv st m ln=>?_
    ·rw[sz]at z
     rcases QK.mp z with z|z
     ·exact Qc (WL _) z
     ·exact wP lt (QJ.mp z)
    ·rw[List.take_zero]
    ·obtain⟨h',gs,dr,tk,oo⟩:=s'
     cases mv.gens;cases mv.drawn;cases mv.os;refine QI ?_;refine QI ⟨rfl,h',tk,zs',rfl,st,m,ln,fun c o e=>?_⟩;have lc:c<n:=hn▸QO e;refine mv.heap c o (fun z=>?_) (QH _ (QH _ e));rw[sz]at z;rcases QK.mp z with z|z
     ·exact Qc lc z
     ·exact Qc (qb lc) (QJ.mp z)
  |_=>exact hr.elim
end
section
variable{pg:Program}{wd:World}{M:Model}{Ar:Around}{Er:VSP}{sh:Shared}
theorem jGZ{src:Source}{n:Nat}{Q:Nat->Shared->Prop}(hn:n≠0)(h:∀i d,i<n->Q i { sh with drawn:=d }):wpAny M Ar (choose src n) Q Er sh:=fun _ _ _=>by
 unfold choose;rw[Sem.wp_choose];exact⟨hn,by rw[Sem.wp_pure];exact h _ _ (Nat.mod_lt _ (Nat.pos_of_ne_zero hn))⟩
theorem jFi{α:Type}{xs:List α}{i:Nat}(h:i<xs.length):(xs[i]::xs.eraseIdx i).Perm xs:=by
 rw[List.eraseIdx_eq_take_drop_succ];refine List.perm_middle.symm.trans ?_;rw[<- WK h,List.take_append_drop]
theorem jON{α:Type}:∀(n:Nat) (xs:List α) (sh:Shared) {Q:List α->Shared->Prop},xs.length=n->(∀L d,L.Perm xs->Q L { sh with drawn:=d })->wpAny M Ar (drawOrder n xs) Q Er sh:=by
 intro n
 induction n with
 |zero =>
  intro xs sh Q hl k;obtain rfl:=qg.mp hl;exact QI (k [] sh.drawn (wv _))
 |succ n ih =>
  intro xs sh Q hl k;cases xs with
  |nil=>cases hl
  |cons x r =>
   unfold drawOrder;refine QA (jGZ (by rw[hl];exact Nat.succ_ne_zero n) fun i d hi=>?_);rw[Qx hi];refine QA (ih ((x::r).eraseIdx i) _ (by rw[QAC hi,hl];rfl) fun L d' p=>QI (k _ d' ((p.cons _).trans (jFi hi))))
theorem jLN{α:Type}(f:Nat->Nat):∀(n k:Nat) (xs:List α) (out:Array α),xs.length=n->(pickOrder.go f n k xs out).toList.Perm (out.toList++xs):=by
 intro n
 induction n with
 |zero =>
  intro k xs out hl;obtain rfl:=qg.mp hl;rw[wH];exact wv _
 |succ n ih =>
  intro k xs out hl;have hi:f k % xs.length<xs.length:=Nat.mod_lt _ (by omega);unfold pickOrder.go;rw[Qx hi];refine(ih (k+1) _ _ (by rw[QAC hi,hl];rfl)).trans ?_;rw[QBl,qq];exact(jFi hi).append_left _
end
namespace F
theorem jIx:Manifest.owners.lookup (String.ofList ['r','o','t','a','r','e','t','i','_','t','e','s'].reverse)=some Manifest.sig_set_iterator:=by kernel_rfl
theorem slot_si:Slot "set_iterator" "__next__" "set_iterator.__next__":=.of (owner:="set_iterator") (n:="__next__") (by rw[typeLookup_type,QAz];kernel_rfl) (by decide +kernel) (by decide +kernel) (by decide +kernel) (by first|exact .inl (by decide +kernel)|exact .inr (by decide +kernel)) (by rw[QBE];kernel_rfl)
theorem entry_si:entryFor table "set_iterator.__next__"=some Builtin.«set_iterator.__next__»:=entryFor_of_tree (by kernel_rfl)
theorem args_si(a:Value):argsOk "set_iterator.__next__" ⟨[a],[]⟩:=by
 unfold argsOk;rw[signature?_of (id:="set_iterator.__next__") (n:=['_','_','t','x','e','n','_','_']) (o:=['r','o','t','a','r','e','t','i','_','t','e','s']) (by kernel_rfl) jIx]
 kernel_rfl
theorem entry_set_iter:entryFor table "set.__iter__"=some Builtin.«frozenset.__iter__»:=entryFor_alias (id':="frozenset.__iter__") (by kernel_rfl) rfl (by decide +kernel) (by kernel_rfl)
end F
def SIt(h:Heap)(j a:Addr)(f:Value)(i n ep:Nat):Prop:=∃o,h.get? j=some o/\o.cls=.type "set_iterator"/\o.data=.fields #[f,rawInt i,.ref a,rawInt n,rawInt ep]
theorem SIt.ty{sh:Shared}{j a:Addr}{f:Value}{i n ep:Nat}(x:SIt sh.heap j a f i n ep):sh.TypeIs (.ref j) "set_iterator":=let⟨o,e,c,_⟩:=x;⟨o,e,c⟩
noncomputable abbrev setO(es:Array (Int×Value))(ep:Nat)(t:SetTable):Obj:={ cls:=.type "set",dict:=none,data:=.set es ep t,slots:=#[] }
section
variable{pg:Program}{wd:World}{Ar:Around}{Er:VSP}{sh:Shared}{j a:Addr}{es:Array (Int×Value)}{ep:Nat}{t:SetTable}
theorem jKs{P:QCJ->Shared->Prop}{Ee:VSP}(hd:Ar.handled=none)(k:∀e h',Shared.TypeIs { sh with heap:=h' } e "StopIteration"->(∀b o,sh.heap.get? b=some o->h'.get? b=some o)->Ee e { sh with heap:=h' }) :
  wpAny (model pg wd) Ar.in1 (do raiseNew (<- newExc (.type "StopIteration") []):Sem QCJ) P Ee sh:=by
 simp only[newExc,newTuple,raiseNew];refine QA (QA (Qp ?_ (by size_fits)));refine QA (m:=firstArgMember _ _) (WP (a:=Value.none) (by first|rfl | (rw[firstArgMember];rfl)) (Qp ?_ (by size_fits)));refine QA (QAf ?_);rw[show Ar.in1.handled=none from hd];refine QA (QI (QBJ (k _ _ ?_ ?_)))
 ·exact⟨_,QN _ rfl,rfl⟩
 ·exact fun b o e=>QH _ (QH _ e)
theorem jIl{e:Value}{Q:Option Value->Shared->Prop}(ty:sh.TypeIs e "StopIteration")(q:Q none sh):wpAny (model pg wd) Ar (do if <- isInstance e (.type "StopIteration") then pure none else throw e) Q Er sh:=by
 refine QA (Wu (T:="StopIteration") (b:=true) ty (by kernel_rfl) ?_);rw[if_pos rfl];exact QI q
theorem SIt.put{h:Heap}{f f':Value}{i i' n:Nat}(it:SIt h j a f i n ep):SIt ((h.update j (qX (·.setIfInBounds 0 f'))).update j (qX (·.setIfInBounds 1 (rawInt i')))) j a f' i' n ep:=by
 obtain⟨o,ho,hc,hdt⟩:=it;have e1:=Q1 (qX (·.setIfInBounds 0 f')) ho (qd (Q3 hdt _));have d1:=Q3 hdt (·.setIfInBounds 0 f');refine⟨_,Q1 _ e1 (qd (Q3 d1 _)),(WE ..).trans ((WE ..).trans hc),?_⟩;rw[Q3 d1];simp
theorem SIt.put1{h:Heap}{f:Value}{i i' n:Nat}(it:SIt h j a f i n ep):SIt (h.update j (qX (·.setIfInBounds 1 (rawInt i')))) j a f i' n ep:=by
 obtain⟨o,ho,hc,hdt⟩:=it;refine⟨_,Q1 _ ho (qd (Q3 hdt _)),(WE ..).trans hc,?_⟩;rw[Q3 hdt];simp
theorem jOv{s i n:Nat}{r:Option (Value×Nat)}{Q:Option Value->Shared->Prop}(hd:Ar.handled=none)(it:SIt sh.heap j a (rawInt s) i n ep)(e0:sh.heap.get? a=some (setO es ep t))(hf:t.fits es.size=true)(hn:n=es.size)
  (nx:∀{A:Around}{E:VSP}{q:Option (Value×Nat)->Shared->Prop},q r sh->wpAny (model pg wd) A (setNext a s i ep) q E sh)
  (k1:∀x s' h',r=some (x,s')->SIt h' j a (rawInt s') (i+1) n ep->(∀b o,b≠j->sh.heap.get? b=some o->h'.get? b=some o)->Q (some x) { sh with heap:=h' })
  (k2:r=none->∀h',(∀b o,b≠j->sh.heap.get? b=some o->h'.get? b=some o)->Q none { sh with heap:=h' }) :
  wpAny (model pg wd) Ar (pyNext (.ref j)) Q Er sh:=by
 have ty:=it.ty;obtain⟨o,ho,hc,hdt⟩:=id it;unfold pyNext;refine QA (WV (qA (name:=Qt "__next__") ty F.slot_si (Q0 F.slot_si ty F.entry_si ?_ (F.args_si _))));unfold Builtin.«set_iterator.__next__»;refine QA (WP (a:=(Value.ref j,[])) rfl (QA (WJ ho hdt ?_)));show wpAny _ _ (setEntries a >>= _) _ _ _;refine QA (W5 e0 rfl hf ?_);rw[if_neg (show ¬ (((es.size:Nat):Int) != ((n:Nat):Int))=true by rw[hn];simp)];show wpAny _ _ (setNext a s i ep >>= _) _ _ _;refine QA (nx ?_);cases r with
 |some p =>
  obtain⟨x,s'⟩:=p;refine QA (qt ho hdt (by simp) ?_);have e1:=Q1 (qX (·.setIfInBounds 0 (rawInt s'))) ho (qd (Q3 hdt _));refine QA (qt (s:={ sh with heap:=sh.heap.update j (qX (·.setIfInBounds 0 (rawInt s'))) }) e1 (Q3 hdt _) (by simp) ?_);refine QI ⟨x,rfl,QI (k1 x s' _ rfl ?_ fun b o hb e=>?_)⟩
  ·exact it.put (i':=i+1)
  ·rw[Q6 _ _ (Q2 hb),Q6 _ _ (Q2 hb)];exact e
 |none =>
  refine QA (qt ho hdt (by simp) ?_);exact jKs (sh:={ sh with heap:=sh.heap.update j (qX (·.setIfInBounds 2 Value.none)) }) hd fun e h' ty kp=>jIl (sh:={ sh with heap:=h' }) ty (k2 rfl h' fun b o hb e=>kp b o (by rw[Q6 _ _ (Q2 hb)];exact e))
theorem jOu{p:Addr}{L:List Nat}{i n:Nat}{op:Obj}{c:Nat}{Q:Option Value->Shared->Prop}(hd:Ar.handled=none)(it:SIt sh.heap j a (.ref p) i n ep)(e0:sh.heap.get? a=some (setO es ep t))(hf:t.fits es.size=true)(hn:n=es.size)
  (eo:sh.heap.get? p=some op) (dp:op.data=.seq (L.map fun i=>rawInt (i:Nat)).toArray c) (hL:∀m∈L,m<es.size)
  (k1:∀m x h',L[i]?=some m->es[m]?=some x->SIt h' j a (.ref p) (i+1) n ep->(∀b o,b≠j->sh.heap.get? b=some o->h'.get? b=some o)->Q (some x.2) { sh with heap:=h' })
  (k2:L[i]?=none->∀h',(∀b o,b≠j->sh.heap.get? b=some o->h'.get? b=some o)->Q none { sh with heap:=h' }) :
  wpAny (model pg wd) Ar (pyNext (.ref j)) Q Er sh:=by
 have ty:=it.ty;obtain⟨o,ho,hc,hdt⟩:=id it;unfold pyNext;refine QA (WV (qA (name:=Qt "__next__") ty F.slot_si (Q0 F.slot_si ty F.entry_si ?_ (F.args_si _))));unfold Builtin.«set_iterator.__next__»;refine QA (WP (a:=(Value.ref j,[])) rfl (QA (WJ ho hdt ?_)));show wpAny _ _ (setEntries a >>= _) _ _ _;refine QA (W5 e0 rfl hf ?_);rw[if_neg (show ¬ (((es.size:Nat):Int) != ((n:Nat):Int))=true by rw[hn];simp)];show wpAny _ _ (seqItems? (.ref p) >>= _) _ _ _;refine QA (QBC eo dp ?_);have gi:(L.map fun i=>rawInt (i:Nat)).toArray[i]?=(L[i]?).map fun i=>rawInt (i:Nat):=by rw[List.getElem?_toArray,QY]
 show wpAny _ _ (match (L.map fun i=>rawInt (i:Nat)).toArray[i]? with|some (Value.int place _)=>_|some _=>_|none=>_) _ _ _;rw[gi];cases eL:L[i]? with
 |some m =>
  have lm:=hL m (qC eL);have ex:es[m]?=some es[m]:=WI lm;show wpAny _ _ (setNextDrawn a m ep >>= _) _ _ _;unfold setNextDrawn;refine QA (QA (wf e0 rfl hf ?_));show wpAny _ _ (if(ep != ep)=true then _ else _) _ _ _;rw[if_neg (by simp)];show wpAny _ _ (match es[m]? with|some (_,x)=>_|_=>_) _ _ _;rw[ex];refine QI (QA (qt ho hdt (by simp) ?_));refine QI ⟨_,rfl,QI (k1 m _ _ eL ex ?_ fun b o hb e=>?_)⟩
  ·exact it.put1 (i':=i+1)
  ·rw[Q6 _ _ (Q2 hb)];exact e
 |none =>
  show wpAny _ _ (setField (.ref j) 0 (rawInt 0) >>= _) _ _ _;refine QA (qt ho hdt (by simp) ?_);have e1:=Q1 (qX (·.setIfInBounds 0 (rawInt 0))) ho (qd (Q3 hdt _));refine QA (qt (s:={ sh with heap:=sh.heap.update j (qX (·.setIfInBounds 0 (rawInt 0))) }) e1 (Q3 hdt _) (by simp) ?_);exact jKs (sh:={ sh with heap:=(sh.heap.update j (qX (·.setIfInBounds 0 (rawInt 0)))).update j (qX (·.setIfInBounds 2 Value.none)) }) hd fun e h' ty kp=>jIl (sh:={ sh with heap:=h' }) ty (k2 eL h' fun b o hb e=>kp b o (by rw[Q6 _ _ (Q2 hb),Q6 _ _ (Q2 hb)];exact e))
theorem jLn{i:Nat}{Q:Option (Value×Nat)->Shared->Prop}(hb:wd.params.followText "set-order"=true)(e0:sh.heap.get? a=some (setO es ep t))(hf:t.fits es.size=true)(q:Q (((pickOrder (wd.params.setOrder a ep) es)[i]?).map fun e=>(e.2,0)) sh):wpAny (model pg wd) Ar (setNext a 0 i ep) Q Er sh:=by
 unfold setNext setWalk setsByText;refine QA (wf e0 rfl hf (QA (QA (wr (QI ?_)))));rw[if_pos (by exact hb)];show wpAny _ _ (if(ep != ep)=true then _ else _) _ _ _;rw[if_neg (by simp)];refine QA (QA (wf e0 rfl hf (QA (QA (wr (QI ?_))))));rw[if_pos (by exact hb)];exact QA (wr (QI (QI q)))
theorem jNs{s i:Nat}{Q:Option (Value×Nat)->Shared->Prop}(hb:wd.params.followText "set-order"=false)(e0:sh.heap.get? a=some (setO es ep t))(hf:t.fits es.size=true)(h1:es.size<=1)(hl:t.led=true)
  (q:Q (match es[wY t.place s]?,t.place[wY t.place s]? with|some (_,x),some j=>some (x,j+1)|_,_=>none) sh):wpAny (model pg wd) Ar (setNext a s i ep) Q Er sh:=by
 unfold setNext setsByText;refine QA (wf e0 rfl hf (QA (QA (wr (QI ?_)))));rw[if_neg (by show ¬ wd.params.followText "set-order"=true;rw[hb];exact QC)];show wpAny _ _ (if(!t.plain&&decide (es.size > 1))=true then _ else _) _ _ _;rw[if_neg (by rw[dF (by omega),QA7];exact QC)];refine QA (m:=if(!t.led&&!es.isEmpty)=true then unsupported "set:maker-not-led" else pure ()) ?_;rw[if_neg (by rw[hl];exact QC)];exact QI (QI q)
end
namespace F
theorem slot_sii:Slot "set_iterator" "__iter__" "set_iterator.__iter__":=.of (owner:="set_iterator") (n:="__iter__") (by rw[typeLookup_type,QAz];kernel_rfl) (by decide +kernel) (by decide +kernel) (by decide +kernel) (by first|exact .inl (by decide +kernel)|exact .inr (by decide +kernel)) (by rw[QBE];kernel_rfl)
theorem args_sii(a:Value):argsOk "set_iterator.__iter__" ⟨[a],[]⟩:=by
 unfold argsOk;rw[signature?_of (id:="set_iterator.__iter__") (n:=['_','_','r','e','t','i','_','_']) (o:=['r','o','t','a','r','e','t','i','_','t','e','s']) (by kernel_rfl) jIx]
 kernel_rfl
theorem entry_sii:entryFor table "set_iterator.__iter__"=some Builtin.«dict_keyiterator.__iter__»:=entryFor_alias (id':="dict_keyiterator.__iter__") (by kernel_rfl) (by first|rfl|decide +kernel | (unfold String.splitOn;simp +decide [String.splitOnAux])) (by decide +kernel) (by kernel_rfl)
end F
section
variable{pg:Program}{wd:World}{Ar:Around}{Er:VSP}{sh:Shared}{j a:Addr}{es:Array (Int×Value)}{ep:Nat}{t:SetTable}
theorem jKv{f:Value}{i n:Nat}{Q:VSP}(it:SIt sh.heap j a f i n ep)(q:Q (.ref j) sh):wpAny (model pg wd) Ar (pyIter (.ref j)) Q Er sh:=by
 refine We it.ty F.slot_sii (Q0 F.slot_sii it.ty F.entry_sii ?_ (F.args_sii _));show wpAny _ _ (ret (.ref j)) _ _ sh;exact QI ⟨_,rfl,"set_iterator",_,it.ty,F.slot_si.lookup,q⟩
theorem SIt.at{h h':Heap}{f:Value}{i n:Nat}(it:SIt h j a f i n ep)(k:∀o,h.get? j=some o->h'.get? j=some o):SIt h' j a f i n ep:=by
 obtain⟨o,e,r⟩:=it;exact⟨o,k o e,r⟩
theorem jNC{g:Nat->Nat}{ord:List Value}{n:Nat}(hd:Ar.handled=none)(na:a≠j)(hf:t.fits es.size=true)(hn:n=es.size)
  (nx:∀(i:Nat) (A:Around) (s:Shared) (E:VSP) (q:Option (Value×Nat)->Shared->Prop),i<=ord.length->s.heap.get? a=some (setO es ep t)->q ((ord[i]?).map fun x=>(x,g (i+1))) s->wpAny (model pg wd) A (setNext a (g i) i ep) q E s) :
  Walks pg wd Ar j [j,a] [j] ord.length (fun i v=>ord[i]?=some v) (fun i h=>SIt h j a (rawInt (g i)) i n ep/\h.get? a=some (setO es ep t)) where
 sub:=fun b hb=>QK.mpr (.inl (QJ.mp hb))
 frame:=fun i h h' st k=>⟨st.1.at fun o e=>k j QF o e,k a (QE _ QF) _ st.2⟩
 item:=fun i s Q E hi st q=>jOv (r:=(ord[i]?).map fun x=>(x,g (i+1))) hd st.1 st.2 hf hn (fun {A E' q'} h=>nx i A s E' q' (QAE hi) st.2 h)
  (fun x s' h' e it kp=>by
   rw[Qx hi]at e;cases e;exact q _ h' s.toks (Qx hi) ⟨it,kp a _ na st.2⟩ fun b o hb e=>kp b o (fun z=>hb (QJ.mpr z)) e)
  fun e=>by rw[Qx hi]at e;cases e
 done:=fun s Q E st q=>jOv (r:=(ord[ord.length]?).map fun x=>(x,g (ord.length+1))) hd st.1 st.2 hf hn (fun {A E' q'} h=>nx _ A s E' q' (QU _) st.2 h)
  (fun x s' h' e=>by rw[qH (QU _)]at e;cases e)
  fun _ h' kp=>q h' s.toks fun b o hb e=>kp b o (fun z=>hb (QJ.mpr z)) e
 self:=fun i s Q E st q=>jKv st.1 q
theorem jNB{p:Addr}{op:Obj}{c:Nat}{L:List Nat}{n:Nat}(hd:Ar.handled=none)(na:a≠j)(np:p≠j)(hf:t.fits es.size=true)(hn:n=es.size)(dp:op.data=.seq (L.map fun i=>rawInt (i:Nat)).toArray c)(hL:∀m∈L,m<es.size) :
  Walks pg wd Ar j [j,a,p] [j] L.length (fun i v=>∃m e,L[i]?=some m/\es[m]?=some e/\v=e.2) (fun i h=>SIt h j a (.ref p) i n ep/\h.get? a=some (setO es ep t)/\h.get? p=some op) where
 sub:=fun b hb=>QK.mpr (.inl (QJ.mp hb))
 frame:=fun i h h' st k=>⟨st.1.at fun o e=>k j QF o e,k a (QE _ QF) _ st.2.1,k p (QE _ (QE _ QF)) _ st.2.2⟩
 item:=fun i s Q E hi st q=>jOu hd st.1 st.2.1 hf hn st.2.2 dp hL
  (fun m x h' e ex it kp=>q _ h' s.toks ⟨m,x,e,ex,rfl⟩ ⟨it,kp a _ na st.2.1,kp p _ np st.2.2⟩ fun b o hb e=>kp b o (fun z=>hb (QJ.mpr z)) e)
  fun e=>by rw[Qx hi]at e;cases e
 done:=fun s Q E st q=>jOu hd st.1 st.2.1 hf hn st.2.2 dp hL (fun m x h' e=>by rw[qH (QU _)]at e;cases e)
  fun _ h' kp=>q h' s.toks fun b o hb e=>kp b o (fun z=>hb (QJ.mpr z)) e
 self:=fun i s Q E st q=>jKv st.1 q
def jR5(pg:Program)(wd:World)(s:Shared)(j n:Addr)(es:List (Int×Value)):Prop :=
 ∃(fp:List Addr) (P:Nat->Value->Prop) (St:Nat->Heap->Prop),(∀A:Around,A.handled=none->Walks pg wd A j fp [j] es.length P St)/\St 0 s.heap/\(∀b∈fp,b<s.heap.objs.size)/\n∉fp/\∀acc:Array Value,ItemsOf P acc es.length->acc.toList.Perm (es.map (·.2))
theorem jN7{ord:List Value}{acc:Array Value}{n:Nat}(hn:n=ord.length)(h:ItemsOf (fun i v=>ord[i]?=some v) acc n):acc.toList=ord:=by
 obtain⟨h1,h2⟩:=h;have h1:acc.toList.length=ord.length:=h1.trans hn;refine List.ext_getElem h1 fun i x y=>?_;have this:ord[i]?=some acc[i]:=h2 i acc[i] (WI x);rw[Qx y]at this;exact(Q9 this).symm
theorem jME{L:List Nat}{acc:Array Value}(h:ItemsOf (fun i v=>∃m e,L[i]?=some m/\es[m]?=some e/\v=e.2) acc L.length):acc.toList=L.filterMap fun m=>(es[m]?).map (·.2):=by
 obtain⟨g1,h2⟩:=h;have h1:acc.toList.length=L.length:=g1;clear g1;generalize hv:acc.toList=vs at h1;have h3:∀(i:Nat) (v:Value),vs[i]?=some v->∃m e,L[i]?=some m/\es[m]?=some e/\v=e.2:=fun i v e=>h2 i v (by rw[<- hv,qv]at e;exact e);clear hv h2
 induction vs generalizing L with
 |nil=>cases L with
  |nil=>rfl
  |cons _ _=>cases h1
 |cons v vs ih=>cases L with
  |nil=>cases h1
  |cons m L =>
   obtain⟨m',e,e1,e2,rfl⟩:=h3 0 v rfl;cases e1;rw[WO,e2];exact congrArg _ (ih (QAJ h1) fun i v e=>h3 (i+1) v e)
noncomputable abbrev jQA(f:Value)(a n ep:Nat):Obj:={ cls:=.type "set_iterator",data:=.fields #[f,rawInt ((0:Nat):Int),.ref a,rawInt n,rawInt ep] }
noncomputable abbrev jNF(L:List Nat):Obj:={ cls:=.type "tuple",data:=.seq (L.map fun i=>rawInt (i:Nat)).toArray }
theorem jTv{n:Addr}{Q:VSP}(e0:sh.heap.get? a=some (setO es ep t))(hf:t.fits es.size=true)(hz:es.size<=4096)(led:wd.params.followText "set-order"=false->t.led=true)(pl:es.size=0∨t.plain=false)(na:n≠a)(ln:n<sh.heap.objs.size)
  (k:∀s' j,(∀b o,sh.heap.get? b=some o->s'.heap.get? b=some o)->s'.gens=sh.gens->s'.os=sh.os->s'.toks=sh.toks->(∀b o,sh.heap.get? b=some o->b≠j)->jR5 pg wd s' j n es.toList->Q (.ref j) s'):wpAny (model pg wd) Ar (pyIter (.ref a)) Q Er sh:=by
 have ty:sh.TypeIs (.ref a) "set":=⟨_,e0,rfl⟩
 have hs:sizeLine=16777216:=QW;have la:=QO e0;refine We ty QCA (Q0 QCA ty F.entry_set_iter ?_ (F.args_set_iter_1 _));unfold Builtin.«frozenset.__iter__» Builtin.Frozenset.slot0 Builtin.Frozenset.sizeOf setDrawn setsByText;refine QA (QA (WP (a:=(Value.ref a,[])) rfl (QI ?_)));refine QA (QA (W5 e0 rfl hf (QI ?_)));refine QA (QA (wf e0 rfl hf (QA (QA (wr (QI (QI ?_)))))));dsimp only;have fin:∀(s1:Shared) (f:Value),s1.gens=sh.gens->s1.os=sh.os->s1.toks=sh.toks->(∀b o,sh.heap.get? b=some o->s1.heap.get? b=some o)->jR5 pg wd { s1 with heap:=s1.heap.push (jQA f a es.size ep) } s1.heap.objs.size n es.toList ->
   wpAny (model pg wd) Ar.in1 (do let e <- setEpoch a;let v <- newFields "set_iterator" [f,rawInt 0,.ref a,rawInt es.size,rawInt e];ret v) (fun fin s'=>∃v,fin=.done (.ret v)/\∃T' r,s'.TypeIs v T'/\typeLookup (.type T') (Qt "__next__")=pure (some r)/\Q v s') Er s1:=fun s1 f g1 g2 g3 kp gv=>by
  refine QA (wpAny_setEpoch_of (kp a _ e0) rfl hf (QA (Qp ?_)));refine QI ⟨_,rfl,"set_iterator",_,⟨_,QN _ rfl,rfl⟩,F.slot_si.lookup,k _ _ (fun b o e=>QH _ (kp b o e)) g1 g2 g3 (fun b o e=>Qc (QO (kp b o e))) gv⟩
 have lt1:∀{s1:Heap}{o:Obj},∀b,b<s1.objs.size->b<(s1.push o).objs.size:=fun {s1 o} b h=>by rw[wV];exact qb h
 show wpAny _ _ (if(!wd.params.followText "set-order" && (!t.plain&&decide (es.size > 1)))=true then _ else _) _ _ _;by_cases c:(!wd.params.followText "set-order" && (!t.plain&&decide (es.size > 1)))=true
 ·rw[if_pos c]
  refine QA (jON es.size _ sh qN fun L d p=>QA (QBD ?_ (by rw[QG,p.length_eq,qN];omega)));have lp:L.length=es.size:=by rw[p.length_eq,qN]
  have hL:∀m∈L,m<es.size:=fun m hm=>Wh.mp (p.mem_iff.mp hm);refine fin { sh with drawn:=d,heap:=sh.heap.push (jNF L) } _ rfl rfl rfl (fun b o e=>QH _ e) ?_;have nj:∀{b},b<sh.heap.objs.size->b≠(sh.heap.push (jNF L)).objs.size:=fun h=>by rw[wV];exact Qc (qb h)
  have gJ:=QN (o:=jQA (.ref sh.heap.objs.size) a es.size ep) (sh.heap.push (jNF L)) rfl;have gP:((sh.heap.push (jNF L)).push (jQA (.ref sh.heap.objs.size) a es.size ep)).get? sh.heap.objs.size=some (jNF L):=QH _ (QN _ rfl);have gA:=QH (jQA (.ref sh.heap.objs.size) a es.size ep) (QH (jNF L) e0);refine⟨[(sh.heap.push (jNF L)).objs.size,a,sh.heap.objs.size],fun i v=>∃m e,L[i]?=some m/\es[m]?=some e/\v=e.2,fun i h=>SIt h (sh.heap.push (jNF L)).objs.size a (.ref sh.heap.objs.size) i es.size ep/\h.get? a=some (setO es ep t)/\h.get? sh.heap.objs.size=some (jNF L),fun A hd=>?_,⟨⟨_,gJ,rfl,rfl⟩,gA,gP⟩,fun b hb=>?_,fun z=>?_,fun acc h=>?_⟩
  ·rw[QT,<- lp]
   refine jNB hd (nj la) (by rw[wV];exact Qc (WL _)) hf lp (c:=0) rfl hL
  ·rcases QK.mp hb with z|z
   ·rw[z];exact QO gJ
   ·rcases QK.mp z with z|z
    ·rw[z];exact QO gA
    ·rw[QJ.mp z];exact QO gP
  ·rcases QK.mp z with z|z
   ·exact nj ln z
   ·rcases QK.mp z with z|z
    ·exact na z
    ·exact Qc ln (QJ.mp z)
  ·rw[QT,<- lp]at h
   rw[jME h];refine(p.filterMap _).trans ?_;rw[<- List.map_filterMap,filterMap_getElem?_range]
 ·rw[if_neg c]
  have nj:∀{b},b<sh.heap.objs.size->b≠sh.heap.objs.size:=fun h=>Qc h;refine fin sh _ rfl rfl rfl (fun _ _ e=>e) ?_;have bySlots:∀(g:Nat->Nat) (ord:List Value),g 0=0->ord.length=es.size->ord.Perm (es.toList.map (·.2))->(∀(i:Nat) (A:Around) (s:Shared) (E:VSP) (q:Option (Value×Nat)->Shared->Prop),i<=ord.length->s.heap.get? a=some (setO es ep t)->q ((ord[i]?).map fun x=>(x,g (i+1))) s->wpAny (model pg wd) A (setNext a (g i) i ep) q E s) ->
    jR5 pg wd { sh with heap:=sh.heap.push (jQA (rawInt 0) a es.size ep) } sh.heap.objs.size n es.toList:=fun g ord g0 lo po nx=>by
   have gJ:=QN (o:=jQA (rawInt 0) a es.size ep) sh.heap rfl;have gA:=QH (jQA (rawInt 0) a es.size ep) e0;refine⟨[sh.heap.objs.size,a],fun i v=>ord[i]?=some v,fun i h=>SIt h sh.heap.objs.size a (rawInt (g i)) i es.size ep/\h.get? a=some (setO es ep t),fun A hd=>?_,⟨⟨_,gJ,rfl,by rw[g0];rfl⟩,gA⟩,fun b hb=>?_,fun z=>?_,fun acc h=>?_⟩
   ·rw[QT,<- lo]
    exact jNC hd (nj la) hf lo nx
   ·rcases QK.mp hb with z|z
    ·rw[z];exact QO gJ
    ·rw[QJ.mp z];exact QO gA
   ·rcases QK.mp z with z|z
    ·exact nj ln z
    ·exact na (QJ.mp z)
   ·rw[jN7 (by rw[QT,lo]) h]
    exact po
  cases hb:wd.params.followText "set-order" with
  |true =>
   have pp:(pickOrder (wd.params.setOrder a ep) es).toList.Perm es.toList:=by
    have:=jLN (wd.params.setOrder a ep) es.size 0 es.toList #[] (QT ..);exact this
   refine bySlots (fun _=>0) ((pickOrder (wd.params.setOrder a ep) es).toList.map (·.2)) rfl ?_ (pp.map _) fun i A s E q hi e q'=>jLn hb e hf ?_
   ·rw[QG,pp.length_eq,QT]
   ·rw[QY,qv,Option.map_map]at q'
    exact q'
  |false =>
   have sz:es.size<=1:=by
    rw[hb]at c;rcases pl with z|z
    ·omega
    ·rw[z]at c
     simp at c
     omega
   have ps:t.place.size=es.size:=by
    unfold SetTable.fits at hf;simp only[Qb,beq_iff_eq]at hf;exact hf.1
   refine bySlots (fun i=>if i=0 then 0 else t.place.getD 0 0+1) (es.toList.map (·.2)) rfl (by rw[QG,QT]) (wv _) fun i A s E q hi e q'=>jNs hb e hf sz (led hb) ?_;have q1:(match es[wY t.place (if i=0 then 0 else t.place.getD 0 0+1)]?,t.place[wY t.place (if i=0 then 0 else t.place.getD 0 0+1)]? with|some (_,x),some j=>some (x,j+1)|_,_=>none)=((es.toList.map (·.2))[i]?).map fun x=>(x,if i+1=0 then 0 else t.place.getD 0 0+1):=by
    rw[QG,QT]at hi;rw[QY,qv];generalize t.place=P at ps ⊢;obtain⟨P⟩:=P;obtain⟨el⟩:=es;have ps:P.length=el.length:=ps;have sz:el.length<=1:=sz;have hi:i<=el.length:=hi;have cs:(el=[]/\P=[])∨∃h x p,el=[(h,x)]/\P=[p]:=by
     cases el with
     |nil=>exact .inl ⟨rfl,qg.mp ps⟩
     |cons y r =>
      rw[QL]at sz ps;obtain rfl:r=[]:=qg.mp (by omega);obtain⟨p,hp⟩:=List.length_eq_one_iff.mp ps;exact .inr ⟨y.1,y.2,p,rfl,hp⟩
    rcases cs with⟨rfl,rfl⟩| ⟨h,x,p,rfl,rfl⟩
    ·obtain rfl:i=0:=Nat.le_zero.mp hi
     rfl
    ·rcases Nat.le_one_iff_eq_zero_or_eq_one.mp hi with rfl|rfl
     ·rfl
     ·have:wY #[p] (p+1)=1:=by
       unfold wY;show QBn #[p] (p+1) 1 0 1=1;unfold QBn;rw[if_pos (by decide)];show(if p<p+1 then _ else _)=1;rw[if_pos (WL p)]
       rfl
      show(match (#[(h,x)]:Array (Int×Value))[wY #[p] (p+1)]?,(#[p]:Array Nat)[wY #[p] (p+1)]? with|some (_,x),some j=>some (x,j+1)|_,_=>none)=none;rw[this]
      rfl
   rw[<- q1]at q';exact q'
end
section
noncomputable abbrev nL:Obj:={ cls:=.type "list",data:=.seq #[] }
variable{pg:Program}{wd:World}{Ar:Around}{Er:VSP}{sh:Shared}{a:Addr}
theorem jKq:∀{vs:List Value},(∀v∈vs,∃t,v=.str (sOf v) t)->StrsAre vs (vs.map sOf)
 |[],_=>.nil
 |v::vs,h=>by
  obtain⟨t,e⟩:=h v QF;have r:=jKq (vs:=vs) fun w hw=>h w (QE _ hw);have:=StrsAre.cons (sOf v) t r;rw[<- e]at this;exact this
theorem jIM{zs:List Str}{Q:List Value->Shared->Prop}(hd:Ar.handled=none)(S:jJm pg wd sh.heap a (!wd.params.followText "set-order") zs)(bd:zs.length<=4000)
  (k:∀s' vs ys,StrsAre vs ys->ys.Perm zs->(∀b o,sh.heap.get? b=some o->s'.heap.get? b=some o)->s'.gens=sh.gens->s'.os=sh.os->sh.heap.objs.size<s'.heap.objs.size->Q vs s'):wpAny (model pg wd) Ar (collect (.ref a)) Q Er sh:=by
 obtain⟨es,ep,t,e0,el,ez,nd,hf,hb,hp⟩:=S;have sz:es.size=zs.length:=by rw[<- ez,QG,QT]
 have hs:sizeLine=16777216:=QW;have la:=QO e0;generalize hn:sh.heap.objs.size=n at la;have na:n≠a:=wP la;unfold collect;refine QA (wpAny_runValue (wL F.entry_proto_collect ?_));rw[qh F.plain_proto_collect _];refine QA (m:=newList []) (Qp ?_);rw[hn];refine QI ⟨WW QBo _,wL F.entry_list_iadd ?_⟩;rw[qh QBo _];show wpAny _ Ar.in1 (W6 (.ref n) (.ref a) (.ref n)) _ _ _;have gN:(sh.heap.push nL).get? n=some nL:=hn▸QN _ rfl;have gA:(sh.heap.push nL).get? a=some (setO es ep t):=QH _ e0;have ns:Builtin.List.listSameRef (.ref n) (.ref a)=false:=beq_eq_false_iff_ne.mpr na;unfold W6 Builtin.List.listLengthHint;refine QA (QAH (T:="set") ⟨_,gA,rfl⟩ ?_);rw[if_neg (by simp only[ns];decide)];refine QA (jTv (sh:={ sh with heap:=sh.heap.push nL }) (n:=n) gA hf (by omega) (fun h=>by rw[hb,h];rfl) hp na (QO gN) fun s1 j kp g1 g2 g3 nj gv=>?_);have ty:s1.TypeIs (.ref a) "set":=⟨_,kp a _ gA,rfl⟩
 refine QA (qT (QA (wpAny_specialOf ty F.slot_set_len.lookup ?_)));generalize hx:("set.__len__":String)=x
 wp_delta
 rw[show splitId x=some ("set","__len__") by rw[<- hx];decide +kernel];subst hx;refine QA (Wu (b:=true) ty (by rw[QBE];kernel_rfl) ?_);show wpAny _ _ (typeOf (.ref a) >>= _) _ _ _;refine QA (QAH ty (QI ?_));rw[if_pos (by decide)];have sN:=kp n _ gN;refine QA (QAV (QA ?_));show wpAny _ Ar.in1 (updateSeq n (·.push .none) >>= fun _=>updateSeq n (·.pop)) _ _ _;refine QA (wpAny_updateSeq sN rfl ?_);have sN2:=Q1 (qI (·.push Value.none)) sN rfl;refine wpAny_updateSeq (hz:=by seq_fits) sN2 rfl ?_;have sN3:=Q1 (qI (·.pop)) sN2 rfl;have oth:∀b o,b≠n->s1.heap.get? b=some o->((s1.heap.update n (qI (·.push Value.none))).update n (qI (·.pop))).get? b=some o:=fun b o z e=>by rw[Q6 _ _ (Q2 z),Q6 _ _ (Q2 z)];exact e
 obtain⟨fp,P,St,W,st0,lt,nf,fin⟩:=gv;have W1:=(W Ar.in1 hd).toS;have lz:es.toList.length=es.size:=QT ..;refine QI ⟨WW F.plain_extend_loop _,codeAny_extend_loopS W1 (by omega) _ nf _ _ 0 _ _ _ rfl (qG _) (W1.frame 0 s1 _ s1.toks st0 (QU _) fun b hb o e=>oth b o (fun z=>nf (z▸hb)) e) sN3 (ItemsOf.nil P) fun s' acc c mv gs it=>?_⟩;refine QA (m:=load n) (wpAny_load gs (QI ?_));have pm:=fin acc it;have q1:=mv.gens;have q2:=mv.os;refine k s' acc.toList (acc.toList.map sOf) (jKq fun v hv=>?_) ?_ (fun b o e=>?_) (q1.trans g1) (q2.trans g2) (hn▸QO gs)
 ·obtain⟨e,he,rfl⟩:=Qg.mp (pm.mem_iff.mp hv)
  exact jPU el he
 ·have:=pm.map sOf
  rw[Qq]at this;rw[<- ez];exact this
 ·have e1:(sh.heap.push nL).get? b=some o:=QH _ e
  have lb:b<n:=hn▸QO e;exact mv.heap b o (fun m=>(QK.mp m).elim (Qc lb) fun y=>nj b o e1 (QJ.mp y)) (oth b o (Qc lb) (kp b o e1))
end
section
variable{pg:Program}{wd:World}{Ar:Around}{Er:VSP}{sh:Shared}{a:Addr}
theorem jJz{zs:List Str}{Q:VSP}(hd:Ar.handled=none)(S:jJm pg wd sh.heap a (!wd.params.followText "set-order") zs)(h64:zs.length<64)
  (k:∀s' l out ys e,StrsAre out ys->ys.Perm zs->sortedS ys=true->s'.heap.get? l=some (seqObj "list" out.toArray e)->sh.heap.objs.size<=l->(∀b o,sh.heap.get? b=some o->s'.heap.get? b=some o)->s'.gens=sh.gens->s'.os=sh.os->Q (.ref l) s') :
  wpAny (model pg wd) Ar (call (.builtin "sorted") [.ref a]) Q Er sh:=by
 have hz:sizeLine=16777216:=QW;refine QAO kind_sorted plain_sorted entry_sorted (args_sorted1 _) ?_;unfold Builtin.«sorted»;refine QA (m:=checkCount "sorted" 1 1 _) (QI (QA (jIM hd S (by omega) fun s1 vs ys sv pq kp g1 g2 ls=>?_)));have lv:vs.length=zs.length:=(jHl sv).1.trans pq.length_eq;refine QA (QBY ?_ (by omega));have gL:(s1.heap.push (seqObj "list" vs.toArray 0)).get? s1.heap.objs.size=some (seqObj "list" vs.toArray 0):=QN _ rfl;refine QA (qT (Q0 slot_list_sort ⟨_,gL,rfl⟩ entry_list_sort ?body (args_list_sort _)));refine list_sort_treeK strKind_oneLt gL sv.keysOf (fun v₁ v₂ rest e=>keyKind_strs (by rw[<- e];exact sv)) (by omega) fun st' hp hs=>?_;obtain⟨ss',h1,h2,h3⟩:=sorted_out_str sv hp hs;obtain⟨e,ge⟩:=sortedHeap_at (out:=(arrOf st').map (·.2)) gL;refine⟨_,rfl,QI ⟨_,rfl,k _ s1.heap.objs.size ((arrOf st').map (·.2)).toList ss' e h1 (h2.trans pq) h3 (by rw[Array.toArray_toList];exact ge) (QAE ls) (fun b o eb=>?_) g1 g2⟩⟩;have lb:=QO (kp b o eb);rw[sortedHeap_old (Qc lb) (by rw[size_push'];exact qb lb)];exact QH _ (kp b o eb)
end
def jQK(K:QD)(x:V)(H:Hp)(Q:VK):Prop:=∃p,∃ss:List Str,x=.ref p/\SqL K H p (ss.map V.str)/\ss.length<4000/\∀zs:List Str,zs.Nodup->(∀s,s∈zs↔s∈ss)->Q (.int zs.length) H
def jQJ(K:QD)(x:V)(H:Hp)(Q:VK):Prop:=∃p,∃ss:List Str,x=.ref p/\SqL K H p (ss.map V.str)/\ss.length<64/\∀(l:Addr) (zs:List Str),H l=none->zs.Nodup->(∀s,s∈zs↔s∈ss)->sortedS zs=true->Q (.ref l) (upd H l (.lst (zs.map V.str)))
theorem _root_.L2.Inv.anyd{X:Cx}{pins:LAO}{σ:St}{H:Hp}{s:Shared}{d':Drawn}(I:Inv X pins σ H s):Inv X pins σ H { s with drawn:=d' }:=⟨I.ok,I.os,I.bare,I.base,I.loc,I.cell,I.free,I.freeC,I.pin,I.hok,I.len⟩
theorem jST:∀{ys:List Str}{its:List Value},jAQ (ys.map V.str) its->StrsAre its ys
 |[],[],_=>.nil
 |y::ys,u::its,h=>by
  rw[QR]at h;cases h with
  |cons h t =>
   obtain⟨k,rfl⟩:=h;exact .cons _ _ (jST t)
 |_::_,[],h=>by cases h
 |[],_::_,h=>by cases h
theorem jV1{ss:List Str}{its:List Value}(h:StrsAre its ss):jAQ (ss.map V.str) its:=by
 induction h with
 |nil=>exact .nil
 |cons y t _ ih=>exact .cons ⟨t,rfl⟩ ih
section
variable{X:Cx}{a:Expr}{ta:TE}{p2 pos2:Pos}
theorem jOw{pins:LAO}{s:Shared}{σ:St}{H:Hp}{Qv:List Value->Shared->Prop}{R:V->Hp->Prop}(hc:X.calm=true)(g2:Gl X "set")(m2:X.mg "set"=none)(ha:PE X a ta)(st:starEach [a] X.env=(false,eval a X.env)::starEach [] X.env)(I:Inv X pins σ H s)(h:ta σ H R)
  (k:∀x H1 s1,R x H1->Inv X pins σ H1 s1->∃p,∃ss:List Str,x=.ref p/\SqL X.K H1 p (ss.map V.str)/\ss.length<4000/\∀s2 zs,Inv X pins σ H1 s2->jJm X.prog X.w s2.heap s1.heap.objs.size (!X.w.params.followText "set-order") zs->(∀z,z∈zs↔z∈ss)->zs.length<=ss.length->Qv [.ref s1.heap.objs.size] s2) (pos:Pos) :
  wpAny (model X.prog X.w) X.A (spliced (backTo pos (starEach [.Call (.Name "set" p2) [a] [] pos2] X.env))) Qv X.xe s:=by
 show wpAny _ _ (spliced ((false,eval (.Call (.Name "set" p2) [a] [] pos2) X.env)::[])) _ _ s;refine QAF (qy (jDt I g2 m2 PyProof.Rows.boot_set (wI ?_ st rfl)));rw[st];show wpAny _ _ (spliced ((false,eval a X.env)::[])) _ _ s;refine QAF (thn (ha pins s σ H _ I h) fun u s1 ⟨x,H1,I1,rx,r⟩=>QAS ?_);obtain⟨p,ss,rfl,hq,lt,q⟩:=k x H1 s1 r I1;cases rx;obtain⟨its,r',pl,hz⟩:=I1.list hq;have hl:ss.length=its.length:=by rw[<- r'.length,QG]
 refine jGP (I1.ok.hd hc) pl.isList (by simpa using jST r') (by rw[QS];omega) fun h' tk zs S m l kp=>QAS (q _ zs (I1.kept (t':=tk) kp) S m (by rw[QS]at l;omega))
theorem jQc{p1 pos:Pos}(hc:X.calm=true)(g1:Gl X "len")(g2:Gl X "set")(m1:X.mg "len"=none)(m2:X.mg "set"=none)(ha:PE X a ta)(st:starEach [a] X.env=(false,eval a X.env)::starEach [] X.env) :
  PE X (.Call (.Name "len" p1) [.Call (.Name "set" p2) [a] [] pos2] [] pos) fun σ H Q=>ta σ H fun x H1=>jQK X.K x H1 Q:=by
 intro pins s σ H Q I h;refine qy (jDt I g1 m1 PySem.boot_len (wj (jOw hc g2 m2 ha st I h (fun x H1 s1 ⟨p,ss,e,hq,lt,q⟩ I1=>⟨p,ss,e,hq,lt,fun s2 zs I2 S m l=>?_⟩) pos) rfl rfl));obtain⟨es,ep,t,e0,el,ez,nd,hf,hb,hp⟩:=S;have sz:es.size=zs.length:=by rw[<- ez,QG,QT]
 refine call_len_set e0 ⟨rfl,rfl,rfl⟩ rfl hf (by omega) ⟨.int zs.length,H1,I2.tok _,⟨_,by rw[sz]⟩,q zs nd m⟩
theorem jQb{p1 pos:Pos}(hc:X.calm=true)(g1:Gl X "sorted")(g2:Gl X "set")(m1:X.mg "sorted"=none)(m2:X.mg "set"=none)(ha:PE X a ta)(st:starEach [a] X.env=(false,eval a X.env)::starEach [] X.env) :
  PE X (.Call (.Name "sorted" p1) [.Call (.Name "set" p2) [a] [] pos2] [] pos) fun σ H Q=>ta σ H fun x H1=>jQJ X.K x H1 Q:=by
 intro pins s σ H Q I h;refine qy (jDt I g1 m1 QAW (wj (jOw hc g2 m2 ha st I h (fun x H1 s1 ⟨p,ss,e,hq,lt,q⟩ I1=>⟨p,ss,e,hq,by omega,fun s2 zs I2 S m l=>?_⟩) pos) rfl rfl));have nd:=S;obtain⟨_,_,_,_,_,_,nd,_⟩:=nd;refine jJz (I2.ok.hd hc) S (by omega) fun s' l out ys e sv pq so ge le kp g1 g2=>?_;obtain⟨h',gs,dr,tk,oo⟩:=s';cases g1;cases g2;have lo:=(jHl sv).1;have lp:=pq.length_eq;have hz:sizeLine=16777216:=QW;refine⟨.ref l,upd H1 l (.lst (ys.map V.str)),(I2.laid (t':=tk) (h':=h') kp le (show jAk X.prog X.w _ h' _ (.lst (ys.map V.str)) from⟨by rw[QG];omega,out,e,jV1 sv,ge⟩)).anyd,rfl,q l ys (I2.hok.fresh le) (pq.nodup_iff.mpr nd) (fun z=>(pq.mem_iff).trans (m z)) so⟩
end
inductive Bi where
 |len|any|all|list|sorted
 deriving DecidableEq
inductive Mt where
 |append|pop|join|setd
 deriving DecidableEq
inductive ItK where
 |val|rng1|enum|itm
 deriving DecidableEq
inductive Tg where
 |nm (i:Nat)|tp (is:List Nat)
 deriving DecidableEq
set_option genSizeOf false in
set_option genInjectivity false in
inductive PX where
 |var (i:Nat)|int (i:Int)|str (x:Str)|bl (b:Bool)|non
 |glo (x:Str)|bty (x:Str) (n:String)
 |bin (op:Operator) (a b:PX)
 |cmp (op:CmpOp) (a b:PX)|neg (a:PX)
 |and (a b:PX)|or (a b:PX)|not (a:PX)
 |call (f:Str) (as:PX)
 |bi (f:Bi) (as:PX)|isi (a c:PX)
 |mt (m:Mt) (o as:PX)
 |idx (a b:PX)|slc (a lo hi:PX)|nop
 |lst (as:PX)|tup (as:PX)|dnew (b:Bool)|dsp (a b:PX)|lset (a:PX)|sset (a:PX)
 |comp (mask:List Bool) (tgs:List Str) (tg:Tg) (ik:ItK) (its cond elt:PX)
 |anil|acons (a as:PX)
structure Ev where
 sp:Str->Sp
 va:Str->V
structure W3 where
 e:TE
 t:TT
 a:TA
noncomputable def never:W3:=⟨fun _ _ _=>False,fun _ _ _=>False,fun _ _ _=>False⟩
def jGX(K:QD)(x:V)(H:Hp)(Q:Bool->Hp->Prop):Prop:=match x with
 | .bl b=>Q b H
 | .int i=>Q (i != 0) H
 | .non=>Q false H
 | .str z=>z.length<=sizeLine/\Q ((z.length:Int) != 0) H
 |x=>∃k,jWu K x H k/\Q k H
def asB(x:V)(H:Hp)(Q:Bool->Hp->Prop):Prop:=match x with
 | .bl b=>Q b H
 |_=>False
noncomputable def jVp(K:QD):Operator->R2
 | .Add=>jXX K
 | .Sub=>jXL
 | .Mult=>jXP K
 | .FloorDiv=>jSm
 | .Mod=>jXQ
 |_=>fun _ _ _ _=>False
noncomputable def jRX:R2:=fun x y H Q=>∃b c,x=.bl b/\y=.bl c/\Q (.bl (decide (b=c))) H
noncomputable def jUI(K:QD):CmpOp->R2
 | .Eq=>rEq K false
 | .NotEq=>rEq K true
 | .Lt=>jR6 fun i j=>decide (i<j)
 | .LtE=>jR6 fun i j=>decide (i<=j)
 | .Gt=>jR6 fun i j=>decide (j<i)
 | .GtE=>jR6 fun i j=>decide (j<=i)
 | .In=>jO2 K false
 | .NotIn=>jO2 K true
 | .Is=>jRX
 |_=>fun _ _ _ _=>False
noncomputable def jR7(K:QD):R2:=fun x y H Q=>match x,y with
 | .str z,.int i=>z.length<=sizeLine/\∃c,atI z.cps.toList i=some c/\Q (.str ⟨#[c]⟩) H
 | .ref a,.int i=>∃xs v,(SqL K H a xs∨SqT K H a xs)/\atI xs i=some v/\Q v H
 | .ref a,.str z=>∃v,jOd K H a (.str z) (some v)/\Q v H
 | .ref a,.ref b=>∃v,jOd K H a (.ref b) (some v)/\Q v H
 |_,_=>False
noncomputable def jQL(K:QD):List V->Hp->VK->Prop:=fun vs H Q=>∃p ys,vs=[.ref p]/\(SqL K H p ys∨SqT K H p ys)/\∀l,H l=none->Q (.ref l) (upd H l (.lst ys))
noncomputable def jLE(K:QD):List V->Hp->VK->Prop:=fun vs H Q=>∃p,vs=[.ref p]/\((∃ss:List Str,SqL K H p (ss.map V.str)/\ss.length<64/\∀l ss',H l=none->ss'.Perm ss->sortedS ss'=true->Q (.ref l) (upd H l (.lst (ss'.map V.str)))) ∨
   (∃xs,SqL K H p xs/\xs.length<64/\(∀x∈xs,∃a,∃ss:List Str,x=.ref a/\SqL K H a (ss.map V.str))/\∀l ys,H l=none->ys.Perm xs->Q (.ref l) (upd H l (.lst ys))))
noncomputable def biR(K:QD):Bi->List V->Hp->VK->Prop
 | .len=>jXR K
 | .any=>jXV K
 | .all=>jXW K
 | .list=>jQL K
 | .sorted=>jLE K
noncomputable def jSj:V->List V->Hp->VK->Prop:=fun x vs H Q=>∃l i xs k v,x=.ref l/\vs=[.int i]/\H l=some (.lst xs)/\ixN xs.length i=some k/\xs[k]?=some v/\Q v (upd H l (.lst (xs.eraseIdx k)))
noncomputable def jSl(K:QD):V->List V->Hp->VK->Prop:=fun x vs H Q=>∃z b,∃ys:List Str,x=.str z/\vs=[.ref b]/\SqL K H b (ys.map V.str)/\(ys.map (·.length)).sum+ys.length * z.length<=16777216/\Q (.str (QAh z ys)) H
noncomputable def mtR(K:QD):Mt->V->List V->Hp->VK->Prop
 | .append=>jLF
 | .pop=>jSj
 | .join=>jSl K
 | .setd=>jFz K
noncomputable def Mt.ty:Mt->String
 | .append=>"list"
 | .pop=>"list"
 | .join=>"str"
 | .setd=>"dict"
def jHw(x:V)(H:Hp)(Q:Option Int->Hp->Prop):Prop:=match x with
 | .int i=>Q (some i) H
 |_=>False
inductive Item where
 |one (v:V)|tup (vs:List V)
noncomputable def jBm(K:QD):ItK->List V->Hp->(List Item->(Hp->Prop)->Hp->Prop)->Prop
 | .val,[.str z],H,R=>R (z.cps.toList.map fun c=>.one (.str ⟨#[c]⟩)) (fun _=>True) H
 | .val,[.ref a],H,R=>(∃xs,SqL K H a xs/\R (xs.map .one) (fun H=>SqL K H a xs) H)∨(∃xs,SqT K H a xs/\R (xs.map .one) (fun H=>SqT K H a xs) H)∨(∃ep,∃kvs:List KE,H a=some (.dT ep kvs)/\R (kvs.map fun p=>.one (.ref p.2.1)) (fun H=>H a=some (.dT ep kvs)) H)
 | .rng1,[.int j],H,R=>(-(2 ^ 62)<=j/\j<2 ^ 62)/\R ((qE j.toNat).map fun(i:Nat)=>.one (.int (i:Int))) (fun _=>True) H
 | .enum,[.ref a],H,R=>∃z xs,Src.adr z=a/\SqS K H z xs/\R (xs.zipIdx.map fun p=>.tup [.int (p.2:Int),p.1]) (fun H=>SqS K H z xs) H
 | .itm,[.ref a],H,R=>∃ep,∃kvs:List KE,H a=some (.dT ep kvs)/\R (kvs.map fun p=>.tup [.ref p.2.1,p.2.2]) (fun H=>H a=some (.dT ep kvs)) H
 |_,_,_,_=>False
noncomputable def jAl:List Nat->List V->St->Option St
 |[],[],σ=>some σ
 |i::is,v::vs,σ=>jAl is vs (σ.set i (some v))
 |_,_,_=>none
noncomputable def jDd(K:QD):Tg->TG
 | .nm i=>fun v σ H Q=>Q (σ.set i (some v)) H
 | .tp is=>fun v σ H Q=>match v with
  | .ref p=>∃xs σ',SqT K H p xs/\jAl is xs σ=some σ'/\Q σ' H
  |_=>False
noncomputable def bindI(K:QD)(tg:Tg):Item->St->Hp->(St->Hp->Prop)->Prop
 | .one v=>jDd K tg v
 | .tup vs=>fun σ H Q=>match tg with
  | .tp is=>∀H',Same H H'->∃σ',jAl is vs σ=some σ'/\Q σ' H'
  | .nm i=>∀p,H p=none->Q (σ.set i (some (.ref p))) (upd H p (.tup vs))
def jWj(K:QD)(xs:List Item)(st:Hp->Prop)(bind:Item->St->Hp->(St->Hp->Prop)->Prop)(tc:TT)(te:TE)(σ:St)(H:Hp)(Q:VK):Prop :=
 ∃W:Nat->List V->Hp->Prop,W 0 [] H/\(∀i acc H,i<=xs.length->W i acc H->st H) /\
  (∀i x acc H,xs[i]?=some x->W i acc H->bind x σ H fun σ2 H2=>tc σ2 H2 fun b H3=>if b=true then te σ2 H3 fun y H4=>acc.length<sizeLine/\W (i+1) (acc++[y]) H4 else W (i+1) acc H3) /\
  ∀acc H2,W xs.length acc H2->acc.length<=sizeLine/\∀p,H2 p=none->Q (.ref p) (upd H2 p (.lst acc))
structure Yields(J:It)(xs:List Item)(st:Hp->Prop):Prop where
 go:∀i H,st H->i<xs.length->J.go i H
 yld:∀i H x H',st H->i<xs.length->J.yld i H x H'->∃it,xs[i]?=some it/\match it with
  | .one v=>x=v/\H'=H
  | .tup vs=>∃p,H p=none/\x=.ref p/\H'=upd H p (.tup vs)
 stop:∀i H,st H->xs.length<=i->J.stop i H
def jWk(J:It)(g:TG)(tc:TT)(te:TE)(σ0:St)(H1:Hp)(Q:VK):Prop:=∃W:Nat->Nat->List V->St->Hp->Prop,(∃m,W 0 m [] σ0 H1) /\
 ∀i m acc σ' H',W i m acc σ' H'->(J.stop i H'/\acc.length<=sizeLine/\∀p,H' p=none->Q (.ref p) (upd H' p (.lst acc))) ∨
  (J.go i H'/\∀x H2,J.yld i H' x H2->g x σ' H2 fun σ3 H3=>tc σ3 H3 fun b H4=>if b=true then te σ3 H4 fun y H5=>acc.length<sizeLine/\∃m',m' < m/\W (i+1) m' (acc++[y]) σ3 H5 else ∃m',m' < m/\W (i+1) m' acc σ3 H4)
def jOe(K:QD)(xs:List Item)(st:Hp->Prop)(tg:Tg)(tc:TT)(te:TE)(σ0:St)(H:Hp)(Q:VK):Prop:=∀J,Yields J xs st->jWk J (jDd K tg) tc te σ0 H Q
noncomputable def isNop:PX->Bool
 | .nop=>true
 |_=>false
noncomputable def wp(K:QD)(Γ:Ev):PX->XK->W3
 | .var i,E=>let e:TE:=fun σ H Q=>match σ[i]? with
   |some (some v)=>Q v H
   |_=>False
  ⟨e,fun σ H Q=>e σ H fun x H1=>jGX K x H1 Q,never.a⟩
 | .int i,E=>⟨fun _ H Q=>Q (.int i) H,fun _ H Q=>Q (i != 0) H,never.a⟩
 | .str x,E=>⟨fun _ H Q=>Q (.str x) H,never.t,never.a⟩
 | .bl b,E=>⟨fun _ H Q=>Q (.bl b) H,fun _ H Q=>Q b H,never.a⟩
 | .non,E=>⟨fun _ H Q=>Q .non H,fun _ H Q=>Q false H,never.a⟩
 | .glo x,E=>⟨fun _ H Q=>Q (Γ.va x) H,fun _ H Q=>jGX K (Γ.va x) H Q,never.a⟩
 | .bty _ n,E=>⟨fun _ H Q=>Q (.ty n) H,never.t,never.a⟩
 | .bin op a b,E=>let e:TE:=fun σ H Q=>(wp K Γ a E).e σ H fun x H1=>(wp K Γ b E).e σ H1 fun y H2=>jVp K op x y H2 Q
  ⟨e,fun σ H Q=>e σ H fun x H1=>jGX K x H1 Q,never.a⟩
 | .cmp op a b,E=>let e:TE:=fun σ H Q=>(wp K Γ a E).e σ H fun x H1=>(wp K Γ b E).e σ H1 fun y H2=>jUI K op x y H2 Q
  ⟨e,fun σ H Q=>e σ H fun x H1=>asB x H1 Q,never.a⟩
 | .neg a,E=>⟨fun σ H Q=>(wp K Γ a E).e σ H fun x H1=>match x with
   | .int i=>Q (.int (-i)) H1
   |_=>False,never.t,never.a⟩
 | .and a b,E=>⟨fun σ H Q=>(wp K Γ a E).e σ H fun x H1=>asB x H1 fun c H2=>if c=true then(wp K Γ b E).e σ H2 Q else Q (.bl false) H2,
   fun σ H Q=>(wp K Γ a E).t σ H fun c H1=>if c=true then(wp K Γ b E).t σ H1 Q else Q false H1,never.a⟩
 | .or a b,E=>⟨fun σ H Q=>(wp K Γ a E).e σ H fun x H1=>asB x H1 fun c H2=>if c=true then Q (.bl true) H2 else(wp K Γ b E).e σ H2 Q,
   fun σ H Q=>(wp K Γ a E).t σ H fun c H1=>if c=true then Q true H1 else(wp K Γ b E).t σ H1 Q,never.a⟩
 | .not a,E=>⟨fun σ H Q=>(wp K Γ a E).e σ H fun x H1=>jGX K x H1 fun c H2=>Q (.bl (!c)) H2,fun σ H Q=>(wp K Γ a E).t σ H fun c H1=>Q (!c) H1,never.a⟩
 | .call f as,E=>let e:TE:=fun σ H Q=>(wp K Γ as E).a σ H fun vs H1=>Γ.sp f vs H1 Q E
  ⟨e,fun σ H Q=>e σ H fun x H1=>jGX K x H1 Q,never.a⟩
 | .bi f as,E=>let e:TE:=fun σ H Q=>(wp K Γ as E).a σ H fun vs H1=>biR K f vs H1 Q
  ⟨e,fun σ H Q=>e σ H fun x H1=>jGX K x H1 Q,never.a⟩
 | .isi a c,E=>let e:TE:=fun σ H Q=>(wp K Γ a E).e σ H fun x H1=>(wp K Γ c E).e σ H1 fun y H2=>jWF K [x,y] H2 Q
  ⟨e,fun σ H Q=>e σ H fun x H1=>jGX K x H1 Q,never.a⟩
 | .mt m o as,E=>let e:TE:=fun σ H Q=>(wp K Γ o E).e σ H fun x H1=>tyV K m.ty x H1/\(wp K Γ as E).a σ H1 fun vs H2=>mtR K m x vs H2 Q
  ⟨e,fun σ H Q=>e σ H fun x H1=>jGX K x H1 Q,never.a⟩
 | .idx a b,E=>let e:TE:=fun σ H Q=>(wp K Γ a E).e σ H fun x H1=>(wp K Γ b E).e σ H1 fun y H2=>jR7 K x y H2 Q
  ⟨e,fun σ H Q=>e σ H fun x H1=>jGX K x H1 Q,never.a⟩
 | .slc a lo hi,E=>⟨fun σ H Q=>(wp K Γ a E).e σ H fun x H1 =>
   (if isNop lo=true then fun(R:Option Int->Hp->Prop)=>R none H1 else fun R=>(wp K Γ lo E).e σ H1 fun l H2=>jHw l H2 R) fun l H2 =>
   (if isNop hi=true then fun(R:Option Int->Hp->Prop)=>R none H2 else fun R=>(wp K Γ hi E).e σ H2 fun u H3=>jHw u H3 R) fun u H3=>rSl K x l u H3 Q,never.t,never.a⟩
 | .nop,E=>never
 | .lst as,E=>⟨fun σ H Q=>(wp K Γ as E).a σ H fun xs H1=>xs.length<=sizeLine/\∀p,H1 p=none->Q (.ref p) (upd H1 p (.lst xs)),never.t,never.a⟩
 | .tup as,E=>⟨fun σ H Q=>(wp K Γ as E).a σ H fun xs H1=>xs.length<=sizeLine/\∀p,H1 p=none->Q (.ref p) (upd H1 p (.tup xs)),never.t,never.a⟩
 | .comp mask tgs tg ik its cond elt,E=>⟨fun σ H Q=>(wp K Γ its E).a σ H fun vs H1=>jBm K ik vs H1 fun xs st H2 =>
   jOe K xs st tg (if isNop cond=true then fun _ H Q=>Q true H else(wp K Γ cond (fun _ _ _=>False)).t) (wp K Γ elt (fun _ _ _=>False)).e (jJW tgs.length mask σ) H2 Q,never.t,never.a⟩
 | .dnew b,E=>⟨fun _ H Q=>∀p,H p=none->Q (.ref p) (upd H p (.dT 0 [])),never.t,never.a⟩
 | .dsp a b,E=>⟨fun σ H Q=>∀p,H p=none->(wp K Γ a E).e σ (upd H p (.dT 0 [])) fun y H1=>(wp K Γ b E).e σ H1 fun v H2=>H2 p=some (.dT 0 [])/\∃b ks,y=.ref b/\SqT K H2 b (ks.map kV)/\∀ep,Q (.ref p) (upd H2 p (.dT ep [(ks,b,v)])),never.t,never.a⟩
 | .lset a,E=>⟨fun σ H Q=>(wp K Γ a E).e σ H fun x H1=>jQK K x H1 Q,never.t,never.a⟩
 | .sset a,E=>⟨fun σ H Q=>(wp K Γ a E).e σ H fun x H1=>jQJ K x H1 Q,never.t,never.a⟩
 | .anil,E=>⟨never.e,never.t,fun _ H Q=>Q [] H⟩
 | .acons a as,E=>⟨never.e,never.t,fun σ H Q=>(wp K Γ a E).e σ H fun x H1=>(wp K Γ as E).a σ H1 fun xs H2=>Q (x::xs) H2⟩
structure Glob where
 ev:Ev
 fn:Str->Prop
 val:Str->Prop
 no:Str->Prop
noncomputable def Bi.nm:Bi->Str
 | .len=>"len"
 | .any=>"any"
 | .all=>"all"
 | .list=>"list"
 | .sorted=>"sorted"
noncomputable def Mt.nm:Mt->Str
 | .append=>"append"
 | .pop=>"pop"
 | .join=>"join"
 | .setd=>"setdefault"
noncomputable def ikN(G:Glob):ItK->Prop
 | .val=>True
 | .rng1=>G.no "range"
 | .enum=>G.no "enumerate"
 | .itm=>True
noncomputable def jAn(G:Glob):PX->Prop
 | .glo x=>G.val x
 | .bty x n=>G.no x/\bootBuiltins x=some (.type n)
 | .bin _ a b | .cmp _ a b | .and a b | .or a b | .idx a b | .acons a b | .dsp a b=>jAn G a/\jAn G b
 | .not a | .neg a | .lst a | .tup a=>jAn G a
 | .slc a b c=>jAn G a/\jAn G b/\jAn G c
 | .lset a=>G.no "len"/\G.no "set"/\jAn G a
 | .sset a=>G.no "sorted"/\G.no "set"/\jAn G a
 | .call f as=>G.fn f/\jAn G as
 | .bi f as=>G.no f.nm/\jAn G as
 | .isi a c=>G.no "isinstance"/\jAn G a/\jAn G c
 | .mt _ o as=>jAn G o/\jAn G as
 | .comp _ _ _ ik its cond elt=>ikN G ik/\jAn G its/\jAn G cond/\jAn G elt
 |_=>True
structure SC where
 N:List Str
 sc:Scope
noncomputable def jBN:Expr->Bool
 | .Starred _ _=>false
 |_=>true
noncomputable def jV0(S:SC)(i:Nat)(x:Str):Bool :=
 S.N[i]?==some x&&(S.sc.names.lookup x==some .local||S.sc.names.lookup x==some .cell||S.sc.names.lookup x==some .free)&&x != "__debug__" && x != "__classdict__"
noncomputable def jWc(S:SC)(i:Nat)(x:Str):Bool:=S.N[i]?==some x&&S.sc.names.lookup x==some .local
noncomputable def jM3(S:SC)(x:Str):Bool:=S.sc.names.lookup x==some .globalImplicit&&x != "__debug__" && x != "__name__"
noncomputable def jOQ(S:SC)(scope:Scope)(tgs:List Str)(mask:List Bool):SC:=⟨tgs++jBI mask 0 S.N,jFy scope S.sc⟩
noncomputable def jGx:List Str->Bool
 |[]=>true
 |x::r=>!r.contains x&&jGx r
noncomputable def jRo(S:SC)(scope:Scope)(tgs:List Str)(mask:List Bool):Bool :=
 scope.kind==.function&&scope.names.all (fun y=>y.2 != .cell&&(y.2 != .local||(scope.names.lookup y.1==some .local&&(tgs.contains y.1||y.1==(".0":Str)))) &&
  (y.2 != .free||S.sc.names.lookup y.1==some .cell||S.sc.names.lookup y.1==some .free))&&jGx (tgs++jBI mask 0 S.N)&&!(tgs++jBI mask 0 S.N).contains (".0":Str)
noncomputable def lcB(c:Bool)(S:SC)(i:Nat)(x:Str):Bool:=S.N[i]?==some x&&(S.sc.names.lookup x==some .local||(c&&S.sc.names.lookup x==some .cell))
noncomputable def tgB(c:Bool)(S:SC):Tg->Expr->Bool
 | .nm i,.Name x _=>lcB c S i x
 | .tp is,.Tuple es _ _=>is.length==es.length&&(is.zip es).all fun p=>match p.2 with
  | .Name x _=>lcB c S p.1 x
  |_=>false
 |_,_=>false
noncomputable def jH2:Expr->Bool
 | .Call (.Name _ _) [] [] _=>false
 |_=>true
noncomputable def jLk:Expr->Bool
 | .Set _ _ _=>false
 |_=>true
noncomputable def jH3:Expr->Bool
 | .Slice _ _ _ _=>false
 |_=>true
noncomputable def jC7:PX->Bool
 | .anil=>true
 | .acons _ r=>jC7 r
 |_=>false
noncomputable def jJM:Expr->Bool
 | .Tuple _ _ _=>true
 |_=>false
section
variable{α:Type}
noncomputable def jEX(e:Expr)(f:Str->Pos->Bool):Bool:=match e with | .Name x p=>f x p|_=>false
noncomputable def jEY(e:Expr)(f:Const->Bool):Bool:=match e with | .Constant c _ _=>f c|_=>false
noncomputable def jTK(e:Expr)(f:Expr->Operator->Expr->Pos->Bool):Bool:=match e with | .BinOp l o r p=>f l o r p|_=>false
noncomputable def jWO(e:Expr)(f:UnaryOp->Expr->Bool):Bool:=match e with | .UnaryOp o x _=>f o x|_=>false
noncomputable def jTJ(e:Expr)(f:Expr->List CmpOp->List Expr->Bool):Bool:=match e with | .Compare l os rs _=>f l os rs|_=>false
noncomputable def jLe(e:Expr)(f:BoolOp->List Expr->Pos->Bool):Bool:=match e with | .BoolOp o es p=>f o es p|_=>false
noncomputable def jLd(e:Expr)(f:Expr->List Expr->List Keyword->Pos->Bool):Bool:=match e with | .Call g es ks p=>f g es ks p|_=>false
noncomputable def jPE(e:Expr)(f:Expr->Str->Pos->Bool):Bool:=match e with | .Attribute v n p=>f v n p|_=>false
noncomputable def jNg(e:Expr)(f:Expr->Expr->Pos->Bool):Bool:=match e with | .Subscript v i p=>f v i p|_=>false
noncomputable def jLa(e:Expr)(f:Option Expr->Option Expr->Option Expr->Bool):Bool:=match e with | .Slice l h s _=>f l h s|_=>false
noncomputable def jI1(e:Expr)(f:List Expr->Pos->Bool):Bool:=match e with | .List es p=>f es p|_=>false
noncomputable def jTF(e:Expr)(f:List Expr->Nat->Pos->Bool):Bool:=match e with | .Tuple es k p=>f es k p|_=>false
noncomputable def jWP(e:Expr)(f:Expr->List Comprehension->Scope->Pos->Bool):Bool:=match e with | .ListComp x gs sc p=>f x gs sc p|_=>false
noncomputable def jLc(e:Expr)(f:List (Option Expr)->List Expr->Bool):Bool:=match e with | .Dict ks vs _=>f ks vs|_=>false
noncomputable def on1(l:List α)(f:α->Bool):Bool:=match l with | [x]=>f x|_=>false
noncomputable def on2(l:List α)(f:α->α->Bool):Bool:=match l with | [x,y]=>f x y|_=>false
noncomputable def onC(l:List α)(f:α->List α->Bool):Bool:=match l with|x::r=>f x r|_=>false
noncomputable def onO(o:Option α)(n:Bool)(f:α->Bool):Bool:=match o with|none=>n|some x=>f x
theorem jCQ{e:Expr}{f:Str->Pos->Bool}(h:jEX e f=true):∃x p,e=.Name x p/\f x p=true:=by
 cases e with
 |Name x p=>exact⟨x,p,rfl,h⟩
 |_=>exact(QC h).elim
theorem jCz{e:Expr}{f:Const->Bool}(h:jEY e f=true):∃c k p,e=.Constant c k p/\f c=true:=by
 cases e with
 |Constant c k p=>exact⟨c,k,p,rfl,h⟩
 |_=>exact(QC h).elim
theorem jQs{e:Expr}{f:Expr->Operator->Expr->Pos->Bool}(h:jTK e f=true):∃l o r p,e=.BinOp l o r p/\f l o r p=true:=by
 cases e with
 |BinOp l o r p=>exact⟨l,o,r,p,rfl,h⟩
 |_=>exact(QC h).elim
theorem jPC{e:Expr}{f:UnaryOp->Expr->Bool}(h:jWO e f=true):∃o x p,e=.UnaryOp o x p/\f o x=true:=by
 cases e with
 |UnaryOp o x p=>exact⟨o,x,p,rfl,h⟩
 |_=>exact(QC h).elim
theorem jQr{e:Expr}{f:Expr->List CmpOp->List Expr->Bool}(h:jTJ e f=true):∃l os rs p,e=.Compare l os rs p/\f l os rs=true:=by
 cases e with
 |Compare l os rs p=>exact⟨l,os,rs,p,rfl,h⟩
 |_=>exact(QC h).elim
theorem jI4{e:Expr}{f:BoolOp->List Expr->Pos->Bool}(h:jLe e f=true):∃o es p,e=.BoolOp o es p/\f o es p=true:=by
 cases e with
 |BoolOp o es p=>exact⟨o,es,p,rfl,h⟩
 |_=>exact(QC h).elim
theorem jI3{e:Expr}{f:Expr->List Expr->List Keyword->Pos->Bool}(h:jLd e f=true):∃g es ks p,e=.Call g es ks p/\f g es ks p=true:=by
 cases e with
 |Call g es ks p=>exact⟨g,es,ks,p,rfl,h⟩
 |_=>exact(QC h).elim
theorem jNh{e:Expr}{f:Expr->Str->Pos->Bool}(h:jPE e f=true):∃v n p,e=.Attribute v n p/\f v n p=true:=by
 cases e with
 |Attribute v n p=>exact⟨v,n,p,rfl,h⟩
 |_=>exact(QC h).elim
theorem jHy{e:Expr}{f:Expr->Expr->Pos->Bool}(h:jNg e f=true):∃v i p,e=.Subscript v i p/\f v i p=true:=by
 cases e with
 |Subscript v i p=>exact⟨v,i,p,rfl,h⟩
 |_=>exact(QC h).elim
theorem jLZ{e:Expr}{f:Option Expr->Option Expr->Option Expr->Bool}(h:jLa e f=true):∃l u s p,e=.Slice l u s p/\f l u s=true:=by
 cases e with
 |Slice l u s p=>exact⟨l,u,s,p,rfl,h⟩
 |_=>exact(QC h).elim
theorem jF5{e:Expr}{f:List Expr->Pos->Bool}(h:jI1 e f=true):∃es p,e=.List es p/\f es p=true:=by
 cases e with
 |List es p=>exact⟨es,p,rfl,h⟩
 |_=>exact(QC h).elim
theorem jQn{e:Expr}{f:List Expr->Nat->Pos->Bool}(h:jTF e f=true):∃es k p,e=.Tuple es k p/\f es k p=true:=by
 cases e with
 |Tuple es k p=>exact⟨es,k,p,rfl,h⟩
 |_=>exact(QC h).elim
theorem jLb{e:Expr}{f:Expr->List Comprehension->Scope->Pos->Bool}(h:jWP e f=true):∃x gs sc p,e=.ListComp x gs sc p/\f x gs sc p=true:=by
 cases e with
 |ListComp x gs sc p=>exact⟨x,gs,sc,p,rfl,h⟩
 |_=>exact(QC h).elim
theorem jI2{e:Expr}{f:List (Option Expr)->List Expr->Bool}(h:jLc e f=true):∃ks vs p,e=.Dict ks vs p/\f ks vs=true:=by
 cases e with
 |Dict ks vs p=>exact⟨ks,vs,p,rfl,h⟩
 |_=>exact(QC h).elim
theorem jGu{l:List α}{f:α->List α->Bool}(h:onC l f=true):∃x r,l=x::r/\f x r=true:=by
 cases l with
 |nil=>exact(QC h).elim
 |cons x r=>exact⟨x,r,rfl,h⟩
theorem jBC{l:List α}{f:α->Bool}(h:on1 l f=true):∃x,l=[x]/\f x=true:=by
 cases l with
 |nil=>exact(QC h).elim
 |cons x r =>
  cases r with
  |nil=>exact⟨x,rfl,h⟩
  |cons _ _=>exact(QC h).elim
theorem jWR{l:List α}{f:α->α->Bool}(h:on2 l f=true):∃x y,l=[x,y]/\f x y=true:=by
 cases l with
 |nil=>exact(QC h).elim
 |cons x r =>
  obtain⟨y,e,h⟩:=jBC (l:=r) (f:=f x) (by
   cases r with
   |nil=>exact h
   |cons y r=>cases r<;>exact h)
  exact⟨x,y,by rw[e],h⟩
end
noncomputable def jXq(c:Const)(f:Int->Bool):Bool:=match c with | .int i=>f i|_=>false
noncomputable def jXp(c:Const)(f:Str->Bool):Bool:=match c with | .str i=>f i|_=>false
noncomputable def jUe(c:Const)(f:Bool->Bool):Bool:=match c with | .bool i=>f i|_=>false
noncomputable def jUc(c:Const):Bool:=match c with | .none=>true|_=>false
theorem jUd{c:Const}{f:Int->Bool}(h:jXq c f=true):∃i,c=.int i/\f i=true:=by
 cases c with
 |int i=>exact⟨i,rfl,h⟩
 |_=>exact(QC h).elim
theorem jUb{c:Const}{f:Str->Bool}(h:jXp c f=true):∃i,c=.str i/\f i=true:=by
 cases c with
 |str i=>exact⟨i,rfl,h⟩
 |_=>exact(QC h).elim
theorem jRx{c:Const}{f:Bool->Bool}(h:jUe c f=true):∃i,c=.bool i/\f i=true:=by
 cases c with
 |bool i=>exact⟨i,rfl,h⟩
 |_=>exact(QC h).elim
theorem jRw{c:Const}(h:jUc c=true):c=.none:=by
 cases c with
 |none=>rfl
 |_=>exact(QC h).elim
theorem jAE{a b:Bool}(h:(a&&b)=true):a=true/\b=true:=by cases a<;>cases b<;>first|exact⟨rfl,rfl⟩| exact(QC h).elim
noncomputable def jHS(S:SC)(n:Str)(e:Expr)(f:List Expr->List Keyword->Pos->Bool):Bool:=jLd e fun g es ks p=>jEX g fun x _=>n==x&&(jM3 S x&&f es ks p)
theorem jCo{S:SC}{n:Str}{e:Expr}{f:List Expr->List Keyword->Pos->Bool}(h:jHS S n e f=true):∃px es ks p,e=.Call (.Name n px) es ks p/\jM3 S n=true/\f es ks p=true:=by
 obtain⟨g,es,ks,p,rfl,q1⟩:=jI3 h;obtain⟨x,px,rfl,q2⟩:=jCQ q1;have q3:=jAE q2;have q4:=jAE q3.2;have e:=qa q3.1;exact⟨px,es,ks,p,by rw[e],by rw[e];exact q4.1,q4.2⟩
noncomputable def jRH(n:Str)(e:Expr)(f:Expr->List Expr->Pos->Pos->Bool):Bool:=jLd e fun g es ks p=>jPE g fun v x ap=>n==x&&(ks.isEmpty&&(ap.endLine==p.line&&f v es ap p))
theorem jLy{n:Str}{e:Expr}{f:Expr->List Expr->Pos->Pos->Bool}(h:jRH n e f=true):∃v ap es p,e=.Call (.Attribute v n ap) es [] p/\(ap.endLine==p.line)=true/\f v es ap p=true:=by
 obtain⟨g,es,ks,p,rfl,q1⟩:=jI3 h;obtain⟨v,x,ap,rfl,q2⟩:=jNh q1;have q3:=jAE q2;have q4:=jAE q3.2;have q5:=jAE q4.2;have e:=qa q3.1;have e2:=Qu.mp q4.1;exact⟨v,ap,es,p,by rw[e,e2],q5.1,q5.2⟩
noncomputable def jTc(op:BoolOp)(r:Expr)(rest:List Expr)(pos:Pos):Expr:=match rest with
 |[]=>r
 |q::t=>.BoolOp op (r::q::t) pos
noncomputable def itC(ia:Bool)(S:SC)(ik:ItK)(c:List Expr->Pos->Bool)(t it:Expr)(pos:Pos):Bool:=match ik with
 | .val=>ia&&c [it] pos
 | .rng1=>jHS S "range" it fun es ks p=>ks.isEmpty&&on1 es fun a=>c [a] p
 | .enum=>jJM t&&jHS S "enumerate" it fun es ks p=>ks.isEmpty&&on1 es fun a=>c [a] p
 | .itm=>jJM t&&(ia&&jRH "items" it fun v es _ p=>jH2 v&&(es.isEmpty&&c [v] p))
noncomputable def jYq(ifs:List Expr)(n:Bool)(f:Expr->Bool):Bool:=match ifs with
 |[]=>n
 |c::r=>r.isEmpty&&(!n&&f c)
noncomputable def jQ8(S:SC)(f g:Str)(e:Expr)(c:Expr->Bool):Bool:=jHS S f e fun es ks _=>ks.isEmpty&&on1 es fun x=>jHS S g x fun es ks _=>ks.isEmpty&&on1 es fun y=>jBN y&&c y
theorem jLo{S:SC}{f g:Str}{e:Expr}{c:Expr->Bool}(h:jQ8 S f g e c=true):∃p1 p2 pos pos2 y,e=.Call (.Name f p1) [.Call (.Name g p2) [y] [] pos2] [] pos/\jM3 S f=true/\jM3 S g=true/\jBN y=true/\c y=true:=by
 obtain⟨p1,es,ks,pos,rfl,hg,h⟩:=jCo h;have h1:=jAE h;cases Qu.mp h1.1;obtain⟨x,rfl,h3⟩:=jBC h1.2;obtain⟨p2,es,ks,pos2,rfl,hg',h4⟩:=jCo h3;have h2:=jAE h4;cases Qu.mp h2.1;obtain⟨y,rfl,h5⟩:=jBC h2.2;have h6:=jAE h5;exact⟨p1,p2,pos,pos2,y,rfl,hg,hg',h6.1,h6.2⟩
noncomputable def isItm:ItK->Bool
 | .itm=>true
 |_=>false
noncomputable def chk:PX->SC->Expr->Bool
 | .var i,S,e=>jEX e fun x _=>jV0 S i x
 | .int i,_,e=>jEY e fun c=>jXq c fun j=>i==j
 | .str x,_,e=>jEY e fun c=>jXp c fun y=>x==y
 | .bl b,_,e=>jEY e fun c=>jUe c fun k=>b==k
 | .non,_,e=>jEY e jUc
 | .glo x,S,e=>jEX e fun y _=>x==y&&jM3 S x
 | .bty x _,S,e=>jEX e fun y _=>x==y&&jM3 S x
 | .bin op a b,S,e=>jTK e fun l o r _=>op==o&&(chk a S l&&chk b S r)
 | .cmp op a b,S,e=>jTJ e fun l os rs=>on1 os fun o=>on1 rs fun r=>op==o&&(jLk r&&(chk a S l&&chk b S r))
 | .neg a,S,e=>jWO e fun o x=>o==.USub&&chk a S x
 | .and a b,S,e=>jLe e fun o es p=>o==.And&&onC es fun l t=>onC t fun r t=>chk a S l&&chk b S (jTc .And r t p)
 | .or a b,S,e=>jLe e fun o es p=>o==.Or&&onC es fun l t=>onC t fun r t=>chk a S l&&chk b S (jTc .Or r t p)
 | .not a,S,e=>jWO e fun o x=>o==.Not&&chk a S x
 | .call f as,S,e=>jHS S f e fun es ks p=>ks.isEmpty&&chk as S (.List es p)
 | .bi f as,S,e=>jHS S f.nm e fun es ks p=>ks.isEmpty&&onC es fun x t=>chk as S (.List (x::t) p)
 | .isi a c,S,e=>jHS S "isinstance" e fun es ks _=>ks.isEmpty&&on2 es fun l r=>jBN l&&(jBN r&&(chk a S l&&chk c S r))
 | .mt m o as,S,e=>jRH m.nm e fun v es _ p=>jC7 as&&(jH2 v&&(decide (es.length<20)&&(chk o S v&&chk as S (.List es p))))
 | .idx a b,S,e=>jNg e fun v i _=>jH3 i&&(chk a S v&&chk b S i)
 | .slc a lo hi,S,e=>jNg e fun v sl _=>jLa sl fun l h s=>s.isNone&&(chk a S v&&(onO l (isNop lo) (fun e=>!isNop lo&&chk lo S e)&&onO h (isNop hi) fun e=>!isNop hi&&chk hi S e))
 | .nop,_,_=>false
 | .lst as,S,e=>jI1 e fun es p=>chk as S (.List es p)
 | .tup as,S,e=>jTF e fun es _ p=>chk as S (.List es p)
 | .comp mask tgs tg ik its cond elt,S,e=>jWP e fun el gs scope p=>on1 gs fun g=>g.is_async==0&&(!isItm ik&&(jRo S scope tgs mask&&(tgB false (jOQ S scope tgs mask) tg g.target&&(jLk g.iter &&
   (itC (jC7 its) S ik (fun es p=>chk its S (.List es p)) g.target g.iter p&&(jYq g.ifs (isNop cond) (fun c=>chk cond (jOQ S scope tgs mask) c)&&chk elt (jOQ S scope tgs mask) el))))))
 | .dnew _,_,e=>jLc e fun ks vs=>ks.isEmpty&&vs.isEmpty
 | .dsp a b,S,e=>jLc e fun ks vs=>on1 ks fun k=>on1 vs fun v=>onO k false (chk a S)&&chk b S v
 | .lset a,S,e=>jQ8 S "len" "set" e (chk a S)
 | .sset a,S,e=>jQ8 S "sorted" "set" e (chk a S)
 | .anil,_,e=>jI1 e fun es _=>es.isEmpty
 | .acons a as,S,e=>jI1 e fun es p=>onC es fun x t=>jBN x&&(chk a S x&&chk as S (.List t p))
variable{Γ:Ev}
theorem jUr(x:V)(H:Hp)(Q:Bool->Hp->Prop):asB x H Q=∃k,x=.bl k/\Q k H:=by
 apply propext;cases x with
 |bl b=>exact⟨fun h=>⟨b,rfl,h⟩,fun⟨k,e,h⟩=>by cases e;exact h⟩
 |_=>exact⟨fun h=>QZ h,fun⟨k,e,h⟩=>by cases e⟩
theorem jNc(x:V)(H:Hp)(Q:Option Int->Hp->Prop):jHw x H Q=∃i,x=.int i/\Q (some i) H:=by
 apply propext;cases x with
 |int b=>exact⟨fun h=>⟨b,rfl,h⟩,fun⟨k,e,h⟩=>by cases e;exact h⟩
 |_=>exact⟨fun h=>QZ h,fun⟨k,e,h⟩=>by cases e⟩
theorem jKm(K:QD)(x:V)(H:Hp)(Q:Bool->Hp->Prop):jGX K x H Q=∃k,jWu K x H k/\Q k H:=by
 apply propext;cases x with
 |bl b=>exact⟨fun h=>⟨b,rfl,h⟩,fun⟨k,(e:k=b),h⟩=>by subst e;exact h⟩
 |int i=>exact⟨fun h=>⟨i != 0,rfl,h⟩,fun⟨k,(e:k=(i != 0)),h⟩=>by subst e;exact h⟩
 |non=>exact⟨fun h=>⟨false,rfl,h⟩,fun⟨k,(e:k=false),h⟩=>by subst e;exact h⟩
 |str z=>exact⟨fun h=>⟨_,⟨h.1,rfl⟩,h.2⟩,fun⟨k,⟨e1,e2⟩,h⟩=>by subst e2;exact⟨e1,h⟩⟩
 |_=>exact WY
section
variable{X:Cx}
theorem jNa{e:Expr}:PE X e never.e:=fun _ _ _ _ _ _ h=>QZ h
theorem jF0{e:Expr}:PT X e never.t:=fun _ _ _ _ _ _ h=>QZ h
theorem jIw{es:List Expr}:PA X es never.a:=fun _ _ _ _ _ _ _ h=>QZ h
theorem jCB{a:Expr}{ta:TE}(ha:PE X a ta)(he:∀whole,isTrue a X.env whole=(do let v <- whole;standAt a.pos;holding [v] (truthy v))) :
  PT X a (fun σ H Q=>ta σ H fun x H'=>jGX X.K x H' Q):=by
 intro pins s σ H Q I h;refine isTrue_plain (thn (ha pins s σ H _ I h) fun v s1 ⟨x,H1,I1,r1,q1⟩=>?_) (he _);have q1:jGX X.K x H1 Q:=q1;rw[jKm]at q1;exact jOk pins s1 σ H1 x v Q I1 r1 q1
theorem jNf{f:Value->Value->Sem Value}:OpR X f (fun _ _ _ _=>False):=fun _ _ _ _ _ _ _ _ _ _ _ _ h=>h.elim
theorem jTD(op:Operator):OpR X (binaryOp op) (jVp X.K op):=by
 cases op with
 |Add=>exact op_add
 |Sub=>exact op_sub
 |Mult=>exact jTC
 |FloorDiv=>exact jQl
 |Mod=>exact op_mod
 |_=>exact jNf
theorem jOB{pins:LAO}{s:Shared}{σ:St}{H:Hp}{b c:Bool}{Q:VK}(I:Inv X pins σ H s)(q:Q (.bl (decide (b=c))) H):wpAny (model X.prog X.w) X.A (compareOp .Is (.bool b) (.bool c)) (EP X pins σ Q) X.xe s:=by
 have e:compareOp .Is (.bool b) (.bool c)=pure (.bool (decide (b=c))):=by cases b<;>cases c<;>rfl
 rw[e];exact QI ⟨.bl _,H,I,rfl,q⟩
theorem jPB(hu:X.A.units+66<cLine)(op:CmpOp):OpR X (compareOp op) (jUI X.K op):=by
 cases op with
 |Eq=>exact op_eq (by omega)
 |NotEq=>exact op_ne (by omega)
 |Lt=>exact jI0 _root_.L2.op_lt
 |LtE=>exact jI0 _root_.L2.op_le
 |Gt=>exact jI0 _root_.L2.op_gt
 |GtE=>exact jI0 _root_.L2.op_ge
 |In=>exact jWN hu
 |NotIn=>exact jNe hu
 |Is =>
  intro pins s σ H x y v u Q I rx ry h;obtain⟨b,c,rfl,rfl,q⟩:=h;cases rx;cases ry;exact jOB I q
 |IsNot=>exact fun _ _ _ _ _ _ _ _ _ _ _ _ h=>h.elim
theorem jTu(hu:X.A.units+66<cLine):IxR X (jR7 X.K):=by
 intro value slice pins s σ H x y v u Q I rx ry h hs;have sq:=fun h=>jTt (X:=X) value slice pins s σ H x y v u Q I rx ry h hs;have dc:=fun h=>jRS hu value slice pins s σ H x y v u Q I rx ry h hs;cases x with
 |str z =>
  cases y with
  |int i=>obtain⟨h1,c,h2,q⟩:=h;exact sq (.inr (.inr ⟨z,i,c,rfl,rfl,h1,h2,q⟩))
  |_=>exact QZ h
 |ref a =>
  cases y with
  |int i =>
   obtain⟨xs,w',hq,h2,q⟩:=h;rcases hq with hq|hq
   ·exact sq (.inl ⟨a,xs,i,w',rfl,rfl,hq,h2,q⟩)
   ·exact sq (.inr (.inl ⟨a,xs,i,w',rfl,rfl,hq,h2,q⟩))
  |str z=>obtain⟨w',g,q⟩:=h;exact dc ⟨a,w',rfl,g,q⟩
  |ref b=>obtain⟨w',g,q⟩:=h;exact dc ⟨a,w',rfl,g,q⟩
  |_=>exact QZ h
 |_=>exact QZ h
theorem jPH{op:CmpOp}{b:Expr}(h:jLk b=true):behindInMarks op b=false:=by
 cases b<;>first|rfl|cases h
theorem jQW{b:Expr}(h:jH3 b=true):jMv b:=by
 intro o i;cases b<;>first|rfl|cases h
theorem jAO{e:Expr}{es:List Expr}(env:Env)(h:jBN e=true):starEach (e::es) env=(false,eval e env)::starEach es env:=by
 cases e<;>first|rfl|cases h
theorem jLl{e:Expr}{env:Env}(h:jLk e=true)(x:Value):foldedSetIterable e env x=pure x:=by
 cases e<;>first|rfl|cases h
theorem jQ4{o:Expr}{n:Str}{env:Env}(h:jH2 o=true):attributeBase o n env (eval o env)=eval o env:=by
 unfold attributeBase;split
 ·cases h
 ·rfl
theorem jRE:MtR X "list.pop" jSj:=by
 intro pins s σ H x xs v us Q I rx rs h;obtain⟨l,i,xs,k,y,rfl,rfl,hH,hk,hy,q⟩:=h;obtain⟨e1,e2,e3,e4⟩:=jIB hk;have hl:xs.length<=sizeLine:=(show jAk X.prog X.w H s.heap l (.lst xs) from I.hok l _ hH).1;rw[QW]at hl;exact jNz pins s σ H _ _ v us Q I rx rs ⟨l,xs,i,k,y,rfl,rfl,hH,by omega,by omega,e1,hy,q⟩
theorem jFu{ys:List Str}{its:List Value}(h:jAQ (ys.map V.str) its):StrsAre its ys:=by
 induction ys generalizing its with
 |nil=>cases h;exact .nil
 |cons y ys ih =>
  cases h with
  |cons h t =>
   obtain⟨k,rfl⟩:=h;exact .cons _ _ (ih t)
theorem jRF:MtR X "str.join" (jSl X.K):=by
 intro pins s σ H x xs v us Q I rx rs h;obtain⟨z,b,ys,rfl,rfl,hq,hz,q⟩:=h;obtain⟨t,rfl⟩:=rx;obtain⟨u,rfl,ru⟩:=jGe rs;cases ru;obtain⟨its,rv,p,_⟩:=I.list hq;exact join_list p.isList (by simpa using jFu rv) hz fun t' k=>⟨.str _,H,I.tok _,⟨_,rfl⟩,q⟩
theorem jKc{ss:List Str}{its:List Value}(h:StrsAre its ss):jAQ (ss.map V.str) its:=by
 induction h with
 |nil=>exact .nil
 |cons y t _ ih=>exact .cons ⟨t,rfl⟩ ih
theorem jLQ{its out:List Value}(hp:its.Perm out):∀{xs:List V},jAQ xs its->∃ys,ys.Perm xs/\jAQ ys out:=by
 induction hp with
 |nil=>intro xs r;cases r;exact⟨[],wv _,.nil⟩
 |cons x _ ih =>
  intro xs r;cases r with
  |cons h t =>
   obtain⟨ys,p,v⟩:=ih t;exact⟨_::ys,p.cons _,.cons h v⟩
 |swap x y l =>
  intro xs r;cases r with
  |cons h t=>cases t with
   |cons h2 t=>exact⟨_::_::_,List.Perm.swap _ _ _,.cons h2 (.cons h t)⟩
 |trans _ _ i1 i2 =>
  intro xs r;obtain⟨ys,p,v⟩:=i1 r;obtain⟨zs,q,u⟩:=i2 v;exact⟨zs,q.trans p,u⟩
theorem jND{xs:List V}{its:List Value}{v:Value}(r:jAQ xs its)(h:v∈its):∃x∈xs,jAm x v:=by
 induction r with
 |nil=>exact nomatch h
 |cons r t ih =>
  rcases QK.mp h with e|h
  ·subst e;exact⟨_,QF,r⟩
  ·obtain⟨x,hx,rx⟩:=ih h
   exact⟨x,QE _ hx,rx⟩
theorem jIR(hu:X.A.units+66<cLine):jCW X (.builtin "sorted") (jLE X.K):=by
 intro pins s σ H xs us Q I r h;obtain⟨p,rfl,h⟩:=h;rcases h with⟨ss,hq,h64,q⟩| ⟨xs,hq,h64,hx,q⟩
 ·skip
  obtain⟨u,rfl,rx⟩:=jGe r;cases rx;obtain⟨its,rv,pl,hz⟩:=I.list hq;have hl:=rv.length;rw[QG]at hl;refine sorted_strs pl.isList (by simpa using jFu rv) (by omega) fun out ss' a1 a2 a3=>?_;obtain⟨e,he⟩:=sortedAll_at s.heap its out;have hlen:=(jHm a1).1;have hp:=a2.length_eq;refine⟨.ref (s.heap.objs.size+1),_,I.laid (t':=s.toks) (fun b o z=>sortedAll_old z) (wJ _) (show jAk X.prog X.w _ _ _ (.lst (ss'.map V.str)) from⟨by rw[QG,QW];omega,out.toList,e,jKc a1,by simpa using he⟩),rfl,q _ ss' (I.hok.fresh (wJ _)) a2 a3⟩
 ·skip
  obtain⟨u,rfl,rx⟩:=jGe r;cases rx;obtain⟨its,rv,pl,hz⟩:=I.list hq;have hl:=rv.length;have each:∀v∈its,∃b dd sl n items,∃ts:List Str,v=.ref b/\s.heap.get? b=some { cls:=.type "list",dict:=dd,data:=.seq items n,slots:=sl }/\StrsAre items.toList ts:=fun v hv=>by
   obtain⟨x,hx',rxv⟩:=jND rv hv;obtain⟨a,ts,rfl,sq⟩:=hx x hx';cases rxv;obtain⟨its2,rv2,⟨o,n,e,c,d,z⟩,_⟩:=I.list sq;obtain⟨oc,od,odt,osl⟩:=o;cases c;exact⟨a,od,osl,n,its2.toArray,ts,rfl,by rw[e,show odt=Data.seq its2.toArray n from z],by simpa using jFu rv2⟩
  refine jP7 pl.isList (by omega) (fun v hv=>?_) (fun h3 kp x hx y hy C hC=>?_) fun out hp=>?_
  ·obtain⟨b,dd,sl,n,items,ts,rfl,e,_⟩:=each v hv
   exact⟨b,_,rfl,e,rfl⟩
  ·obtain⟨b,dd,sl,n,items,ts,rfl,e,st⟩:=each x hx
   obtain⟨b2,dd2,sl2,n2,items2,ts2,rfl,e2,st2⟩:=each y hy;exact jJ8 (s:={ s with heap:=h3 }) (show X.A.units+1+1<cLine by omega) (kp _ _ e) (kp _ _ e2) st st2 (hC _)
  ·obtain⟨e,he⟩:=sortedAll_at s.heap its out.toArray
   obtain⟨ys,py,vy⟩:=jLQ hp.symm rv;have hp2:=py.length_eq;refine⟨.ref (s.heap.objs.size+1),_,I.laid (t':=s.toks) (fun b o z=>sortedAll_old z) (wJ _) (show jAk X.prog X.w _ _ _ (.lst ys) from⟨by rw[QW];omega,out,e,vy,he⟩),rfl,q _ ys (I.hok.fresh (wJ _)) py⟩
theorem jWp(hu:X.A.units+66<cLine)(hc:X.calm=true)(f:Bi):(∃id,bootBuiltins f.nm=some (.builtin id)/\jCW X (.builtin id) (biR X.K f))∨∃T,bootBuiltins f.nm=some (.type T)/\jCW X (.type T) (biR X.K f):=by
 cases f with
 |len=>exact .inl ⟨_,PySem.boot_len,jOV⟩
 |any=>exact .inl ⟨_,PyProof.Rows.boot_any,jOX hc⟩
 |all=>exact .inl ⟨_,PyProof.Rows.boot_all,jOY hc⟩
 |list=>exact .inr ⟨_,PyProof.Rows.boot_list,jHP⟩
 |sorted=>exact .inl ⟨_,QAW,jIR hu⟩
end
end L2.L3
namespace L2.L3
open PySem PySem.Spec PyProof.Rows
structure OkX(X:Cx)(S:SC)(G:Glob)(E:XK):Prop where
 N:X.N=S.N
 sc:X.env.scope=S.sc
 calm:X.calm=true
 un:X.A.units+66<cLine
 fn:∀f,G.fn f->∃(CX:CXT) (k:Nat) (a:Addr) (fd:FuncData) (ps:List Str),FnOk X.prog X.w X.K X.mg X.base CX k a fd ps (G.ev.sp f)/\Room k X.A/\X.mg f=some (.ref a)/\wu X.K (.ref a)=true/\jGW X.K fd ps [] /\
  jHb CX X E/\∀l H s e s',CX l H s (fun _ _ _=>False) e s'->False
 val:∀x,G.val x->∃u,X.mg x=some u/\jAm (G.ev.va x) u
 no:∀x,G.no x->X.mg x=none
noncomputable def jJs(X:Cx)(Γ:Ev)(E:XK):PX->List Expr->Prop
 | .acons a as,e::es=>PE X e (wp X.K Γ a E).e/\jJs X Γ E as es
 |_,_=>True
structure Snd(X:Cx)(Γ:Ev)(E:XK)(p:PX)(e:Expr):Prop where
 pe:PE X e (wp X.K Γ p E).e
 pt:PT X e (wp X.K Γ p E).t
 pw:∀op es pos,e=.BoolOp op es pos->PW X e (wp X.K Γ p E).t
 pa:∀es pos,e=.List es pos->PA X es (wp X.K Γ p E).a
 pas:∀es pos,e=.List es pos->jJs X Γ E p es
theorem jPt{S:SC}{i:Nat}{x:Str}(h:jV0 S i x=true):S.N[i]?=some x/\Vis S.sc x/\(x==("__debug__":Str))=false/\(x==("__classdict__":Str))=false:=by
 simp only[jV0,Qb,wM,beq_iff_eq,bne_iff_ne,ne_eq]at h;obtain⟨⟨⟨h1,h2⟩,h3⟩,h4⟩:=h;refine⟨h1,?_,by simpa using h3,by simpa using h4⟩;rcases h2 with(h2|h2)|h2
 ·exact .inl h2
 ·exact .inr (.inl h2)
 ·exact .inr (.inr h2)
theorem jRJ{S:SC}{i:Nat}{x:Str}(h:jWc S i x=true):S.N[i]?=some x/\S.sc.names.lookup x=some .local:=by
 simp only[jWc,Qb,beq_iff_eq]at h;exact h
theorem jBg{S:SC}{x:Str}(h:jM3 S x=true):S.sc.names.lookup x=some .globalImplicit/\(x==("__debug__":Str))=false/\x≠"__name__":=by
 simp only[jM3,Qb,beq_iff_eq,bne_iff_ne,ne_eq]at h;exact⟨h.1.1,by simpa using h.1.2,h.2⟩
theorem jEZ:∀{l:List Str},jGx l=true->l.Nodup
 |[],_=>Q7
 |x::r,h=>by
  simp only[jGx,Qb,Qs]at h;exact Qf.mpr ⟨by simpa using h.1,jEZ h.2⟩
theorem jJa{S:SC}{scope:Scope}{tgs:List Str}{mask:List Bool}(h:jRo S scope tgs mask=true):CompSt S.N S.sc scope tgs mask:=by
 simp only[jRo,Qb,qM,beq_iff_eq,Qs]at h;obtain⟨⟨⟨h1,h2⟩,h3⟩,h4⟩:=h;refine⟨h1,fun y hy e=>?_,fun y hy e=>?_,fun y hy e=>?_,fun y hy e=>?_,jEZ h3,by simpa using h4⟩
 ·have:=(h2 y hy).1.1
  rw[e]at this;exact absurd this (by decide)
 ·have:=(h2 y hy).1.2
  rw[e]at this;simp at this;exact this.1
 ·have:=(h2 y hy).2
  rw[e]at this;simp at this;exact this
 ·have:=(h2 y hy).1.2
  rw[e]at this;simp at this;exact this.2
theorem OkX.comp{X:Cx}{S:SC}{G:Glob}{E:XK}(ok:OkX X S G E)(scope:Scope)(tgs:List Str)(mask:List Bool)(s:Shared)(H:Hp)(ex:List Addr):OkX (jAf X scope tgs mask s H ex) (jOQ S scope tgs mask) G (fun _ _ _=>False) where
 N:=by show tgs++jBI mask 0 X.N=tgs++jBI mask 0 S.N;rw[ok.N]
 sc:=by show jFy scope X.env.scope=jFy scope S.sc;rw[ok.sc]
 calm:=ok.calm
 un:=ok.un
 fn:=fun f h=>by
  obtain⟨CX,k,a,fd,ps,h1,h2,h3,h4,h5,h6,h7⟩:=ok.fn f h;exact⟨CX,k,a,fd,ps,h1,h2,h3,h4,h5,fun _ _ _ _ _ _ _ z=>(h7 _ _ _ _ _ z).elim,h7⟩
 val:=ok.val
 no:=ok.no
section
variable{X:Cx}
theorem jPL{c:Bool}{S:SC}{i:Nat}{x:Str}(hN:X.N=S.N)(hsc:X.env.scope=S.sc)(cel:c=true->∀x,X.fn x=true)(h:lcB c S i x=true):X.N[i]?=some x/\Loc X.env.scope x/\(X.fn x=true∨X.env.scope.names.lookup x=some .local):=by
 simp only[lcB,Qb,wM,beq_iff_eq]at h;rw[hN,hsc];rcases h.2 with z|⟨z1,z2⟩
 ·exact⟨h.1,.inl z,.inr z⟩
 ·exact⟨h.1,.inr z2,.inl (cel z1 x)⟩
theorem jGk{c:Bool}{S:SC}(cel:c=true->∀x,X.fn x=true)(hN:X.N=S.N)(hsc:X.env.scope=S.sc)(nd:X.N.Nodup):∀(is:List Nat) (es:List Expr),is.length=es.length->((is.zip es).all fun p=>match p.2 with | .Name x _=>lcB c S p.1 x|_=>false)=true ->
  PGs X es (fun vs σ H Q=>∃σ',jAl is vs σ=some σ'/\Q σ' H)
 |[],[],_,_=>by
  intro pins s σ H vs us Q I r h;obtain⟨σ',e,q⟩:=h;cases vs with
  |nil =>
   cases r;simp only[jAl]at e;cases e;exact assignInOrder_nil ⟨σ,H,I,q⟩
  |cons _ _=>simp[jAl]at e
 |[],_::_,h,_=>by cases h
 |_::_,[],h,_=>by cases h
 |i::is,e::es,hl,hz=>by
  simp only[QAK,qf,Qb]at hz;obtain⟨h1,h2⟩:=hz;cases e with
  |Name x pos =>
   obtain⟨g1',g2',g3'⟩:=jPL hN hsc cel h1;have ih:=jGk cel hN hsc nd is es (by simpa using hl) h2;intro pins s σ H vs us Q I r h;obtain⟨σ',e,q⟩:=h;cases vs with
   |nil=>simp[jAl]at e
   |cons v vs =>
    simp only[jAl]at e;cases r with
    |cons r rr =>
     show wpAny _ _ (assignInOrder (assign (.Name x pos) X.env::(assignEach es X.env).map (·.2)) _) _ _ _;refine assignInOrder_cons (thn (jLP (pos:=pos) nd g1' g2' g3' pins s σ H v _ _ I r (show jOI i v σ H (fun σ1 H1=>σ1=σ.set i (some v)/\H1=H) from⟨rfl,rfl⟩)) fun _ s1 ⟨σ1,H1,I1,e1,e2⟩=>?_);subst e1 e2;exact ih pins s1 _ _ vs _ Q I1 rr ⟨σ',e,q⟩
  |_=>simp at h1
theorem jJE{c:Bool}:∀(is:List Nat) (es:List Expr) (S:SC),is.length=es.length->((is.zip es).all fun p=>match p.2 with | .Name x _=>lcB c S p.1 x|_=>false)=true->(assignEach es X.env).length=es.length/\(assignEach es X.env).findIdx? (·.1)=none
 |[],[],_,_,_=>⟨rfl,rfl⟩
 |[],_::_,_,h,_=>by cases h
 |_::_,[],_,h,_=>by cases h
 |i::is,e::es,S,hl,hz=>by
  simp only[QAK,qf,Qb]at hz;obtain⟨h1,h2⟩:=hz;cases e with
  |Name x pos =>
   have ih:=jJE is es S (by simpa using hl) h2;have e1:assignEach (.Name x pos::es) X.env=(false,assign (.Name x pos) X.env)::assignEach es X.env:=rfl;rw[e1];refine⟨by rw[QL,QL,ih.1],?_⟩;rw[List.findIdx?_cons];simp[ih.2]
  |_=>simp at h1
theorem jFR:∀{is:List Nat}{vs:List V}{σ σ':St},jAl is vs σ=some σ'->vs.length=is.length
 |[],[],_,_,_=>rfl
 |[],_::_,_,_,h=>by simp[jAl]at h
 |_::_,[],_,_,h=>by simp[jAl]at h
 |_::is,_::vs,σ,σ',h=>by
  simp only[jAl]at h;rw[QL,QL,jFR h]
theorem jNY{c:Bool}{S:SC}{G:Glob}{E:XK}(ok:OkX X S G E)(cel:c=true->∀x,X.fn x=true)(nd:X.N.Nodup){tg:Tg}{e:Expr}(h:tgB c S tg e=true):PG X e (jDd X.K tg):=by
 cases tg with
 |nm i =>
  cases e with
  |Name x pos =>
   obtain⟨g1',g2',g3'⟩:=jPL ok.N ok.sc cel h;exact jLP nd g1' g2' g3'
  |_=>cases h
 |tp is =>
  cases e with
  |Tuple es k pos =>
   obtain⟨h0,h2⟩:=jAE h;have h1:=qa h0;obtain⟨l1,l2⟩:=jJE (X:=X) is es S h1 h2;have base:=jSz (pos:=pos) (k:=k) (n:=es.length) ok.calm (jGk cel ok.N ok.sc nd is es h1 h2) l1 l2;intro pins s σ H v u Q I r hw;refine base pins s σ H v u Q I r ?_;cases v with
   |ref p =>
    obtain⟨xs,σ',hq,e,q⟩:=hw;exact⟨p,xs,rfl,hq,by rw[jFR e,h1],σ',e,q⟩
   |_=>exact QZ hw
  |_=>cases h
end
variable{Γ:Ev}
theorem jPn(K:QD)(a:Addr)(xs:List V):Yields (Itl K a) (xs.map .one) (fun H=>SqL K H a xs) :=
  { go:=fun i H h hi=>by
      have hi':i<xs.length:=by simpa using hi
      exact⟨xs,xs[i],h,by simp[hi']⟩
    yld:=fun i H x H' h _ ⟨e,y⟩=>⟨.one x,by rw[QY,y xs h];rfl,rfl,e⟩
    stop:=fun i H h hi=>⟨xs,h,by simpa using hi⟩ }
theorem jSD(K:QD)(a:Addr)(xs:List V):Yields (Itt K a) (xs.map .one) (fun H=>SqT K H a xs) :=
  { go:=fun i H h hi=>by
      have hi':i<xs.length:=by simpa using hi
      exact⟨xs,xs[i],h,by simp[hi']⟩
    yld:=fun i H x H' h _ ⟨e,y⟩=>⟨.one x,by rw[QY,y xs h];rfl,rfl,e⟩
    stop:=fun i H h hi=>⟨xs,h,by simpa using hi⟩ }
theorem jSE(z:Str):Yields (Its z) (z.cps.toList.map fun c=>.one (.str ⟨#[c]⟩)) (fun _=>True) :=
  { go:=fun i H h hi=>by
      have hi':i<z.cps.size:=by simpa using hi
      exact hi'
    yld:=fun i H x H' h _ ⟨e,c,hc,ex⟩=>⟨.one x,by rw[QY,qv,hc,ex];rfl,rfl,e⟩
    stop:=fun i H h hi=>by
      have hi':z.cps.size<=i:=by simpa using hi
      exact hi' }
theorem jSF(lo:Int)(n:Nat):Yields (Itr lo n) ((qE n).map fun(k:Nat)=>.one (.int (lo+(k:Int)))) (fun _=>True) :=
  { go:=fun i H h hi=>by
      have hi':i<n:=by simpa using hi
      exact hi'
    yld:=fun i H x H' h hi ⟨e,ex⟩=>by
      have hi':i<n:=by simpa using hi
      exact⟨.one x,by rw[QY,QBK hi',ex];rfl,rfl,e⟩
    stop:=fun i H h hi=>by
      have hi':n<=i:=by simpa using hi
      exact hi' }
theorem jPp(K:QD)(z:Src)(c:Nat)(xs:List V):Yields (Ite K z c) (xs.zipIdx.map fun p=>.tup [.int ((c+p.2:Nat):Int),p.1]) (fun H=>SqS K H z xs) :=
  { go:=fun i H h hi=>by
      have hi':i<xs.length:=by simpa using hi
      exact⟨xs,xs[i],h,by simp[hi']⟩
    yld:=fun i H x H' h hi ⟨p,a,hp,e,eH,k⟩=>by
      have hi':i<xs.length:=by simpa using hi
      have e1:=k xs h;refine⟨.tup [.int ((c+i:Nat):Int),a],?_,p,hp,e,eH⟩;have e2:xs.zipIdx[i]?=some (a,i):=by
        rw[List.getElem?_zipIdx,e1];simp
      rw[QY,e2]
      rfl
    stop:=fun i H h hi=>⟨xs,h,by simpa using hi⟩ }
theorem jM9(ep:Nat)(a:Addr)(kvs:List KE):Yields (Itm ep kvs.length a) (kvs.map fun p=>.tup [.ref p.2.1,p.2.2]) (fun H=>H a=some (.dT ep kvs)) :=
  { go:=fun i H h hi=>by
      have hi':i<kvs.length:=by simpa using hi
      exact⟨kvs,kvs[i],h,rfl,by simp[hi']⟩
    yld:=fun i H x H' h hi ⟨q,p,hq,e,eH,k⟩=>⟨.tup [.ref p.2.1,p.2.2],by rw[QY,k kvs h];rfl,q,hq,e,eH⟩
    stop:=fun i H h hi=>⟨kvs,h,rfl,by simpa using hi⟩ }
theorem jPo(ep:Nat)(a:Addr)(kvs:List KE):Yields (Itk ep kvs.length a) (kvs.map fun p=>.one (.ref p.2.1)) (fun H=>H a=some (.dT ep kvs)) :=
  { go:=fun i H h hi=>by
      have hi':i<kvs.length:=by simpa using hi
      exact⟨kvs,kvs[i],h,rfl,by simp[hi']⟩
    yld:=fun i H x H' h hi ⟨eH,k⟩=>by
      obtain⟨p,e1,e2⟩:=k kvs h;exact⟨.one (.ref p.2.1),by rw[QY,e1];rfl,e2,eH⟩
    stop:=fun i H h hi=>⟨kvs,h,rfl,by simpa using hi⟩ }
noncomputable def jPq(wi0:St->Hp->(List Item->(Hp->Prop)->Hp->Prop)->Prop):TI:=fun σ H R=>wi0 σ H fun xs st H'=>∀J,Yields J xs st->R J H'
section
variable{X:Cx}{tg:Expr}
theorem jQX{l:Expr}{t:TE}(hl:PE X l t):PI X tg l (jPq fun σ H R=>t σ H fun v H1=>jBm X.K .val [v] H1 R):=by
 intro pins s σ H R I h;refine thn (hl pins s σ H _ I h) fun v s1 ⟨x,H1,I1,r1,q1⟩=>?_;have fp1:∀b∈[s1.heap.objs.size],jJp X pins H1 b:=fun b hb=>by
  have e:b=s1.heap.objs.size:=by simpa using hb
  subst e;exact I1.fpOk (QU _) (I1.hok.fresh (QU _))
 cases x with
 |str z =>
  obtain⟨t,rfl⟩:=r1;refine wpAny_pyIter_strU ?_;exact⟨s1.heap.objs.size,[s1.heap.objs.size],_,_,H1,rfl,I1.kept (t':=s1.toks) fun b o e=>QH _ e,jNE _ z t,⟨_,QN _ rfl,rfl,rfl⟩,fp1,q1 _ (jSE z)⟩
 |ref a =>
  cases r1;rcases q1 with⟨xs,hq,q⟩| ⟨xs,hq,q⟩| ⟨ep,kvs,e,q⟩
  ·obtain⟨its,rv,p,hz⟩:=I1.list hq
   refine WD p.isList ?_;exact⟨s1.heap.objs.size,[s1.heap.objs.size],_,_,H1,rfl,I1.kept (t':=s1.toks) fun b o e=>QH _ e,jKh a _,⟨_,QN _ rfl,rfl,rfl⟩,fp1,q _ (jPn _ a xs)⟩
  ·obtain⟨its,rv,p,hz⟩:=I1.tuple hq
   refine QBX (show s1.heap.IsTuple a its.toArray from p) ?_;exact⟨s1.heap.objs.size,[s1.heap.objs.size],_,_,H1,rfl,I1.kept (t':=s1.toks) fun b o e=>QH _ e,jJw a _,⟨_,QN _ rfl,rfl,rfl⟩,fp1,q _ (jSD _ a xs)⟩
  ·obtain⟨z,hd,xs,r,ob,es',g1,g2,g3,g4,g5⟩:=(show jAk X.prog X.w H1 s1.heap a (.dT ep kvs) from I1.hok a _ e)
   have hsz:es'.size=kvs.length:=by
    have:=congrArg qz g4;rw[QG,QT]at this;rw[this,<- qS r]
   refine jRU hd g1 g2.1 g3 ?_;exact⟨s1.heap.objs.size,[s1.heap.objs.size],_,_,H1,rfl,I1.kept (t':=s1.toks) fun b o e=>QH _ e,jKi (a:=a) (n:=kvs.length) (ep:=ep),⟨_,QN _ rfl,rfl,by rw[<- hsz];rfl⟩,fp1,q _ (jPo ep a kvs)⟩
 |_=>exact QZ q1
theorem jQY{a:Expr}{ta:TA}{p pos:Pos}{x:Str}(hx:x="range")(hg:Gl X x)(hm:X.mg x=none)(ha:PA X [a] ta)(hs:jBN a=true) :
  PI X tg (.Call (.Name x p) [a] [] pos) (jPq fun σ H R=>ta σ H fun vs H1=>jBm X.K .rng1 vs H1 R):=by
 subst hx;intro pins s σ H R I h;refine Call_ (jDt I hg hm boot_range (wI (thn (ha pos pins s σ H _ I h) fun us s1 ⟨vs,H1,I1,r1,q1⟩=>?_) (jAO _ hs) rfl))
 match vs,q1 with
 |[.int j],⟨⟨q1,q2⟩,q⟩ =>
  cases r1 with
  |cons r rr =>
   cases rr;obtain⟨t,rfl⟩:=r;refine call_range_1 (jNT I1 (by omega) (by omega) q1 q2 ?_);have e:(j - 0).toNat=j.toNat:=by simp
   rw[e];have y:=jSF 0 j.toNat;refine q _ ?_;simpa using y
theorem jMo:bootBuiltins ("enumerate":Str)=some (.type "enumerate"):=by kernel_rfl
theorem jOM{pins:LAO}{σ:St}{H1:Hp}{s1:Shared}{R:It->Hp->Prop}{es:List Expr}{kt c:Nat}{pt:Pos}{z:Src}{xs:List V}{its:Array Value}{h':Heap}(I1:Inv X pins σ H1 s1)(sh:jA9 s1.heap z its)(st:jMy (s1.heap.objs.size+1) s1.heap.objs.size z c 0 h')(kp:∀c o,s1.heap.get? c=some o->h'.get? c=some o)
  (q:∀J,Yields J (xs.zipIdx.map fun p=>.tup [.int ((c+p.2:Nat):Int),p.1]) (fun H=>SqS X.K H z xs)->R J H1):wpAny (model X.prog X.w) X.A (pyIter (.ref (s1.heap.objs.size+1))) (PIE X pins σ (.Tuple es kt pt) R) X.xe { s1 with heap:=h' }:=by
 obtain⟨⟨old,a1⟩,_⟩:=id st;refine QBj a1 ?_;have I2:=I1.kept (h':=h') (t':=s1.toks) kp;have lt:=sh.lt;refine⟨_,[s1.heap.objs.size+1,s1.heap.objs.size],_,_,H1,rfl,I2,jKj (nne (Nat.succ_ne_self _)) (Qc (qb lt)) (Qc lt),st,fun b hb=>?_,q _ (jPp _ z c xs)⟩;have hb':s1.heap.objs.size<=b:=by
  simp only[QK,Q4,or_false]at hb;rcases hb with rfl|rfl
  ·exact Nat.le_add_right _ _
  ·exact QU _
 exact I1.fpOk hb' (I1.hok.fresh hb')
theorem jQa{a:Expr}{ta:TA}{p pos pt:Pos}{x:Str}{es:List Expr}{kt:Nat}(hx:x="enumerate")(hg:Gl X x)(hm:X.mg x=none)(ha:PA X [a] ta)(hs:jBN a=true) :
  PI X (.Tuple es kt pt) (.Call (.Name x p) [a] [] pos) (jPq fun σ H R=>ta σ H fun vs H1=>jBm X.K .enum vs H1 R):=by
 subst hx;intro pins s σ H R I h;refine Call_ (jDt I hg hm jMo (wI (thn (ha pos pins s σ H _ I h) fun us s1 ⟨vs,H1,I1,r1,q1⟩=>?_) (jAO _ hs) rfl))
 match vs,q1 with
 |[.ref l1],⟨z,xs,e1,h1,q⟩ =>
  subst e1;cases r1 with
  |cons r rr =>
   cases rr;cases r;obtain⟨its,_,sh1,_⟩:=I1.src h1;refine jKQ sh1 fun h' st kp=>jOM (xs:=xs) I1 sh1 st kp ?_;simpa using q
theorem jRT{K:QD}{u:V}{H:Hp}{R:List Item->(Hp->Prop)->Hp->Prop}(h:jBm K .itm [u] H R):∃a ep kvs,u=.ref a/\H a=some (.dT ep kvs)/\R (kvs.map fun p=>.tup [.ref p.2.1,p.2.2]) (fun H=>H a=some (.dT ep kvs)) H:=by
 cases u with
 |ref a=>obtain⟨ep,kvs,e,q⟩:=h;exact⟨a,ep,kvs,rfl,e,q⟩
 |_=>exact QZ h
theorem jSy{o:Expr}{to:TE}{apos cpos pt:Pos}{es:List Expr}{kt:Nat}(ho:PE X o to)(hbase:attributeBase o "items" X.env (eval o X.env)=eval o X.env)(hline:(apos.endLine==cpos.line)=true) :
  PI0 X (.Tuple es kt pt) (.Call (.Attribute o "items" apos) [] [] cpos) (jPq fun σ H R=>to σ H fun v H1=>jBm X.K .itm [v] H1 R):=by
 intro pins s σ H R I h;refine QAd hbase hline (thn (ho pins s σ H _ I h) fun v s1 ⟨x,H1,I1,r1,q1⟩=>?_);obtain⟨a,ep,kvs,rfl,e,q⟩:=jRT q1;cases r1;obtain⟨z,hd,xs,r,ob,es',h1,h2,h3,h4,h5⟩:=(show jAk X.prog X.w H1 s1.heap a (.dT ep kvs) from I1.hok a _ e)
 refine⟨"dict",_,QAi,PySem.F.slot_dict_items,PySem.F.type_dict_items,⟨ob,h1,h2.1⟩,fun b eb=>?_,Wa rfl (QBG (jKP h1 h2.1 hd ?_))⟩
 ·cases eb
  exact⟨ob,h1,h2.2.1⟩
 ·have I2:Inv X pins σ H1 { s1 with heap:=s1.heap.push { cls:=.type "dict_items",data:=.fields #[.ref a] } }:=I1.kept (t':=s1.toks) fun b o e=>QH _ e
  refine jOA ⟨_,QN _ rfl,rfl,rfl⟩ (QH _ h1) h3 ?_;have hsz:es'.size=kvs.length:=by
   have:=congrArg qz h4;rw[QG,QT]at this;rw[this,<- qS r]
  refine⟨_,[_],_,_,H1,rfl,I2.kept (t':=s1.toks) fun b o e=>QH _ e,jJy (a:=a) (n:=kvs.length) (ep:=ep),⟨.none,.none,?_⟩,fun b hb=>?_,q _ (jM9 ep a kvs)⟩
  ·rw[<- hsz]
   exact QN _ rfl
  ·have e:=QJ.mp hb
   subst e;exact I2.fpOk (QU _) (I2.hok.fresh (QU _))
end
noncomputable def Tg.at:Tg->List Nat
 | .nm i=>[i]
 | .tp is=>is
def jMz(tg:Tg)(σ' σ:St):Prop:=σ'.length=σ.length/\∀(j:Nat),j∉tg.at->σ'[j]?=σ[j]?
theorem jKx{i:Nat}{v:Option V}{σ' σ:St}(h:σ'.length=σ.length)(hj:∀j,j≠i->σ'[j]?=σ[j]?):σ'.set i v=σ.set i v:=by
 apply we;intro j;by_cases e:j=i
 ·subst e
  by_cases hl:j<σ.length
  ·rw[qk (by omega),qk hl]
  ·rw[qH (by rw[qu];omega),qH (by rw[qu];omega)]
 ·rw[qU (Q2 e),qU (Q2 e)]
  exact hj j e
theorem jDo:∀(is:List Nat) (vs:List V) (σ' σ:St),σ'.length=σ.length->(∀j,j∉is->σ'[j]?=σ[j]?)->jAl is vs σ'=jAl is vs σ
 |[],[],σ',σ,hl,h=>by
  have:σ'=σ:=we fun j=>h j (by simp);rw[this]
 |[],_::_,_,_,_,_=>rfl
 |_::_,[],_,_,_,_=>rfl
 |i::is,v::vs,σ',σ,hl,h=>by
  simp only[jAl];refine jDo is vs _ _ (by simp[hl]) fun j hj=>?_;by_cases e:j=i
  ·subst e
   by_cases hl':j<σ.length
   ·rw[qk (by omega),qk hl']
   ·rw[qH (by rw[qu];omega),qH (by rw[qu];omega)]
  ·rw[qU (Q2 e),qU (Q2 e)]
   exact h j (by simp[e,hj])
theorem jB9:∀(is:List Nat) (vs:List V) (σ σ':St),jAl is vs σ=some σ'->σ'.length=σ.length/\∀j,j∉is->σ'[j]?=σ[j]?
 |[],[],σ,σ',e=>by simp only[jAl]at e;cases e;exact⟨rfl,fun _ _=>rfl⟩
 |[],_::_,_,_,e=>by simp[jAl]at e
 |_::_,[],_,_,e=>by simp[jAl]at e
 |i::is,v::vs,σ,σ',e=>by
  simp only[jAl]at e;obtain⟨h1,h2⟩:=jB9 is vs _ _ e;refine⟨by rw[h1,qu],fun j hj=>?_⟩;rw[h2 j (fun z=>hj (QE _ z)),qU (fun z=>hj (by simp[z]))]
theorem jIT{K:QD}{tg:Tg}{v:V}{σ' σ:St}{H:Hp}{Q:St->Hp->Prop}(a:jMz tg σ' σ)(h:jDd K tg v σ H Q):jDd K tg v σ' H fun σ3 H3=>jMz tg σ3 σ/\Q σ3 H3:=by
 obtain⟨al,aj⟩:=a;cases tg with
 |nm i =>
  have e:σ'.set i (some v)=σ.set i (some v):=jKx al fun j hj=>aj j (by simpa[Tg.at]using hj);show jMz (.nm i) (σ'.set i (some v)) σ/\Q (σ'.set i (some v)) H;rw[e];exact⟨⟨by simp,fun j hj=>qU (fun z=>hj (by simp[Tg.at,z]))⟩,h⟩
 |tp is =>
  cases v with
  |ref p =>
   obtain⟨xs,σ3,hq,e,q⟩:=h;exact⟨xs,σ3,hq,by rw[jDo is xs σ' σ al fun j hj=>aj j hj];exact e,⟨(jB9 is xs σ σ3 e).1,fun j hj=>(jB9 is xs σ σ3 e).2 j hj⟩,q⟩
  |_=>exact QZ h
theorem jKR{K:QD}{tg:Tg}{v:V}{σ:St}{H:Hp}{Q Q':St->Hp->Prop}(m:∀σ H,Q σ H->Q' σ H)(h:jDd K tg v σ H Q):jDd K tg v σ H Q':=by
 cases tg with
 |nm i=>exact m _ _ h
 |tp is =>
  cases v with
  |ref p=>obtain⟨xs,σ3,hq,e,q⟩:=h;exact⟨xs,σ3,hq,e,m _ _ q⟩
  |_=>exact QZ h
theorem jFk{K:QD}{tg:Tg}{it:Item}{x:V}{σ:St}{H H':Hp}{Q:St->Hp->Prop}(hi:match it with | .one v=>x=v/\H'=H | .tup vs=>∃p,H p=none/\x=.ref p/\H'=upd H p (.tup vs))(h:bindI K tg it σ H Q):jDd K tg x σ H' Q:=by
 cases it with
 |one v=>obtain⟨rfl,rfl⟩:=hi;exact h
 |tup vs =>
  obtain⟨p,hp,rfl,rfl⟩:=hi;cases tg with
  |nm i=>exact h p hp
  |tp is =>
   obtain⟨σ',e,q⟩:=h (upd H p (.tup vs)) fun b o e=>by rw[jAD (jAI e hp)];exact e
   exact⟨vs,σ',SqT.of jAM,e,q⟩
theorem jOR{K:QD}{xs:List Item}{st:Hp->Prop}{tg:Tg}{tc:TT}{te:TE}{σ0:St}{H:Hp}{Q:VK}(h:jWj K xs st (bindI K tg) tc te σ0 H Q):jOe K xs st tg tc te σ0 H Q:=by
 obtain⟨W,w0,hst,turn,done⟩:=h;intro J Y;refine⟨fun i m acc σ' H'=>m=xs.length - i/\i<=xs.length/\jMz tg σ' σ0/\W i acc H',⟨xs.length,by simp,qG _,⟨rfl,fun _ _=>rfl⟩,w0⟩,?_⟩;rintro i m acc σ' H' ⟨rfl,hi,ag,w⟩;have s':=hst i acc H' hi w;by_cases hlt:i<xs.length
 ·refine .inr ⟨Y.go i H' s' hlt,fun x H2 y=>?_⟩
  obtain⟨it,hit,hy⟩:=Y.yld i H' x H2 s' hlt y;have b:=jIT ag (jFk hy (turn i it acc H' hit w));refine jKR (fun σ3 H3 q=>?_) b;obtain⟨ag3,q⟩:=q;have e1:∀(acc':List V) (H5:Hp),(∃m',m' < xs.length - i/\m'=xs.length - (i+1)/\i+1<=xs.length/\jMz tg σ3 σ0/\W (i+1) acc' H5)=W (i+1) acc' H5:=fun acc' H5 =>
   propext ⟨fun⟨_,_,_,_,_,w⟩=>w,fun w=>⟨_,by omega,rfl,hlt,ag3,w⟩⟩
  simp only[e1];exact q
 ·have e:i=xs.length:=by omega
  subst e;obtain⟨hz,q⟩:=done acc H' w;exact .inl ⟨Y.stop _ H' s' (QU _),hz,q⟩
end L2.L3
namespace L2.L3
open PySem PySem.Spec PyProof.Rows
variable{Γ:Ev}
noncomputable def jH1:PX->Bool
 | .acons _ _=>false
 |_=>true
theorem jIZ{X:Cx}{E:XK}{p:PX}{es:List Expr}(h:jH1 p=true):jJs X Γ E p es:=by
 cases p<;>first|trivial|cases h
theorem jIY(Q:Bool->Hp->Prop):(fun(x:V) (H1:Hp)=>asB x H1 Q)=fun(x:V) (H1:Hp)=>∃k,x=.bl k/\Q k H1:=by funext x H1;exact jUr x H1 Q
theorem Snd.of{X:Cx}{E:XK}{p:PX}{e:Expr}(pe:PE X e (wp X.K Γ p E).e)(pt:PT X e (wp X.K Γ p E).t)(hb:∀op es pos,e≠.BoolOp op es pos)(ha:(wp X.K Γ p E).a=never.a)(hn:jH1 p=true:=by rfl):Snd X Γ E p e :=
 ⟨pe,pt,fun op es pos z=>absurd z (hb op es pos),fun es pos z=>by rw[ha];exact jIw,fun _ _ _=>jIZ hn⟩
theorem Snd.lit{X:Cx}{E:XK}{p:PX}{e:Expr}(pe:PE X e (wp X.K Γ p E).e)(ht:(wp X.K Γ p E).t=never.t)(hb:∀op es pos,e≠.BoolOp op es pos)(ha:(wp X.K Γ p E).a=never.a)(hn:jH1 p=true:=by rfl):Snd X Γ E p e :=
 Snd.of pe (by rw[ht];exact jF0) hb ha hn
theorem Snd.args{X:Cx}{E:XK}{p:PX}{es:List Expr}{pos:Pos}(ha:PA X es (wp X.K Γ p E).a)(hp:jJs X Γ E p es)(he:(wp X.K Γ p E).e=never.e)(ht:(wp X.K Γ p E).t=never.t):Snd X Γ E p (.List es pos) :=
 ⟨by rw[he];exact jNa,by rw[ht];exact jF0,fun _ _ _ z=>(by cases z),fun es' pos' z=>by cases z;exact ha,fun es' pos' z=>by cases z;exact hp⟩
theorem jS6{X:Cx}{S:SC}{x:Str}{v:V}{u:Value}{pos:Pos}(hsc:X.env.scope=S.sc)(h:jM3 S x=true)(hm:X.mg x=some u)(r:jAm v u):PE X (.Name x pos) (fun _ H Q=>Q v H):=by
 obtain⟨h1,h2,h3⟩:=jBg h;exact jQd (show X.env.scope.names.lookup x=some .globalImplicit by rw[hsc];exact h1) hm r h2
theorem jCP{S:SC}{pos:Pos}:∀(p:PX) {es:List Expr},chk p S (.List es pos)=true->es.all jBN=true:=by
 intro p
 induction p with
 |anil =>
  intro es h;have h:es.isEmpty=true:=h;rw[Qu.mp h]
  rfl
 |acons a as _ ih =>
  intro es h;have h:onC es _=true:=h;obtain⟨x,t,rfl,h⟩:=jGu h;have h1:=jAE h;rw[qf,h1.1,ih (jAE h1.2).2]
  rfl
 |lst as ih=>exact fun h=>ih h
 |_=>exact fun h=>(QC h).elim
theorem jJf{K:QD}{E:XK}{S:SC}{pos:Pos}{σ:St}{H:Hp}{Q:List V->Hp->Prop}:∀(p:PX),jC7 p=true->chk p S (.List [] pos)=true->((wp K Γ p E).a σ H Q↔Q [] H):=by
 intro p;cases p with
 |anil=>exact fun _ _=>WY
 |acons _ _=>exact fun _ h=>(QC h).elim
 |_=>exact fun h=>(QC h).elim
theorem jMq{K:QD}{E:XK}{S:SC}{pos:Pos}{σ:St}{H:Hp}{Q:List V->Hp->Prop}(p:PX)(h:chk p S (.List [] pos)=true)(q:(wp K Γ p E).a σ H Q):Q [] H:=by
 cases hi:jC7 p with
 |true=>exact(jJf p hi h).mp q
 |false =>
  cases p with
  |anil=>exact q
  |acons _ _=>exact(QC h).elim
  |_=>exact q.elim
theorem jJe{S:SC}{a:Expr}{pos:Pos}(p:PX)(h0:jC7 p=true)(h:chk p S (.List [a] pos)=true):∃a1,p=.acons a1 .anil:=by
 cases p with
 |acons a1 r =>
  have h2:chk r S (.List [] pos)=true:=(jAE (jAE h).2).2;cases r with
  |anil=>exact⟨a1,rfl⟩
  |acons _ _=>exact(QC h2).elim
  |_=>exact(QC h0).elim
 |anil=>exact(QC h).elim
 |_=>exact(QC h0).elim
theorem jWZ{X:Cx}(hu:X.A.units+66<cLine)(m:Mt):∃id,PlainAttrs m.ty/\Slot m.ty m.nm id/\typeOf (.builtin id)=pure (.type "method_descriptor")/\MtR X id (mtR X.K m):=by
 cases m with
 |append=>exact⟨_,QAj,PySem.F.slot_list_append,PySem.F.type_list_append,jLw⟩
 |pop=>exact⟨_,QAj,PySem.F.slot_list_pop,PySem.F.type_list_pop,jRE⟩
 |join=>exact⟨_,PySem.F.plainAttrs_str,PySem.F.slot_str_join,PySem.F.type_str_join,jRF⟩
 |setd=>exact⟨_,QAi,PySem.F.slot_dict_setdefault,PySem.F.type_dict_setdefault,jLv hu⟩
theorem jCV{env:Env}{pos:Pos}:∀{es:List Expr},es.all jBN=true->(backTo pos (starEach es env)).any (·.1)=false
 |[],_=>rfl
 |e::es,h=>by
  rw[qf]at h;obtain⟨h1,h2⟩:=jAE h;rw[jAO env h1];show(false||(backTo pos (starEach es env)).any (·.1))=false;rw[jCV h2]
  rfl
theorem jJh{env:Env}{pos:Pos}:∀{es:List Expr},es.all jBN=true->(backTo pos (starEach es env)).all (fun x=>!x.1)=true
 |[],_=>rfl
 |e::es,h=>by
  rw[qf]at h;obtain⟨h1,h2⟩:=jAE h;rw[jAO env h1];show(true&&(backTo pos (starEach es env)).all (fun x=>!x.1))=true;rw[jJh h2]
  rfl
theorem jLO{X:Cx}{S:SC}{G:Glob}{E:XK}(ok:OkX X S G E){ik:ItK}{its:PX}{t it:Expr}{pos:Pos}(hik:itC (jC7 its) S ik (fun es p=>chk its S (.List es p)) t it pos=true)(n1:ikN G ik)(ni:isItm ik=false)
  (sn:∀es p,chk its S (.List es p)=true->Snd X G.ev E its (.List es p)):PI X t it (jPq fun σ H R=>(wp X.K G.ev its E).a σ H fun vs H1=>jBm X.K ik vs H1 R):=by
 have glo:∀{x:Str},jM3 S x=true->Gl X x:=fun {x} h=>by
  show X.env.scope.names.lookup x=some .globalImplicit;rw[ok.sc];exact(jBg h).1
 have tupT:jJM t=true->∃es k p,t=.Tuple es k p:=fun h=>by
  cases t with
  |Tuple es k p=>exact⟨es,k,p,rfl⟩
  |_=>exact(QC h).elim
 cases ik with
 |val =>
  have i:=jAE hik;have pas:=(sn _ pos i.2).pas _ pos rfl;obtain⟨a,rfl⟩:=jJe its i.1 i.2;exact jQX pas.1
 |rng1 =>
  obtain⟨px,es,ks,p,rfl,hg,h⟩:=jCo hik;have h1:=jAE h;cases Qu.mp h1.1;obtain⟨a,rfl,h3⟩:=jBC h1.2;exact jQY rfl (glo hg) (ok.no _ n1) ((sn _ p h3).pa _ p rfl) (by simpa using jCP its h3)
 |enum =>
  have i:=jAE hik;obtain⟨es,k,pt,rfl⟩:=tupT i.1;obtain⟨px,es,ks,p,rfl,hg,h⟩:=jCo i.2;have h1:=jAE h;cases Qu.mp h1.1;obtain⟨a,rfl,h3⟩:=jBC h1.2;exact jQa rfl (glo hg) (ok.no _ n1) ((sn _ p h3).pa _ p rfl) (by simpa using jCP its h3)
 |itm=>cases ni
theorem jQZ{X:Cx}{S:SC}{G:Glob}{E:XK}(ok:OkX X S G E){ik:ItK}{its:PX}{t it:Expr}{pos:Pos}(hik:itC (jC7 its) S ik (fun es p=>chk its S (.List es p)) t it pos=true)(n1:ikN G ik)
  (sn:∀es p,chk its S (.List es p)=true->Snd X G.ev E its (.List es p)):PI0 X t it (jPq fun σ H R=>(wp X.K G.ev its E).a σ H fun vs H1=>jBm X.K ik vs H1 R):=by
 cases hi:isItm ik with
 |false=>exact(jLO ok hik n1 hi sn).to0
 |true =>
  cases ik with
  |itm =>
   have i:=jAE hik;have i2:=jAE i.2;cases t with
   |Tuple es k pt =>
    obtain⟨v,ap,es,p,rfl,hl,h⟩:=jLy i2.2;have h1:=jAE h;have h2:=jAE h1.2;cases Qu.mp h2.1;have pas:=(sn _ p h2.2).pas _ p rfl;obtain⟨a,rfl⟩:=jJe its i2.1 h2.2;exact jSy pas.1 (jQ4 h1.1) hl
   |_=>exact(QC i.1).elim
  |_=>cases hi
theorem jDT{X:Cx}{e:Expr}{te te':TE}(h:PE X e te)(q:∀σ H Q,te' σ H Q->te σ H Q):PE X e te':=fun pins s σ H Q I z=>h pins s σ H Q I (q σ H Q z)
theorem snd{G:Glob}:∀(p:PX) {X:Cx}{S:SC}{E:XK}(ok:OkX X S G E) {e:Expr},chk p S e=true->jAn G p->Snd X G.ev E p e:=by
 intro p
 induction p with
 |var i =>
  intro X S E ok e h _;obtain⟨x,pos,rfl,h⟩:=jCQ h;obtain⟨h1,h2,h3,h4⟩:=jPt h;have base:=jS1 (pos:=pos) (show X.N[i]?=some x by rw[ok.N];exact h1) (show Vis X.env.scope x by rw[ok.sc];exact h2) h3 h4;have pe:PE X (.Name x pos) (wp X.K G.ev (.var i) E).e:=jDT base fun σ H Q q=>by
   have q:(match σ[i]? with|some (some v)=>Q v H|_=>False):=q;cases hs:σ[i]? with
   |none=>rw[hs]at q;exact q.elim
   |some o =>
    rw[hs]at q;cases o with
    |none=>exact q.elim
    |some v=>exact⟨v,hs,q⟩
  exact Snd.of pe (jCB pe fun _=>rfl) (fun _ _ _ z=>by cases z) rfl
 |int i =>
  intro X S E ok e h _;obtain⟨c,k,pos,rfl,h⟩:=jCz h;obtain⟨j,rfl,h⟩:=jUd h;cases qa h;exact Snd.of jO8 (jCB (ta:=fun _ H Q=>Q (.int i) H) jO8 fun _=>rfl) (fun _ _ _ z=>by cases z) rfl
 |str x =>
  intro X S E ok e h _;obtain⟨c,k,pos,rfl,h⟩:=jCz h;obtain⟨j,rfl,h⟩:=jUb h;cases qa h;exact Snd.lit jS3 rfl (fun _ _ _ z=>by cases z) rfl
 |bl b =>
  intro X S E ok e h _;obtain⟨c,k,pos,rfl,h⟩:=jCz h;obtain⟨j,rfl,h⟩:=jRx h;cases qa h;exact Snd.of jS8 (jCB (ta:=fun _ H Q=>Q (.bl b) H) jS8 fun _=>rfl) (fun _ _ _ z=>by cases z) rfl
 |non =>
  intro X S E ok e h _;obtain⟨c,k,pos,rfl,h⟩:=jCz h;cases jRw h;exact Snd.of jO7 (jCB (ta:=fun _ H Q=>Q .non H) jO7 fun _=>rfl) (fun _ _ _ z=>by cases z) rfl
 |glo x =>
  intro X S E ok e h nd;obtain⟨y,pos,rfl,h⟩:=jCQ h;have h:=jAE h;cases qa h.1;obtain⟨u,hm,r⟩:=ok.val x nd;have pe:=jS6 (pos:=pos) ok.sc h.2 hm r;exact Snd.of pe (jCB pe fun _=>rfl) (fun _ _ _ z=>by cases z) rfl
 |bty x n =>
  intro X S E ok e h nd;obtain⟨y,pos,rfl,h⟩:=jCQ h;have h:=jAE h;cases qa h.1;obtain⟨g1,g2,g3⟩:=jBg h.2;exact Snd.lit (jQj (show X.env.scope.names.lookup x=some .globalImplicit by rw[ok.sc];exact g1) (ok.no x nd.1) nd.2 rfl g3 g2) rfl (fun _ _ _ z=>by cases z) rfl
 |bin op a b iha ihb =>
  intro X S E ok e h nd;obtain⟨l,o,r,pos,rfl,h⟩:=jQs h;have h1:=jAE h;have h2:=jAE h1.2;cases qa h1.1;have pe:=jWI (pos:=pos) (jTD op) (iha ok h2.1 nd.1).pe (ihb ok h2.2 nd.2).pe;exact Snd.of pe (jCB pe fun _=>rfl) (fun _ _ _ z=>by cases z) rfl
 |cmp op a b iha ihb =>
  intro X S E ok e h nd;obtain⟨l,os,rs,pos,rfl,h⟩:=jQr h;obtain⟨o,rfl,h⟩:=jBC h;obtain⟨r,rfl,h⟩:=jBC h;have h1:=jAE h;have h2:=jAE h1.2;have h3:=jAE h2.2;cases qa h1.1;have pa:=(iha ok h3.1 nd.1).pe;have pb:=(ihb ok h3.2 nd.2).pe;refine Snd.of (jQh (pos:=pos) (jPB ok.un op) pa pb (jPH h2.1)) (fun pins s σ H Q I q=>jQP (pos:=pos) (jPB ok.un op) pa pb (jPH h2.1) pins s σ H Q I ?_) (fun _ _ _ z=>by cases z) rfl;show tOp _ _ _ σ H (fun(x:V) (H1:Hp)=>∃k,x=.bl k/\Q k H1);rw[<- jIY Q];exact q
 |neg a iha =>
  intro X S E ok e h nd;obtain⟨o,e,pos,rfl,h⟩:=jPC h;have h:=jAE h;cases qa h.1;have base:=jWH (pos:=pos) (jSP (X:=X)) (iha ok h.2 nd).pe;refine Snd.lit (fun pins s σ H Q I q=>base pins s σ H Q I ?_) rfl (fun _ _ _ z=>by cases z) rfl;have e:(fun(x:V) (H1:Hp)=>rU (fun i=>V.int (-i)) x H1 Q)=fun(x:V) (H1:Hp)=>(match x with | .int i=>Q (.int (-i)) H1|_=>False):=by
   funext x H1
   apply propext;cases x with
   |int i=>exact⟨fun⟨j,e,q⟩=>by cases e;exact q,fun q=>⟨i,rfl,q⟩⟩
   |_=>exact⟨fun⟨j,e,q⟩=>(by cases e),fun q=>QZ q⟩
  show(wp X.K G.ev a E).e σ H (fun(x:V) (H1:Hp)=>rU (fun i=>V.int (-i)) x H1 Q);rw[e];exact q
 |and a b iha ihb =>
  intro X S E ok e h nd;obtain⟨o,es,pos,rfl,h⟩:=jI4 h;have h1:=jAE h;cases qa h1.1;obtain⟨l,t,rfl,h2⟩:=jGu h1.2;obtain⟨r,t,rfl,h3⟩:=jGu h2;have h4:=jAE h3;have sa:=iha ok h4.1 nd.1;have sb:=ihb ok h4.2 nd.2;have eqA:∀(σ:St) (Q:VK),(fun(x:V) (H1:Hp)=>∃c,x=.bl c/\if c=true then(wp X.K G.ev b E).e σ H1 Q else Q (.bl false) H1)=fun(x:V) (H1:Hp)=>asB x H1 fun c H2=>if c=true then(wp X.K G.ev b E).e σ H2 Q else Q (.bl false) H2:=fun σ Q=>(jIY _).symm
  have key:PW X (.BoolOp .And (l::r::t) pos) (wp X.K G.ev (.and a b) E).t/\PE X (.BoolOp .And (l::r::t) pos) (fun σ H Q=>(wp X.K G.ev a E).e σ H fun x H1=>∃c,x=.bl c/\if c=true then(wp X.K G.ev b E).e σ H1 Q else Q (.bl false) H1):=by
   cases t with
   |nil=>exact⟨jO3 sa.pt (jQM sb.pt),jO9 (pos:=pos) sa.pe (jO6 sb.pe)⟩
   |cons q t=>exact⟨jO3 sa.pt (sb.pw _ _ _ rfl),jO9 (pos:=pos) sa.pe sb.pe⟩
  refine⟨jDT key.2 fun σ H Q q=>?_,key.1.pt,fun _ _ _ _=>key.1,fun _ _ z=>(by cases z),fun _ _ z=>trivial⟩;rw[eqA];exact q
 |or a b iha ihb =>
  intro X S E ok e h nd;obtain⟨o,es,pos,rfl,h⟩:=jI4 h;have h1:=jAE h;cases qa h1.1;obtain⟨l,t,rfl,h2⟩:=jGu h1.2;obtain⟨r,t,rfl,h3⟩:=jGu h2;have h4:=jAE h3;have sa:=iha ok h4.1 nd.1;have sb:=ihb ok h4.2 nd.2;have eqA:∀(σ:St) (Q:VK),(fun(x:V) (H1:Hp)=>∃c,x=.bl c/\if c=true then Q (.bl true) H1 else(wp X.K G.ev b E).e σ H1 Q)=fun(x:V) (H1:Hp)=>asB x H1 fun c H2=>if c=true then Q (.bl true) H2 else(wp X.K G.ev b E).e σ H2 Q:=fun σ Q=>(jIY _).symm
  have key:PW X (.BoolOp .Or (l::r::t) pos) (wp X.K G.ev (.or a b) E).t/\PE X (.BoolOp .Or (l::r::t) pos) (fun σ H Q=>(wp X.K G.ev a E).e σ H fun x H1=>∃c,x=.bl c/\if c=true then Q (.bl true) H1 else(wp X.K G.ev b E).e σ H1 Q):=by
   cases t with
   |nil=>exact⟨jSp sa.pt (jSo sb.pt),jS4 (pos:=pos) sa.pe (jO6 sb.pe)⟩
   |cons q t=>exact⟨jSp sa.pt (sb.pw _ _ _ rfl),jS4 (pos:=pos) sa.pe sb.pe⟩
  refine⟨jDT key.2 fun σ H Q q=>?_,key.1.pt,fun _ _ _ _=>key.1,fun _ _ z=>(by cases z),fun _ _ z=>trivial⟩;rw[eqA];exact q
 |not a iha =>
  intro X S E ok e h nd;obtain⟨o,x,pos,rfl,h⟩:=jPC h;have h1:=jAE h;cases qa h1.1;have sa:=iha ok h1.2 nd;refine Snd.of (fun pins s σ H Q I q=>?_) (jSq sa.pt) (fun _ _ _ z=>by cases z) rfl;refine UnaryOp_ (thn (sa.pe pins s σ H _ I q) fun v s1 ⟨x,H1,I1,r1,q1⟩=>?_);have q1:jGX X.K x H1 (fun c H2=>Q (.bl (!c)) H2):=q1;rw[jKm]at q1;refine not_of (thn (jOk pins s1 σ H1 x v _ I1 r1 q1) fun c s2 ⟨H2,I2,q2⟩=>?_);exact⟨.bl (!c),H2,I2,rfl,q2⟩
 |call f as ih =>
  intro X S E ok e h nd;obtain⟨p,es,ks,pos,rfl,hg,h⟩:=jCo h;have h1:=jAE h;cases Qu.mp h1.1;obtain⟨g1,g2,g3⟩:=jBg hg;have hg:Gl X f:=show X.env.scope.names.lookup f=some .globalImplicit by rw[ok.sc];exact g1
  obtain⟨CX,k,a,fd,ps,F,hr,hm,hk,hb,hx,_⟩:=ok.fn f nd.1;have pa:=(ih ok h1.2 nd.2).pa es pos rfl;have st:=jCP as h1.2;have pe:PE X (.Call (.Name f p) es [] pos) (wp X.K G.ev (.call f as) E).e:=by
   cases es with
   |nil=>exact jDT (jNb (pos:=pos) (p:=p) F hr hg hm hk hb .nil hx g2) fun σ H Q q=>jMq as h1.2 q
   |cons e1 es1 =>
    have st:=jAE st;refine jDT (jQi (pos:=pos) (p:=p) F hr hg hm hk hb .nil hx pa g2 (jAO _ st.1) (jCV st.2)) fun σ H Q q=>?_;show(wp X.K G.ev as E).a σ H fun vs H1=>G.ev.sp f (vs++[]) H1 Q E;simp only[wH];exact q
  exact Snd.of pe (jCB pe fun _=>rfl) (fun _ _ _ z=>by cases z) rfl
 |idx a b iha ihb =>
  intro X S E ok e h nd;obtain⟨v,i,pos,rfl,h⟩:=jHy h;have h1:=jAE h;have h2:=jAE h1.2;have pe:=jWJ (pos:=pos) (jTu ok.un) (iha ok h2.1 nd.1).pe (ihb ok h2.2 nd.2).pe (jQW h1.1);exact Snd.of pe (jCB pe fun _=>rfl) (fun _ _ _ z=>by cases z) rfl
 |nop =>
  intro X S E ok e h nd;exact(QC h).elim
 |lst as ih =>
  intro X S E ok e h nd;obtain⟨es,pos,rfl,h⟩:=jF5 h;have pa:=(ih ok h nd).pa es pos rfl;exact⟨jS5 pa,jF0,fun _ _ _ z=>(by cases z),fun _ _ z=>jIw,fun _ _ z=>trivial⟩
 |tup as ih =>
  intro X S E ok e h nd;obtain⟨es,k,pos,rfl,h⟩:=jQn h;exact Snd.lit (jS2 ((ih ok h nd).pa es pos rfl)) rfl (fun _ _ _ z=>by cases z) rfl
 |dnew b =>
  intro X S E ok e h nd;obtain⟨ks,vs,pos,rfl,h⟩:=jI2 h;have h1:=jAE h;cases Qu.mp h1.1;cases Qu.mp h1.2;exact Snd.lit jQf rfl (fun _ _ _ z=>by cases z) rfl
 |dsp a b iha ihb =>
  intro X S E ok e h nd;obtain⟨ks,vs,pos,rfl,h⟩:=jI2 h;obtain⟨k,rfl,h⟩:=jBC h;obtain⟨v,rfl,h⟩:=jBC h;have h1:=jAE h;cases k with
  |none=>exact(QC h1.1).elim
  |some k=>exact Snd.lit (jQe ok.un (iha ok h1.1 nd.1).pe (ihb ok h1.2 nd.2).pe) rfl (fun _ _ _ z=>by cases z) rfl
 |lset a iha =>
  intro X S E ok e h nd;obtain⟨p1,p2,pos,pos2,y,rfl,hg,hg',hy,h⟩:=jLo h;refine Snd.lit (jQc ok.calm (show X.env.scope.names.lookup _=some .globalImplicit by rw[ok.sc];exact(jBg hg).1) (show X.env.scope.names.lookup _=some .globalImplicit by rw[ok.sc];exact(jBg hg').1) (ok.no _ nd.1) (ok.no _ nd.2.1) (iha ok h nd.2.2).pe (jAO _ hy)) rfl (fun _ _ _ z=>by cases z) rfl
 |sset a iha =>
  intro X S E ok e h nd;obtain⟨p1,p2,pos,pos2,y,rfl,hg,hg',hy,h⟩:=jLo h;refine Snd.lit (jQb ok.calm (show X.env.scope.names.lookup _=some .globalImplicit by rw[ok.sc];exact(jBg hg).1) (show X.env.scope.names.lookup _=some .globalImplicit by rw[ok.sc];exact(jBg hg').1) (ok.no _ nd.1) (ok.no _ nd.2.1) (iha ok h nd.2.2).pe (jAO _ hy)) rfl (fun _ _ _ z=>by cases z) rfl
 |anil =>
  intro X S E ok e h nd;obtain⟨es,pos,rfl,h⟩:=jF5 h;cases Qu.mp h;exact Snd.args jPA trivial rfl rfl
 |acons a as iha ih =>
  intro X S E ok e h nd;obtain⟨es,pos,rfl,h⟩:=jF5 h;obtain⟨e1,es1,rfl,h⟩:=jGu h;have h1:=jAE h;have h2:=jAE h1.2;have sa:=(iha ok h2.1 nd.1).pe;have ss:=ih ok h2.2 nd.2;exact Snd.args (jHx sa (ss.pa es1 pos rfl) (jAO _ h1.1)) ⟨sa,ss.pas es1 pos rfl⟩ rfl rfl
 |bi f as ih =>
  intro X S E ok e h nd;obtain⟨p,es,ks,pos,rfl,hg,h⟩:=jCo h;have h1:=jAE h;cases Qu.mp h1.1;obtain⟨e1,es1,rfl,h3⟩:=jGu h1.2;obtain⟨g1,g2,g3⟩:=jBg hg;have hg:Gl X f.nm:=show X.env.scope.names.lookup f.nm=some .globalImplicit by rw[ok.sc];exact g1
  have pa:=(ih ok h3 nd.2).pa _ pos rfl;have st:=jAE (jCP as h3);have pe:PE X (.Call (.Name f.nm p) (e1::es1) [] pos) (wp X.K G.ev (.bi f as) E).e:=by
   rcases jWp ok.un ok.calm f with⟨id,hb,hc⟩| ⟨T,hb,hc⟩
   ·exact jIv (pos:=pos) (p:=p) hc hg (ok.no _ nd.1) hb pa g3 g2 (jAO _ st.1) (jCV st.2)
   ·exact jLR (pos:=pos) (p:=p) hc hg (ok.no _ nd.1) hb pa g3 g2 (jAO _ st.1) (jCV st.2)
  exact Snd.of pe (jCB pe fun _=>rfl) (fun _ _ _ z=>by cases z) rfl
 |isi a c iha ihc =>
  intro X S E ok e h nd;obtain⟨p,es,ks,pos,rfl,hg,h⟩:=jCo h;have h1:=jAE h;cases Qu.mp h1.1;obtain⟨l,r,rfl,h2⟩:=jWR h1.2;have h3:=jAE h2;have h4:=jAE h3.2;have h5:=jAE h4.2;obtain⟨g1,g2,g3⟩:=jBg hg;have hg:Gl X "isinstance":=show X.env.scope.names.lookup ("isinstance":Str)=some .globalImplicit by rw[ok.sc];exact g1
  have pe:PE X (.Call (.Name "isinstance" p) [l,r] [] pos) (wp X.K G.ev (.isi a c) E).e :=
   jIv (pos:=pos) (p:=p) jOW hg (ok.no _ nd.1) (by kernel_rfl) (jHx (iha ok h5.1 nd.2.1).pe (jHx (ihc ok h5.2 nd.2.2).pe jPA (jAO _ h4.1)) (jAO _ h3.1)) g3 g2 (jAO _ h3.1) (jCV (by rw[qf,h4.1];rfl))
  exact Snd.of pe (jCB pe fun _=>rfl) (fun _ _ _ z=>by cases z) rfl
 |mt m o as iho ih =>
  intro X S E ok e h nd;obtain⟨v,ap,es,pos,rfl,h2,h⟩:=jLy h;have h0:=jAE h;have h1:=jAE h0.2;have h3:=jAE h1.2;have h4:=jAE h3.2;have po:=(iho ok h4.1 nd.1).pe;have pa:=(ih ok h4.2 nd.2).pa _ pos rfl;have st:=jCP as h4.2;obtain⟨id,pat,sl,ty,mr⟩:=jWZ (X:=X) ok.un m;have pe:PE X (.Call (.Attribute v m.nm ap) es [] pos) (wp X.K G.ev (.mt m o as) E).e:=by
   cases es with
   |nil =>
    refine jDT (jS7 (apos:=ap) (cpos:=pos) pat sl ty mr po (jQ4 h1.1) h2) fun σ H Q q=>?_;have e:(fun(x:V) (H1:Hp)=>tyV X.K m.ty x H1/\mtR X.K m x [] H1 Q)=fun(x:V) (H1:Hp)=>tyV X.K m.ty x H1/\(wp X.K G.ev as E).a σ H1 fun vs H2=>mtR X.K m x vs H2 Q:=by
     funext x H1
     rw[propext (jJf as h0.1 h4.2)]
    show(wp X.K G.ev o E).e σ H (fun(x:V) (H1:Hp)=>tyV X.K m.ty x H1/\mtR X.K m x [] H1 Q);rw[e];exact q
   |cons e1 es1 =>
    have s2:=jAE st;refine jWK (apos:=ap) (cpos:=pos) pat sl ty mr po pa (jQ4 h1.1) ?_ h2 (jAO _ s2.1) (jCV s2.2);rw[jJh st];have hl':(e1::es1).length<20:=of_decide_eq_true h3.1;show(true&&true&&decide ((e1::es1).length+0+0<30))=true;rw[dT (Qo hl' (by decide:20<=30):(e1::es1).length+0+0<30)]
    rfl
  exact Snd.of pe (jCB pe fun _=>rfl) (fun _ _ _ z=>by cases z) rfl
 |slc a lo hi iha ihl ihh =>
  intro X S E ok e h nd;obtain⟨v,sl,pos,rfl,h⟩:=jHy h;obtain⟨l,u,st,p2,rfl,h⟩:=jLZ h;have h1:=jAE h;have h2:=jAE h1.2;have h3:=jAE h2.2;have part:∀(q:PX) (w:Option Expr),(∀{e:Expr},chk q S e=true->PE X e (wp X.K G.ev q E).e)->onO w (isNop q) (fun e=>!isNop q&&chk q S e)=true ->
    PO X w (fun σ H R=>(if isNop q=true then fun(R:Option Int->Hp->Prop)=>R none H else fun R=>(wp X.K G.ev q E).e σ H fun l H2=>jHw l H2 R) R):=by
   intro q w ihq hq;cases w with
   |none =>
    have e:isNop q=true:=hq;simp only[e,if_true];exact jQV
   |some e' =>
    have q1:=jAE hq;have e:isNop q=false:=(Qs _).mp q1.1;simp only[e,qO,if_false];intro pins s σ H Q I w;refine jQU (ihq q1.2) pins s σ H Q I ?_;show(wp X.K G.ev q E).e σ H (fun(x:V) (H1:Hp)=>∃i,x=.int i/\Q (some i) H1);have e2:(fun(x:V) (H1:Hp)=>∃i,x=.int i/\Q (some i) H1)=fun(x:V) (H1:Hp)=>jHw x H1 Q:=by funext x H1;exact(jNc x H1 Q).symm
    rw[e2];exact w
  cases Option.isNone_iff_eq_none.mp h1.1;exact Snd.lit (jNZ (pos:=pos) (p2:=p2) jSa (iha ok h2.1 nd.1).pe (part lo l (fun hc=>(ihl ok hc nd.2.1).pe) h3.1) (part hi u (fun hc=>(ihh ok hc nd.2.2).pe) h3.2)) rfl (fun _ _ _ z=>by cases z) rfl
 |comp mask tgs tg ik its cond elt ihi ihc ihe =>
  intro X S E ok e h nd;obtain⟨e,gens,scope,pos,rfl,h⟩:=jLb h;obtain⟨⟨t,it,ifs,asy⟩,rfl,h⟩:=jBC h;have h0:=jAE h;have hi:=jAE h0.2;have h1:=jAE hi.2;have h2:=jAE h1.2;have h3:=jAE h2.2;have h4:=jAE h3.2;have h5:=jAE h4.2;have ea:asy=0:=qa h0.1;cases ea;have C:CompSt X.N X.env.scope scope tgs mask:=by rw[ok.N,ok.sc];exact jJa h1.1
  obtain⟨n1,n2,n3,n4⟩:=nd;have pi:PI X t it (jPq fun σ H R=>(wp X.K G.ev its E).a σ H fun vs H1=>jBm X.K ik vs H1 R):=jLO ok h4.1 n1 ((Qs _).mp hi.1) fun es p q=>ihi ok q n2;refine Snd.lit (jQg (pos:=pos) (g:=jDd X.K tg) (tc:=if isNop cond=true then fun _ H Q=>Q true H else(wp X.K G.ev cond (fun _ _ _=>False)).t) (te:=(wp X.K G.ev elt (fun _ _ _=>False)).e) ok.calm pi C (fun s H ex=>?_) (fun x=>jLl h3.1 x)) rfl (fun _ _ _ z=>by cases z) rfl;have okc:=ok.comp scope tgs mask s H ex;refine⟨jNY okc (fun z=>(QC z).elim) C.nd h2.1,?_,(ihe okc h5.2 n4).pe⟩;have hif:=h5.1;cases ifs with
  |nil =>
   have e:isNop cond=true:=hif;simp only[e,if_true];exact jLM
  |cons c r =>
   have q1:=jAE hif;have q2:=jAE q1.2;cases Qu.mp q1.1;have e:isNop cond=false:=(Qs _).mp q2.1;simp only[e,qO,if_false];exact jLL (ihc okc q2.2 n3).pt
end L2.L3
namespace L2.L3
open PySem PySem.Spec PyProof.Rows
set_option genSizeOf false in
set_option genInjectivity false in
inductive PT where
 |nil|seq (s r:PT)
 |set (i:Nat) (e:PX)
 |expr (e:PX)|ret (e:PX)
 |ife (c:PX) (a b:PT)
 |for_ (tg:Tg) (ik:ItK) (its:PX) (body:PT)
 |own (i:Nat) (e:PX)|tset (is:List Nat) (e:PX)|six (o i e:PX)|sdf (i:Nat) (k:PX)|whl (c:PX) (body:PT)|frz (is:List Nat) (s:PT)
noncomputable def jOx(K:QD):V->V->V->Hp->(Hp->Prop)->Prop:=fun o i v H Q=>match o,i with
 | .ref p,.int k=>∃xs j,H p=some (.lst xs)/\ixN xs.length k=some j/\Q (upd H p (.lst (xs.set j v)))
 | .ref p,.str z=>jW2 K H p (.str z) v Q
 | .ref p,.ref b=>jW2 K H p (.ref b) v Q
 |_,_=>False
noncomputable def sdX(i:Nat)(k:PX):PX:=.mt .setd (.var i) (.acons k (.acons (.dnew true) .anil))
def jYv(J:It)(g:TG)(tb:TS)(D:Ends)(σ:St)(H1:Hp):Prop:=∃W:Nat->Nat->St->Hp->Prop,(∃m,W 0 m σ H1)/\∀i m σ H,W i m σ H ->
 (J.stop i H/\D.nx σ H)∨(J.go i H/\∃N:St->Hp->Prop,(∀σ' H',N σ' H'->∃m',m' < m/\W (i+1) m' σ' H')/\∀x H',J.yld i H x H'->g x σ H' fun σ2 H2=>tb { D with nx:=N,ct:=N,bk:=D.nx } σ2 H2)
def jWz(K:QD)(xs:List Item)(st:Hp->Prop)(tg:Tg)(tb:TS)(D:Ends)(σ:St)(H:Hp):Prop:=∀J,Yields J xs st->jYv J (jDd K tg) tb D σ H
noncomputable def wps(K:QD)(Γ:Ev)(E:XK):PT->TS
 | .nil=>fun D σ H=>D.nx σ H
 | .seq s r=>fun D σ H=>wps K Γ E s { D with nx:=fun σ H=>wps K Γ E r D σ H } σ H
 | .set i e=>fun D σ H=>(wp K Γ e E).e σ H fun x H1=>D.nx (σ.set i (some x)) H1
 | .own i e=>fun D σ H=>(wp K Γ e E).e σ H fun x H1=>D.nx (σ.set i (some x)) H1
 | .expr e=>fun D σ H=>(wp K Γ e E).e σ H fun _ H1=>D.nx σ H1
 | .ret e=>fun D σ H=>(wp K Γ e E).e σ H D.rt
 | .ife c a b=>fun D σ H=>(wp K Γ c E).t σ H fun k H1=>if k=true then wps K Γ E a D σ H1 else wps K Γ E b D σ H1
 | .for_ tg ik its body=>fun D σ H=>(wp K Γ its E).a σ H fun vs H1=>jBm K ik vs H1 fun xs st H2=>jWz K xs st tg (wps K Γ E body) D σ H2
 | .tset is e=>fun D σ H=>(wp K Γ e E).e σ H fun x H1=>jDd K (.tp is) x σ H1 D.nx
 | .six o i e=>fun D σ H=>(wp K Γ e E).e σ H fun v H1=>(wp K Γ o E).e σ H1 fun ov H2=>(wp K Γ i E).e σ H2 fun iv H3=>jOx K ov iv v H3 fun H4=>D.nx σ H4
 | .sdf i k=>fun D σ H=>(wp K Γ (sdX i k) E).e σ H fun _ H1=>D.nx σ H1
 | .whl c body=>jOl (wp K Γ c E).t (wps K Γ E body)
 | .frz _ s=>wps K Γ E s
noncomputable def jC0(G:Glob):PT->Prop
 | .nil=>True
 | .seq s r=>jC0 G s/\jC0 G r
 | .set _ e=>jAn G e
 | .own _ e=>jAn G e
 | .tset _ e=>jAn G e
 | .six o i e=>jAn G o/\jAn G i/\jAn G e
 | .sdf i k=>jAn G (sdX i k)
 | .whl c body=>jAn G c/\jC0 G body
 | .frz _ s=>jC0 G s
 | .expr e=>jAn G e
 | .ret e=>jAn G e
 | .ife c a b=>jAn G c/\jC0 G a/\jC0 G b
 | .for_ _ ik its body=>ikN G ik/\jAn G its/\jC0 G body
noncomputable def jDr:Expr->Bool
 | .ListComp _ _ _ _ | .SetComp _ _ _ _ | .DictComp _ _ _ _ _=>false
 |_=>true
noncomputable def jIk(S:SC)(i:Nat)(x:Str):Bool:=S.N[i]?==some x&&(S.sc.names.lookup x==some .local||S.sc.names.lookup x==some .cell)
noncomputable def jOC:PT->Bool
 | .nil=>false
 | .seq _ _=>false
 | .frz _ s=>jOC s
 |_=>true
noncomputable def jLf(s:Stmt)(f:List Expr->Expr->Bool):Bool:=match s with | .Assign ts v _=>f ts v|_=>false
noncomputable def jWQ(s:Stmt)(f:Expr->Bool):Bool:=match s with | .Expr v _=>f v|_=>false
noncomputable def jTG(s:Stmt)(f:Option Expr->Bool):Bool:=match s with | .Return v _=>f v|_=>false
noncomputable def jTH(s:Stmt)(f:Expr->List Stmt->List Stmt->Bool):Bool:=match s with | .If t x y _=>f t x y|_=>false
noncomputable def jTI(s:Stmt)(f:Expr->Expr->List Stmt->List Stmt->Pos->Bool):Bool:=match s with | .For t it x y p=>f t it x y p|_=>false
noncomputable def jXa(s:Stmt)(f:Expr->List Stmt->List Stmt->Bool):Bool:=match s with | .While t x y _=>f t x y|_=>false
noncomputable def jWS:Expr->Bool
 | .Tuple _ _ _=>false
 | .List _ _=>false
 |_=>true
theorem jF6{s:Stmt}{f:List Expr->Expr->Bool}(h:jLf s f=true):∃ts v p,s=.Assign ts v p/\f ts v=true:=by
 cases s with
 |Assign ts v p=>exact⟨ts,v,p,rfl,h⟩
 |_=>exact(QC h).elim
theorem jPD{s:Stmt}{f:Expr->Bool}(h:jWQ s f=true):∃v p,s=.Expr v p/\f v=true:=by
 cases s with
 |Expr v p=>exact⟨v,p,rfl,h⟩
 |_=>exact(QC h).elim
theorem jQo{s:Stmt}{f:Option Expr->Bool}(h:jTG s f=true):∃v p,s=.Return v p/\f v=true:=by
 cases s with
 |Return v p=>exact⟨v,p,rfl,h⟩
 |_=>exact(QC h).elim
theorem jQp{s:Stmt}{f:Expr->List Stmt->List Stmt->Bool}(h:jTH s f=true):∃t x y p,s=.If t x y p/\f t x y=true:=by
 cases s with
 |If t x y p=>exact⟨t,x,y,p,rfl,h⟩
 |_=>exact(QC h).elim
theorem jQq{s:Stmt}{f:Expr->Expr->List Stmt->List Stmt->Pos->Bool}(h:jTI s f=true):∃t it x y p,s=.For t it x y p/\f t it x y p=true:=by
 cases s with
 |For t it x y p=>exact⟨t,it,x,y,p,rfl,h⟩
 |_=>exact(QC h).elim
theorem jTE{s:Stmt}{f:Expr->List Stmt->List Stmt->Bool}(h:jXa s f=true):∃t x y p,s=.While t x y p/\f t x y=true:=by
 cases s with
 |While t x y p=>exact⟨t,x,y,p,rfl,h⟩
 |_=>exact(QC h).elim
noncomputable def setB(S:SC)(i:Nat)(c:Expr->Bool)(l:List Stmt):Bool:=on1 l fun st=>jLf st fun ts v=>on1 ts fun t=>jEX t fun x _=>jIk S i x&&((jDr v||S.sc.names.lookup x==some .cell)&&c v)
noncomputable def jTx:PX->Bool
 | .comp _ _ _ _ _ _ _=>true
 |_=>false
noncomputable def jNO(S:SC)(i:Nat)(e:PX)(l:List Stmt):Bool:=on1 l fun st=>jLf st fun ts v=>on1 ts fun t=>jEX t fun x px=>jWP v fun el gs sc cp=>jWc S i x&&(S.sc.kind==.function&&(px.line==cp.line&&(!(sc.names.any fun(n,k)=>n==x&&(k==.local||k==.cell))&&(jTx e&&chk e S (.ListComp el gs sc cp)))))
noncomputable def jOS:PT->SC->List Stmt->Bool
 | .nil,_,l=>l.isEmpty
 | .seq s r,S,l=>onC l fun st l=>jOC s&&(jOS s S [st]&&jOS r S l)
 | .set i e,S,l=>setB S i (chk e S) l||jNO S i e l
 | .own i e,S,l=>setB S i (chk e S) l||jNO S i e l
 | .frz _ s,S,l=>jOS s S l
 | .expr e,S,l=>on1 l fun st=>jWQ st fun v=>jDr v&&chk e S v
 | .ret e,S,l=>on1 l fun st=>jTG st fun v=>onO v false (chk e S)
 | .ife c a b,S,l=>on1 l fun st=>jTH st fun t x y=>chk c S t&&(jOS a S x&&jOS b S y)
 | .for_ tg ik its body,S,l=>on1 l fun st=>jTI st fun t it x y pos=>y.isEmpty&&(tgB true S tg t&&(jLk it&&(itC (jC7 its) S ik (fun es p=>chk its S (.List es p)) t it pos&&jOS body S x)))
 | .tset is e,S,l=>on1 l fun st=>jLf st fun ts v=>on1 ts fun t=>jWS v&&(jDr v&&(jJM t&&(tgB true S (.tp is) t&&chk e S v)))
 | .six o i e,S,l=>on1 l fun st=>jLf st fun ts v=>on1 ts fun t=>jNg t fun ov iv _=>jH3 iv&&(jDr v&&(chk e S v&&(chk o S ov&&chk i S iv)))
 | .sdf i k,S,l=>on1 l fun st=>jWQ st fun v=>jDr v&&chk (sdX i k) S v
 | .whl c body,S,l=>on1 l fun st=>jXa st fun t x y=>y.isEmpty&&(chk c S t&&jOS body S x)
structure OkS(X:Cx)(S:SC)(G:Glob)(E:XK):Prop extends OkX X S G E where
 po:PassesOwn (model X.prog X.w) X.A X.env X.xe
 nd:X.N.Nodup
 cel:∀x,X.fn x=true
section
variable{X:Cx}{S:SC}{G:Glob}{E:XK}
theorem jGy{e:Expr}{t:Option Expr}{n:Nat}{env:Env}(h:jDr e=true):swapsWith e t n env=pure false:=by
 cases e<;>first|rfl|cases h
theorem jNK(hu:X.A.units+66<cLine):jVq X (jOx X.K):=by
 intro pins s σ H o i v ov iv u Q I ro ri rv h;cases o with
 |ref p =>
  cases i with
  |int k =>
   obtain⟨xs,j,h1,h2,q⟩:=h;exact jNM pins s σ H _ _ v ov iv u Q I ro ri rv ⟨p,xs,k,j,rfl,rfl,h1,h2,q⟩
  |str z=>exact jIq hu pins s σ H _ _ v ov iv u Q I ro ri rv h
  |ref b=>exact jIq hu pins s σ H _ _ v ov iv u Q I ro ri rv h
  |_=>exact QZ h
 |_=>exact QZ h
theorem jKr{i:Nat}{x:Str}(ok:OkX X S G E)(h:jIk S i x=true):X.N[i]?=some x/\Loc X.env.scope x:=by
 simp only[jIk,Qb,wM,beq_iff_eq]at h;rw[ok.N,ok.sc];exact⟨h.1,h.2⟩
theorem jLI(ok:OkS X S G E){i:Nat}{x:Str}{e:PX}{v:Expr}{px pos:Pos}(h1:jIk S i x=true)(h2:(jDr v||S.sc.names.lookup x==some .cell)=true)(pe:PE X v (wp X.K G.ev e E).e) :
  PS X (.Assign [.Name x px] v pos) (wps X.K G.ev E (.set i e)):=by
 obtain⟨g1,g2⟩:=jKr ok.toOkX h1;refine jSr (pos':=px) ok.nd g1 g2 pe ?_ (.inl (ok.cel x));cases hn:jDr v with
 |true=>exact jGy hn
 |false =>
  rw[hn,QAb,beq_iff_eq,<- ok.sc]at h2;have hk:X.env.kindOf x=some .cell:=h2;have key:∀(b c:Bool) (p1 p2:Nat),(pure (b&&X.env.kindOf x==some .local&&p1==p2&&!c):Sem Bool)=pure false:=fun b c p1 p2=>by
   rw[hk];have:(b&&(some NameKind.cell==some NameKind.local)&&p1==p2&&!c)=false:=by
    cases b<;>rfl
   rw[this]
  cases v with
  |ListComp el gs sc cp=>exact key _ _ _ _
  |SetComp el gs sc cp=>exact key _ _ _ _
  |DictComp k v gs sc cp=>exact key _ _ _ _
  |_=>cases hn
theorem jRW{e:PX}(h:jTx e=true):∃a b c d f g k,e=.comp a b c d f g k:=by
 cases e with
 |comp a b c d f g k=>exact⟨a,b,c,d,f,g,k,rfl⟩
 |_=>exact(QC h).elim
theorem jSu(ok:OkS X S G E){i:Nat}{e:PX}{l:List Stmt}(h:jNO S i e l=true)(nd:jAn G e):∃st,l=[st]/\PS X st (wps X.K G.ev E (.set i e)):=by
 obtain⟨st,e1,q1⟩:=jBC h;obtain⟨ts,v,p,e2,q2⟩:=jF6 q1;obtain⟨t,e3,q3⟩:=jBC q2;obtain⟨x,px,e4,q4⟩:=jCQ q3;obtain⟨el,gs,sc,cp,e5,q5⟩:=jLb q4;subst e1 e2 e3 e4 e5;have h1:=jAE q5;have h2:=jAE h1.2;have h3:=jAE h2.2;have h4:=jAE h3.2;have h5:=jAE h4.2;obtain⟨mask,tgs,tg,ik,its,cond,elt,rfl⟩:=jRW h5.1;refine⟨_,rfl,?_⟩;have h6:=h5.2;obtain⟨el',gens,scope,pos,ee,g⟩:=jLb h6;cases ee;obtain⟨⟨t,it,ifs,asy⟩,rfl,g⟩:=jBC g;have g0:=jAE g;have gi:=jAE g0.2;have g1:=jAE gi.2;have g2:=jAE g1.2;have g3:=jAE g2.2;have g4:=jAE g3.2;have g5:=jAE g4.2;have ea:asy=0:=qa g0.1;cases ea;have C:CompSt X.N X.env.scope sc tgs mask:=by rw[ok.N,ok.sc];exact jJa g1.1
 obtain⟨n1,n2,n3,n4⟩:=nd;obtain⟨l1,l2⟩:=jRJ h1.1;have l2':X.env.scope.names.lookup x=some .local:=by rw[ok.sc];exact l2
 refine jQS (g:=jDd X.K tg) (tc:=if isNop cond=true then fun _ H Q=>Q true H else(wp X.K G.ev cond (fun _ _ _=>False)).t) (te:=(wp X.K G.ev elt (fun _ _ _=>False)).e) ok.calm ok.nd (by rw[ok.N];exact l1) l2' (jLO ok.toOkX (pos:=cp) g4.1 n1 ((Qs _).mp gi.1) fun es p q=>snd its ok.toOkX q n2) C (fun s H ex=>?_) (fun x=>jLl g3.1 x) ?_
 ·have okc:=ok.toOkX.comp sc tgs mask s H ex
  refine⟨jNY okc (fun z=>(QC z).elim) C.nd g2.1,?_,(snd elt okc g5.2 n4).pe⟩;have hif:=g5.1;cases ifs with
  |nil =>
   have e:isNop cond=true:=hif;simp only[e,if_true];exact jLM
  |cons c r =>
   have p1:=jAE hif;have p2:=jAE p1.2;cases Qu.mp p1.1;have e:isNop cond=false:=(Qs _).mp p2.1;simp only[e,qO,if_false];exact jLL (snd cond okc p2.2 n3).pt
 ·have k1:X.env.scope.kind=.function:=by rw[ok.sc];exact qa h2.1
  have k2:(X.env.blockKind==.function)=true:=by simp[Env.blockKind,k1,ScopeKind.isAnnotationScope]
  have k3:(X.env.kindOf x==some .local)=true:=by
   show(X.env.scope.names.lookup x==some .local)=true;rw[l2'];rfl
  show(pure (X.env.blockKind==.function&&X.env.kindOf x==some .local&&px.line==cp.line&&!(sc.names.any fun(n,k)=>n==x&&(k==.local||k==.cell))):Sem Bool)=pure true;rw[k2,k3,h3.1,h4.1]
  rfl
theorem jYN:∀(p:PT) {l:List Stmt},OkS X S G E->jOS p S l=true->jC0 G p->PSs X l (wps X.K G.ev E p)/\(jOC p=true->∀st,l=[st]->PS X st (wps X.K G.ev E p)):=by
 intro p;have one:∀{p:PT}{st:Stmt},PS X st (wps X.K G.ev E p)->PSs X [st] (wps X.K G.ev E p)/\(jOC p=true->∀st',[st]=[st']->PS X st' (wps X.K G.ev E p)):=fun h=>⟨jQQ h,fun _ st' e=>by cases e;exact h⟩
 have stor:∀{i:Nat}{e:PX}{l:List Stmt},OkS X S G E->(setB S i (chk e S) l||jNO S i e l)=true->jAn G e->∃st,l=[st]/\PS X st (wps X.K G.ev E (.set i e)):=fun {i e l} ok h nd=>by
  rcases(wM _ _).mp h with h|h
  rotate_left
  ·exact jSu ok h nd
  obtain⟨st,e1,q1⟩:=jBC h;obtain⟨ts,v,p,e2,q2⟩:=jF6 q1;obtain⟨t,e3,q3⟩:=jBC q2;obtain⟨x,px,e4,q4⟩:=jCQ q3;subst e1 e2 e3 e4;have h1:=jAE q4;have h2:=jAE h1.2;exact⟨_,rfl,jLI ok h1.1 h2.1 (snd e ok.toOkX h2.2 nd).pe⟩
 induction p with
 |nil =>
  intro l ok h nd;cases Qu.mp h;exact⟨jQR,fun h=>(QC h).elim⟩
 |seq s r ihs ihr =>
  intro l ok h nd;obtain⟨st,l,rfl,h⟩:=jGu h;have h1:=jAE h;have h2:=jAE h1.2;exact⟨jNU ((ihs ok h2.1 nd.1).2 h1.1 st rfl) (ihr ok h2.2 nd.2).1,fun h=>(QC h).elim⟩
 |set i e =>
  intro l ok h nd;obtain⟨st,rfl,q⟩:=stor ok h nd;exact one q
 |own i e =>
  intro l ok h nd;obtain⟨st,rfl,q⟩:=stor ok h nd;exact one q
 |expr e =>
  intro l ok h nd;obtain⟨st,rfl,h⟩:=jBC h;obtain⟨v,p,rfl,h⟩:=jPD h;have h1:=jAE h;exact one (jLK (snd e ok.toOkX h1.2 nd).pe (jGy h1.1))
 |ret e =>
  intro l ok h nd;obtain⟨st,rfl,h⟩:=jBC h;obtain⟨v,p,rfl,h⟩:=jQo h;cases v with
  |none=>exact(QC h).elim
  |some v=>exact one (jSs (snd e ok.toOkX h nd).pe)
 |ife c a b iha ihb =>
  intro l ok h nd;obtain⟨st,rfl,h⟩:=jBC h;obtain⟨t,x,y,p,rfl,h⟩:=jQp h;have h1:=jAE h;have h2:=jAE h1.2;exact one (jWG (snd c ok.toOkX h1.1 nd.1).pt (iha ok h2.1 nd.2.1).1 (ihb ok h2.2 nd.2.2).1)
 |for_ tg ik its body ih =>
  intro l ok h nd;obtain⟨st,rfl,h⟩:=jBC h;obtain⟨t,it,x,y,p,rfl,h⟩:=jQq h;have h0:=jAE h;have h1:=jAE h0.2;have h2:=jAE h1.2;have h3:=jAE h2.2;cases Qu.mp h0.1;exact one (jSt ok.po ok.calm (jQZ ok.toOkX h3.1 nd.1 fun es p q=>snd its ok.toOkX q nd.2.1) (jNY ok.toOkX (fun _=>ok.cel) ok.nd h1.1) (ih ok h3.2 nd.2.2).1 fun x=>jLl h2.1 x)
 |tset is e =>
  intro l ok h nd;obtain⟨st,e1,q1⟩:=jBC h;obtain⟨ts,v,p,e2,q2⟩:=jF6 q1;obtain⟨t,e3,h⟩:=jBC q2;subst e1 e2 e3;have h1:=jAE h;have h2:=jAE h1.2;have h3:=jAE h2.2;have h4:=jAE h3.2;cases t with
  |Tuple es k pt =>
   refine one (jO5 (snd e ok.toOkX h4.2 nd).pe (jNY ok.toOkX (fun _=>ok.cel) ok.nd h4.1) ?_ ?_ ?_)
   ·show swapsWith v (some (.Tuple es k pt)) p.line X.env=pure false
    exact jGy h2.1
   ·cases v<;>first|rfl|exact(QC h1.1).elim
   ·rfl
  |_=>exact(QC h3.1).elim
 |six o i e =>
  intro l ok h nd;obtain⟨st,e1,q1⟩:=jBC h;obtain⟨ts,v,p,e2,q2⟩:=jF6 q1;obtain⟨t,e3,h⟩:=jBC q2;subst e1 e2 e3;obtain⟨ov,iv,pp,e4,q4⟩:=jHy h;subst e4;have h1:=jAE q4;have h2:=jAE h1.2;have h3:=jAE h2.2;have h4:=jAE h3.2;refine one (jO5 (snd e ok.toOkX h3.1 nd.2.2).pe (jS0 (pos:=pp) (snd o ok.toOkX h4.1 nd.1).pe (snd i ok.toOkX h4.2 nd.2.1).pe (jNK ok.un) ?_) ?_ ?_ ?_)
  ·intro w
   cases iv<;>first|rfl|exact(QC h1.1).elim
  ·show swapsWith v (some (.Subscript ov iv pp)) p.line X.env=pure false
   exact jGy h2.1
  ·cases v<;>rfl
  ·rfl
 |sdf i k =>
  intro l ok h nd;obtain⟨st,rfl,h⟩:=jBC h;obtain⟨v,p,rfl,h⟩:=jPD h;have h1:=jAE h;exact one (jLK (snd (sdX i k) ok.toOkX h1.2 nd).pe (jGy h1.1))
 |whl c body ih =>
  intro l ok h nd;obtain⟨st,rfl,h⟩:=jBC h;obtain⟨t,x,y,p,rfl,h⟩:=jTE h;have h1:=jAE h;have h2:=jAE h1.2;cases Qu.mp h1.1;exact one (jNV ok.po (snd c ok.toOkX h2.1 nd.1).pt (ih ok h2.2 nd.2).1)
 |frz is s ih =>
  intro l ok h nd;exact ih ok h nd
end
noncomputable abbrev D:=PyData
set_option genInjectivity true in
inductive T where
 |d (x:D)|lst (ts:List T)|tup (ts:List T)|dct (b:Bool) (ks:List D) (ts:List T)
mutual
noncomputable def T.er:T->D
 | .d x=>x
 | .lst ts=>.list (jC8 ts)
 | .tup ts=>.tuple (jC8 ts)
 | .dct _ ks ts=>.dict (ks.zip (jC8 ts))
noncomputable def jC8:List T->List D
 |[]=>[]
 |t::r=>t.er::jC8 r
end
theorem jAe(ds:List D):jC8 (ds.map T.d)=ds:=by
 induction ds with
 |nil=>rfl
 |cons d r ih=>simp only[QR,jC8,ih,T.er]
theorem jOL:∀(ts:List T),(jC8 ts).length=ts.length
 |[]=>rfl
 |t::r=>by simp only[jC8,QL,jOL r]
theorem jII:∀(ts:List T),jC8 ts=ts.map T.er
 |[]=>rfl
 |t::r=>by simp only[jC8,QR,jII r]
noncomputable def T.isD:T->Bool
 | .d _=>true
 |_=>false
set_option genInjectivity true in
inductive Sl where
 |own (t:T)|bor (t:T)
noncomputable abbrev PSt:=List (Option Sl)
noncomputable def esc(t:T)(n:Bool):Bool:=n||t.isD
noncomputable def jAU(t:T):Bool->T
 |true=>.d t.er
 |false=>t
theorem jAK(x:D)(n:Bool):jAU (.d x) n=.d x:=by cases n<;>rfl
theorem jMR(t:T)(n:Bool):(jAU t n).er=t.er:=by cases n<;>rfl
noncomputable def unD:List T->Option (List D)
 |[]=>some []
 | .d x::r=>(unD r).map (x::·)
 |_::_=>none
theorem jAN(ds:List D):unD (ds.map T.d)=some ds:=by
 induction ds with
 |nil=>rfl
 |cons d r ih=>simp only[QR,unD,ih,Q8]
theorem jFt:∀{ts:List T}{ds:List D},unD ts=some ds->ts=ds.map T.d
 |[],ds,h=>by simp only[unD,Qh]at h;subst h;rfl
 | .d x::r,ds,h=>by
  simp only[unD]at h;cases e:unD r with
  |none=>rw[e]at h;cases h
  |some es =>
   rw[e]at h;cases h;rw[QR,jFt e]
 | .lst _::_,_,h=>by simp[unD]at h
 | .tup _::_,_,h=>by simp[unD]at h
 | .dct _ _ _::_,_,h=>by simp[unD]at h
noncomputable def jCH:List (D×D)->Option Bool
 | (.tuple _,_)::_=>some true
 | (.str _,_)::_=>some false
 |_=>none
noncomputable def jFH:Bool->D->Prop
 |true,k=>∃q,k=tD q
 |false,k=>∃z,k=.str z
open Classical in
noncomputable def jAG:List D->D->Option Nat
 |[],_=>none
 |x::r,k=>if x=k then some 0 else(jAG r k).map (·+1)
noncomputable def jM0(b:Bool)(ks:List D)(ts:List T)(k:D)(t:T):T:=match jAG ks k with
 |some n=>.dct b ks (ts.set n t)
 |none=>.dct b (ks++[k]) (ts++[t])
theorem jB1:∀{ks:List D}{k:D}{n:Nat},jAG ks k=some n->ks[n]?=some k
 |[],_,_,h=>by cases h
 |x::r,k,n,h=>by
  unfold jAG at h;by_cases e:x=k
  ·rw[if_pos e]at h;cases h;rw[e];rfl
  ·rw[if_neg e]at h
   cases q:jAG r k with
   |none=>rw[q]at h;cases h
   |some m =>
    rw[q]at h;cases h;simpa using jB1 q
theorem jA1:∀{ks:List D}{k:D},jAG ks k=none↔k∉ks
 |[],_=>by simp[jAG]
 |x::r,k=>by
  unfold jAG;by_cases e:x=k
  ·simp[e]
  ·rw[if_neg e,Option.map_eq_none_iff,jA1]
   simp[Q2 e]
theorem jFh{ks:List D}{k:D}:(jAG ks k).isSome=true↔k∈ks:=by
 cases h:jAG ks k with
 |none=>simp[jA1.mp h]
 |some n=>simp[qC (jB1 h)]
set_option genInjectivity true in
inductive Vw where
 |sc (x:D)|ls (ts:List T)|tp (ts:List T)|dc (b:Bool) (ks:List D) (ts:List T)
noncomputable def jA5(kvs:List (D×D)):Vw:=match jCH kvs with
 |some b=>.dc b (kvs.map (·.1)) (kvs.map fun p=>T.d p.2)
 |none=>.sc (.dict kvs)
noncomputable def T.vw:T->Vw
 | .lst ts=>.ls ts
 | .tup ts=>.tp ts
 | .dct b ks ts=>.dc b ks ts
 | .d x=>match x with
  | .list ds=>.ls (ds.map T.d)
  | .tuple ds=>.tp (ds.map T.d)
  | .dict kvs=>jA5 kvs
  | .none=>.sc .none
  | .bool b=>.sc (.bool b)
  | .int i=>.sc (.int i)
  | .str s=>.sc (.str s)
noncomputable def jF9(ts:List T):T:=match unD ts with
 |some ds=>.d (.tuple ds)
 |none=>.tup ts
noncomputable abbrev XD:=Value×List (Str×D)
noncomputable abbrev XE:=XD->Prop
noncomputable abbrev TK:=T->Bool->PSt->Prop
inductive Md where
 |fro|shal|bor|chg
 deriving DecidableEq
structure PSp where
 md:List Md
 run:List T->(T->List T->Prop)->XE->Prop
 mono:∀{ts:List T}{Q Q':T->List T->Prop}{E E':XE},(∀t os,Q t os->Q' t os)->(∀x,E x->E' x)->run ts Q E->run ts Q' E'
structure PEv where
 sp:Str->PSp
 va:Str->Option D
def binT(op:Operator)(x y:Vw)(Q:T->Bool->Prop):Prop:=match op with
 | .Add=>(∃i j,x=.sc (.int i)/\y=.sc (.int j)/\Q (.d (.int (i+j))) false)∨(∃a b,x=.sc (.str a)/\y=.sc (.str b)/\a.length+b.length<=sizeLine/\Q (.d (.str (a++b))) false) ∨
  (∃xs ys ds es,x=.ls xs/\y=.ls ys/\unD xs=some ds/\unD ys=some es/\ds.length+es.length<=sizeLine/\Q (.lst ((ds++es).map T.d)) true) ∨
  (∃xs ys ds es,x=.tp xs/\y=.tp ys/\unD xs=some ds/\unD ys=some es/\ds≠[]/\es≠[]/\ds.length+es.length<=sizeLine/\Q (.d (.tuple (ds++es))) false)
 | .Sub=>∃i j,x=.sc (.int i)/\y=.sc (.int j)/\Q (.d (.int (i - j))) false
 | .Mult=>(∃i j,x=.sc (.int i)/\y=.sc (.int j)/\IntMulOk i j/\Q (.d (.int (i * j))) false)∨(∃a k,x=.sc (.str a)/\y=.sc (.int k)/\(-(2 ^ 31)<=k/\k<2 ^ 31/\a.length * k.toNat<=sizeLine)/\Q (.d (.str (jIt a k))) false)
 | .FloorDiv=>∃i j,x=.sc (.int i)/\y=.sc (.int j)/\(0<j/\j<2 ^ 200)/\Q (.d (.int (i / j))) false
 | .Mod=>∃i j,x=.sc (.int i)/\y=.sc (.int j)/\0<j/\Q (.d (.int (i % j))) false
 |_=>False
section
variable{Q:T->Bool->Prop}
theorem jUm(i j:Int):binT .Add (.sc (.int i)) (.sc (.int j)) Q=Q (.d (.int (i+j))) false:=by simp[binT]
theorem jUl(xs ys:List T):binT .Add (.ls xs) (.ls ys) Q=∃ds es,unD xs=some ds/\unD ys=some es/\ds.length+es.length<=sizeLine/\Q (.lst ((ds++es).map T.d)) true:=by simp[binT]
theorem jUk(i j:Int):binT .Sub (.sc (.int i)) (.sc (.int j)) Q=Q (.d (.int (i - j))) false:=by simp[binT]
theorem jUj(i j:Int):binT .Mult (.sc (.int i)) (.sc (.int j)) Q=(IntMulOk i j/\Q (.d (.int (i * j))) false):=by simp[binT]
theorem jUi(a:Str)(k:Int):binT .Mult (.sc (.str a)) (.sc (.int k)) Q=((-(2 ^ 31)<=k/\k<2 ^ 31/\a.length * k.toNat<=sizeLine)/\Q (.d (.str (jIt a k))) false):=by simp[binT]
theorem jUh(i j:Int):binT .FloorDiv (.sc (.int i)) (.sc (.int j)) Q=((0<j/\j<2 ^ 200)/\Q (.d (.int (i / j))) false):=by simp[binT]
theorem jUg(i j:Int):binT .Mod (.sc (.int i)) (.sc (.int j)) Q=(0<j/\Q (.d (.int (i % j))) false):=by simp[binT]
end
noncomputable def eqD:D->D->(Bool->Prop)->Prop
 | .int i,.int j,Q=>Q (decide (i=j))
 | .str x,.str y,Q=>Q (decide (x=y))
 | .bool x,.bool y,Q=>Q (decide (x=y))
 |a,b,Q=>okD a/\okD b/\Q (Q5 a b)
noncomputable def jBo:D->Bool
 | .none | .bool _ | .int _ | .str _=>true
 |_=>false
noncomputable def inD:D->D->(Bool->Prop)->Prop
 | .str x,.str y,Q=>Q (inStr y x)
 |a,.list ds,Q|a,.tuple ds,Q=>((jBo a=true/\ds.all jBo=true)∨(okD a/\okD (.list ds)))/\Q (ds.any fun y=>Q5 y a)
 |a,.dict kvs,Q=>∃b,jCH kvs=some b/\jFH b a/\Q (jAG (kvs.map (·.1)) a).isSome
 |_,_,_=>False
noncomputable def jR8(f:Int->Int->Bool):D->D->(Bool->Prop)->Prop
 | .int i,.int j,Q=>Q (f i j)
 |_,_,_=>False
def jYp(a b:D)(Q:Bool->Prop):Prop:=∃x y,a=.bool x/\b=.bool y/\Q (decide (x=y))
noncomputable def jUJ:CmpOp->D->D->(Bool->Prop)->Prop
 | .Eq,a,b,Q=>eqD a b Q
 | .NotEq,a,b,Q=>eqD a b fun k=>Q (!k)
 | .Lt,a,b,Q=>jR8 (fun i j=>decide (i<j)) a b Q
 | .LtE,a,b,Q=>jR8 (fun i j=>decide (i<=j)) a b Q
 | .Gt,a,b,Q=>jR8 (fun i j=>decide (j<i)) a b Q
 | .GtE,a,b,Q=>jR8 (fun i j=>decide (j<=i)) a b Q
 | .In,a,b,Q=>inD a b Q
 | .NotIn,a,b,Q=>inD a b fun k=>Q (!k)
 | .Is,a,b,Q=>jYp a b Q
 |_,_,_,_=>False
def jVo(op:CmpOp)(x:D)(y:T)(Q:Bool->Prop):Prop:=match y with
 | .dct b ks _=>jFH b x/\((op=.In/\Q (jAG ks x).isSome)∨(op=.NotIn/\Q (!(jAG ks x).isSome)))
 | .d y=>jUJ op x y Q
 | .lst ts=>jUJ op x (.list (jC8 ts)) Q
 | .tup ts=>jUJ op x (.tuple (jC8 ts)) Q
noncomputable def jIi:D->(Bool->Prop)->Prop
 | .bool b,Q=>Q b
 | .int i,Q=>Q (i != 0)
 | .none,Q=>Q false
 | .str z,Q=>z.length<=sizeLine/\Q ((z.length:Int) != 0)
 | .list ds,Q=>Q (!ds.isEmpty)
 | .tuple ds,Q=>Q (!ds.isEmpty)
 |_,_=>False
noncomputable def asD:D->(Bool->Prop)->Prop
 | .bool b,Q=>Q b
 |_,_=>False
def jPW(x:Vw)(k:D)(Q:T->Prop):Prop:=∃b ks ts n t,x=.dc b ks ts/\jFH b k/\jAG ks k=some n/\ts[n]?=some t/\Q t
def jM2(x y:Vw)(Q:T->Prop):Prop:=(∃z i c,x=.sc (.str z)/\y=.sc (.int i)/\z.length<=sizeLine/\atI z.cps.toList i=some c/\Q (.d (.str ⟨#[c]⟩))) ∨
 (∃ts i t,x=.ls ts/\y=.sc (.int i)/\atI ts i=some t/\Q t)∨(∃ts i t,x=.tp ts/\y=.sc (.int i)/\atI ts i=some t/\Q t)
theorem jT2{Q:T->Prop}(z:Str)(i:Int):jM2 (.sc (.str z)) (.sc (.int i)) Q=(z.length<=sizeLine/\∃c,atI z.cps.toList i=some c/\Q (.d (.str ⟨#[c]⟩))):=by simp[jM2]
theorem jPR{Q:T->Prop}(ts:List T)(i:Int):jM2 (.ls ts) (.sc (.int i)) Q=∃t,atI ts i=some t/\Q t:=by simp[jM2]
theorem jT1{Q:T->Prop}(ts:List T)(i:Int):jM2 (.tp ts) (.sc (.int i)) Q=∃t,atI ts i=some t/\Q t:=by simp[jM2]
noncomputable def jHj{α:Type}(xs:List α)(lo hi:Option Int):List α:=(xs.drop (HT.sIx xs.length 0 lo)).take (HT.sIx xs.length xs.length hi - HT.sIx xs.length 0 lo)
def jOt(x:Vw)(lo hi:Option Int)(Q:T->Bool->Prop):Prop:=(∃z,x=.sc (.str z)/\z.length<=sizeLine/\Q (.d (.str (QCI z lo hi))) false)∨(∃ts ds,x=.ls ts/\unD ts=some ds/\Q (.lst ((jHj ds lo hi).map T.d)) true) ∨
 (∃ts ds,x=.tp ts/\unD ts=some ds/\¬ (HT.sIx ds.length 0 lo=0/\HT.sIx ds.length ds.length hi=ds.length)/\Q (.d (.tuple (jHj ds lo hi))) false)
section
variable{Q:T->Bool->Prop}{lo hi:Option Int}
theorem jSY(ts:List T):jOt (.ls ts) lo hi Q=∃ds,unD ts=some ds/\Q (.lst ((jHj ds lo hi).map T.d)) true:=by simp[jOt]
end
noncomputable def jJ6:D->(Option Int->Prop)->Prop
 | .int i,Q=>Q (some i)
 |_,_=>False
noncomputable def isD(n:String):D->Option Bool
 | .none=>some false
 | .bool _=>some (n == "bool" || n == "int")
 | .int _=>some (n == "int")
 | .str _=>some (n == "str")
 | .list _=>some (n == "list")
 | .tuple _=>some (n == "tuple")
 | .dict _=>none
noncomputable def jKD(n:String):Bool:=n == "bool" || n == "int" || n == "str" || n == "list" || n == "tuple" || n == "ValueError"
noncomputable def jBs(l:List Str):D:=.list (l.map PyData.str)
def biT(f:Bi)(vs:List Vw)(Q:T->Bool->Prop):Prop:=match f with
 | .len=>(∃z,vs=[.sc (.str z)]/\z.length<=sizeLine/\Q (.d (.int z.length)) false)∨(∃ts,vs=[.ls ts]/\Q (.d (.int ts.length)) false)∨(∃ts,vs=[.tp ts]/\Q (.d (.int ts.length)) false)
 | .all=>∃ts,∃bs:List Bool,vs=[.ls ts]/\unD ts=some (bs.map PyData.bool)/\Q (.d (.bool (bs.all id))) false
 | .any=>∃ts,∃bs:List Bool,vs=[.ls ts]/\unD ts=some (bs.map PyData.bool)/\Q (.d (.bool (bs.any id))) false
 | .list=>∃ts ds,vs=[.ls ts]/\unD ts=some ds/\Q (.lst (ds.map T.d)) true
 | .sorted=>(∃ts,∃ss:List Str,vs=[.ls ts]/\unD ts=some (ss.map PyData.str)/\ss.length<64/\∀ss':List Str,ss'.Perm ss->sortedS ss'=true->Q (.lst ((ss'.map PyData.str).map T.d)) true) ∨
  (∃ts,∃ls:List (List Str),vs=[.ls ts]/\unD ts=some (ls.map jBs)/\ls.length<64/\∀ls':List (List Str),ls'.Perm ls->Q (.lst ((ls'.map jBs).map T.d)) true)
section
variable{Q:T->Bool->Prop}
theorem jUo(ts:List T):biT .len [.ls ts] Q=Q (.d (.int ts.length)) false:=by simp[biT]
theorem jWr(ts:List T):biT .any [.ls ts] Q=∃bs:List Bool,unD ts=some (bs.map PyData.bool)/\Q (.d (.bool (bs.any id))) false:=by simp[biT]
theorem jWq(ts:List T):biT .list [.ls ts] Q=∃ds,unD ts=some ds/\Q (.lst (ds.map T.d)) true:=by simp[biT]
end
def jN1(x:Vw)(Q:T->Bool->Prop):Prop:=∃ts,∃ss:List Str,x=.ls ts/\unD ts=some (ss.map PyData.str)/\ss.length<4000/\∀zs:List Str,zs.Nodup->(∀s,s∈zs↔s∈ss)->Q (.d (.int zs.length)) false
def jNI(x:Vw)(Q:T->Bool->Prop):Prop:=∃ts,∃ss:List Str,x=.ls ts/\unD ts=some (ss.map PyData.str)/\ss.length<64/\∀zs:List Str,zs.Nodup->(∀s,s∈zs↔s∈ss)->sortedS zs=true->Q (.lst ((zs.map PyData.str).map T.d)) true
def mtT(m:Mt)(x:Vw)(vs:List Vw)(Q:T->Bool->Prop):Prop:=match m with
 | .join=>∃z ts,∃ys:List Str,x=.sc (.str z)/\vs=[.ls ts]/\unD ts=some (ys.map PyData.str)/\(ys.map (·.length)).sum+ys.length * z.length<=16777216/\Q (.d (.str (QAh z ys))) false
 |_=>False
theorem jWa{Q:T->Bool->Prop}(z:Str)(ts:List T):mtT .join (.sc (.str z)) [.ls ts] Q=∃ys:List Str,unD ts=some (ys.map PyData.str)/\(ys.map (·.length)).sum+ys.length * z.length<=16777216/\Q (.d (.str (QAh z ys))) false:=by simp[mtT]
noncomputable def Vw.isS:Vw->Bool
 | .sc (.str _)=>true
 |_=>false
noncomputable def isMut:Mt->Bool
 | .append=>true
 | .pop=>true
 | .setd=>true
 | .join=>false
noncomputable def jRG(m:Mt)(x:Vw):Bool:=x.isS&&!isMut m
def jNy(m:Mt)(s:T)(us:List T)(N:T->T->Prop):Prop:=match m with
 | .append=>∃ts t,s=.lst ts/\us=[t]/\ts.length<sizeLine/\N (.d .none) (.lst (ts++[t]))
 | .pop=>∃ts i k t,s=.lst ts/\us=[.d (.int i)]/\ixN ts.length i=some k/\ts[k]?=some t/\N t (.lst (ts.eraseIdx k))
 |_=>False
theorem jPK{N:T->T->Prop}(ts:List T)(t:T):jNy .append (.lst ts) [t] N=(ts.length<sizeLine/\N (.d .none) (.lst (ts++[t]))):=by simp[jNy]
theorem jPJ{N:T->T->Prop}(ts:List T)(i:Int):jNy .pop (.lst ts) [.d (.int i)] N=∃k t,ixN ts.length i=some k/\ts[k]?=some t/\N t (.lst (ts.eraseIdx k)):=by simp[jNy]
noncomputable def jMG:Mt->Bool
 | .append=>true
 | .pop=>true
 | .setd=>false
 | .join=>false
noncomputable def jG3(m:Mt):T->Bool
 | .lst _=>jMG m
 |_=>false
noncomputable def Vw.seq:Vw->Option (List T)
 | .ls ts=>some ts
 | .tp ts=>some ts
 |_=>none
def jBP(ik:ItK)(vs:List Vw)(R:List T->Prop):Prop:=match ik with
 | .val=>(∃z,vs=[.sc (.str z)]/\R (z.cps.toList.map fun c=>.d (.str ⟨#[c]⟩)))∨(∃ts,vs=[.ls ts]/\R ts)∨(∃ts,vs=[.tp ts]/\R ts)∨(∃ks ts,vs=[.dc true ks ts]/\R (ks.map T.d))
 | .rng1=>∃j,vs=[.sc (.int j)]/\(-(2 ^ 62)<=j/\j<2 ^ 62)/\R ((qE j.toNat).map fun(i:Nat)=>.d (.int (i:Int)))
 | .enum=>∃x ts ds,vs=[x]/\x.seq=some ts/\unD ts=some ds/\R (ds.zipIdx.map fun p=>.d (.tuple [.int (p.2:Int),p.1]))
 | .itm=>(∃ks ts ds,vs=[.dc true ks ts]/\unD ts=some ds/\R ((ks.zip ds).map fun p=>.d (.tuple [p.1,p.2])))∨(vs=[.sc (.dict [])]/\R [])
section
variable{R:List T->Prop}
theorem jJL(ts:List T):jBP .val [.ls ts] R=R ts:=by simp[jBP]
theorem jN9(j:Int):jBP .rng1 [.sc (.int j)] R=((-(2 ^ 62)<=j/\j<2 ^ 62)/\R ((qE j.toNat).map fun(i:Nat)=>.d (.int (i:Int)))):=by simp[jBP]
theorem jJK(x:Vw):jBP .enum [x] R=∃ts ds,x.seq=some ts/\unD ts=some ds/\R (ds.zipIdx.map fun p=>.d (.tuple [.int (p.2:Int),p.1])):=by
 apply propext;constructor
 ·rintro⟨_,ts,ds,⟨⟩,h⟩
  exact⟨ts,ds,h⟩
 ·rintro⟨ts,ds,h⟩
  exact⟨_,ts,ds,rfl,h⟩
theorem jJJ(ks:List D)(ts:List T):jBP .itm [.dc true ks ts] R=∃ds,unD ts=some ds/\R ((ks.zip ds).map fun p=>.d (.tuple [p.1,p.2])):=by
 apply propext;constructor
 ·rintro(⟨_,_,ds,⟨⟩,h⟩| ⟨⟨⟩,_⟩)
  exact⟨ds,h⟩
 ·rintro⟨ds,h⟩
  exact .inl ⟨_,_,ds,rfl,h⟩
theorem jJI(ks:List D)(ts:List T):jBP .val [.dc true ks ts] R=R (ks.map T.d):=by simp[jBP]
theorem jN8:jBP .itm [.sc (.dict [])] R=R []:=by
 apply propext;constructor
 ·rintro(⟨_,_,ds,⟨⟩,h⟩| ⟨_,h⟩)
  exact h
 ·exact fun h=>.inr ⟨rfl,h⟩
end
noncomputable def jAq:List Nat->List T->PSt->Option PSt
 |[],[],ρ=>some ρ
 |i::is,t::ts,ρ=>jAq is ts (ρ.set i (some (.bor t)))
 |_,_,_=>none
noncomputable def jHT:Tg->T->PSt->(PSt->Prop)->Prop
 | .nm i,t,ρ,Q=>Q (ρ.set i (some (.bor t)))
 | .tp is,t,ρ,Q=>match t.vw with
  | .tp ts=>∃ρ',jAq is ts ρ=some ρ'/\Q ρ'
  |_=>False
noncomputable def Tg.ix:Tg->List Nat
 | .nm i=>[i]
 | .tp is=>is
noncomputable def jOz:PX->Option Nat
 | .var i=>some i
 |_=>none
noncomputable def jEc:Option Sl->Option Sl
 |some (.own t)=>some (.bor t)
 |s=>s
noncomputable def lockA(ρ:PSt):PSt:=ρ.map jEc
noncomputable def lock:List Nat->PSt->PSt
 |[],ρ=>ρ
 |i::is,ρ=>lock is (ρ.modify i jEc)
noncomputable def jRe:Option Sl->Option Sl
 |some (.own t)=>some (.bor (.d t.er))
 |s=>s
noncomputable def frzAt:List Nat->PSt->PSt
 |[],ρ=>ρ
 |i::is,ρ=>frzAt is (ρ.modify i jRe)
noncomputable def jD6:Option Sl->Option Sl
 |some (.bor t)=>if t.isD=true then some (.bor t) else none
 |s=>s
noncomputable def kill:List Nat->PSt->PSt
 |[],ρ=>ρ
 |i::is,ρ=>kill is (ρ.modify i jD6)
noncomputable def clear:List Nat->PSt->PSt
 |[],ρ=>ρ
 |i::is,ρ=>clear is (ρ.set i none)
noncomputable def jAg:List Nat->PSt->Option (List T)
 |[],_=>some []
 |i::is,ρ=>match ρ[i]? with
  |some (some (.own t))=>(jAg is ρ).map (t::·)
  |_=>none
noncomputable def jBL:List Nat->List T->PSt->Option PSt
 |[],[],ρ=>some ρ
 |i::is,t::ts,ρ=>jBL is ts (ρ.set i (some (.own t)))
 |_,_,_=>none
noncomputable def jCl:List Bool->PSt->PSt
 |b::m,v::ρ=>(if b then none else v)::jCl m ρ
 |_,ρ=>ρ
noncomputable def jM5(k:Nat)(mask:List Bool)(ρ:PSt):PSt:=Qw k none++jCl mask ρ
def sq{α:Type}(x:T)(ρ:PSt)(b:PSt->(α->PSt->Prop)->Prop)(K:α->PSt->Prop):Prop :=
 if x.isD=true then b ρ K else b (lockA ρ) fun y _=>K y ρ
noncomputable def cu(f:PSt->TK->Prop):PSt->(T×Bool->PSt->Prop)->Prop:=fun ρ K=>f ρ fun x n ρ'=>K (x,n) ρ'
noncomputable def jGf:List (T×Bool)->List T
 |[]=>[]
 |p::r=>p.1::jGf r
noncomputable def jM4:List (T×Bool)->List T
 |[]=>[]
 |p::r=>jAU p.1 p.2::jM4 r
noncomputable def jDK:List (T×Bool)->List Vw
 |[]=>[]
 |p::r=>(jAU p.1 p.2).vw::jDK r
noncomputable def jGI:List (T×Bool)->Bool
 |[]=>true
 |p::r=>esc p.1 p.2&&jGI r
noncomputable def jOb:List (T×Bool)->Bool
 |[]=>true
 |p::r=>esc p.1 p.2&&jOb r
noncomputable def jEP(t:T):Option T:=match t.vw with
 | .ls ts=>(unD ts).map fun ds=>.lst (ds.map T.d)
 |_=>if t.isD=true then some t else none
noncomputable def jAb:List Md->List (T×Bool)->List T->Option (List T)
 |_,[],[]=>some []
 |_,[],_::_=>none
 |md,(x,n)::xs,os=>match md.headD .fro with
  | .fro=>match jAU x n with
   | .d d=>(jAb md.tail xs os).map (.d d::·)
   |_=>none
  | .shal=>match jEP (jAU x n) with
   |some t=>(jAb md.tail xs os).map (t::·)
   |none=>none
  | .bor=>(jAb md.tail xs os).map (jAU x n::·)
  | .chg=>match os with
   |o::os=>(jAb md.tail xs os).map (o::·)
   |[]=>none
noncomputable def jBO:List Md->List T->List T
 |_,[]=>[]
 |md,t::ts=>match md.headD .fro with
  | .chg=>t::jBO md.tail ts
  |_=>jBO md.tail ts
noncomputable def jAC:List Md->PX->List Nat
 | .chg::md,.acons (.var j) as=>j::jAC md as
 |_::md,.acons _ as=>jAC md as
 |_,_=>[]
noncomputable def Md.isMut:Md->Bool
 | .chg=>true
 |_=>false
structure D3 where
 e:PSt->TK->Prop
 t:PSt->(Bool->PSt->Prop)->Prop
 a:List Md->PSt->(List (T×Bool)->PSt->Prop)->Prop
noncomputable def nev:D3:=⟨fun _ _=>False,fun _ _=>False,fun _ _ _=>False⟩
noncomputable def jCm(body:T->(Option T->Prop)->Prop):List T->List T->(List T->Prop)->Prop
 |[],acc,Q=>acc.length<=sizeLine/\Q acc
 |x::xs,acc,Q=>body x fun
  |some y=>acc.length<sizeLine/\jCm body xs (acc++[y]) Q
  |none=>jCm body xs acc Q
def jDB(tg:Tg)(ρ0:PSt)(c:PSt->(Bool->PSt->Prop)->Prop)(e:PSt->TK->Prop)(x:T)(R:Option T->Prop):Prop :=
 jHT tg x ρ0 fun ρ1=>c ρ1 fun b ρ2=>if b=true then e ρ2 fun y n _=>esc y n=true/\R (some y) else R none
noncomputable def jWf:PX->D->(Bool->Prop)->Prop
 | .bty _ n,d,Q=>∃b,isD n d=some b/\jKD n=true/\Q b
 |_,_,_=>False
def jWU(x:T)(Q:T->Prop):Prop:=∃i,x=.d (.int i)/\Q (.d (.int (-i)))
noncomputable def rdV:Option (Option Sl)->(T->Prop)->Prop
 |some (some (.own t)),Q=>Q t
 |some (some (.bor t)),Q=>Q t
 |some none,_=>False
 |none,_=>False
noncomputable def jEV:Option (Option Sl)->(T->Prop)->Prop
 |some (some (.own t)),Q=>Q t
 |some (some (.bor _)),_=>False
 |some none,_=>False
 |none,_=>False
noncomputable def jSg:Option Nat->(Nat->Prop)->Prop
 |none,_=>False
 |some j,Q=>Q j
noncomputable def jRV:PX->Bool
 | .var _=>true
 |_=>false
noncomputable def pe(Ψ:PEv):PX->XE->D3
 | .var i,_=>let e:PSt->TK->Prop:=fun ρ Q=>rdV ρ[i]? fun t=>Q t false ρ
  ⟨e,fun ρ Q=>e ρ fun t _ ρ1=>jIi t.er fun b=>Q b ρ1,nev.a⟩
 | .int i,_=>⟨fun ρ Q=>Q (.d (.int i)) false ρ,fun ρ Q=>Q (i != 0) ρ,nev.a⟩
 | .str x,_=>⟨fun ρ Q=>Q (.d (.str x)) false ρ,nev.t,nev.a⟩
 | .bl b,_=>⟨fun ρ Q=>Q (.d (.bool b)) false ρ,fun ρ Q=>Q b ρ,nev.a⟩
 | .non,_=>⟨fun ρ Q=>Q (.d .none) false ρ,fun ρ Q=>Q false ρ,nev.a⟩
 | .glo x,_=>let e:PSt->TK->Prop:=fun ρ Q=>match Ψ.va x with
   |some d=>Q (.d d) false ρ
   |none=>False
  ⟨e,fun ρ Q=>e ρ fun t _ ρ1=>jIi t.er fun b=>Q b ρ1,nev.a⟩
 | .bty _ _,_=>nev
 | .bin op a b,E=>let e:PSt->TK->Prop:=fun ρ Q=>(pe Ψ a E).e ρ fun x n ρ1=>sq (jAU x n) ρ1 (cu (pe Ψ b E).e) fun y ρ2=>binT op (jAU x n).vw (jAU y.1 y.2).vw fun z k=>Q z k ρ2
  ⟨e,fun ρ Q=>e ρ fun t _ ρ1=>jIi t.er fun b=>Q b ρ1,nev.a⟩
 | .cmp op a b,E=>let t:PSt->(Bool->PSt->Prop)->Prop:=fun ρ Q=>(pe Ψ a E).e ρ fun x n ρ1=>sq (jAU x n) ρ1 (cu (pe Ψ b E).e) fun y ρ2=>jVo op x.er (jAU y.1 y.2) fun k=>Q k ρ2
  ⟨fun ρ Q=>t ρ fun k ρ1=>Q (.d (.bool k)) false ρ1,t,nev.a⟩
 | .neg a,E=>⟨fun ρ Q=>(pe Ψ a E).e ρ fun x _ ρ1=>jWU x fun t=>Q t false ρ1,nev.t,nev.a⟩
 | .and a b,E=>⟨fun ρ Q=>(pe Ψ a E).e ρ fun x _ ρ1=>asD x.er fun c=>if c=true then(pe Ψ b E).e ρ1 Q else Q (.d (.bool false)) false ρ1,
   fun ρ Q=>(pe Ψ a E).t ρ fun c ρ1=>if c=true then(pe Ψ b E).t ρ1 Q else Q false ρ1,nev.a⟩
 | .or a b,E=>⟨fun ρ Q=>(pe Ψ a E).e ρ fun x _ ρ1=>asD x.er fun c=>if c=true then Q (.d (.bool true)) false ρ1 else(pe Ψ b E).e ρ1 Q,
   fun ρ Q=>(pe Ψ a E).t ρ fun c ρ1=>if c=true then Q true ρ1 else(pe Ψ b E).t ρ1 Q,nev.a⟩
 | .not a,E=>⟨fun ρ Q=>(pe Ψ a E).e ρ fun x _ ρ1=>jIi x.er fun c=>Q (.d (.bool (!c))) false ρ1,fun ρ Q=>(pe Ψ a E).t ρ fun c ρ1=>Q (!c) ρ1,nev.a⟩
 | .call f as,E=>let e:PSt->TK->Prop:=fun ρ Q=>∃os,jAg (jAC (Ψ.sp f).md as) ρ=some os/\(jAC (Ψ.sp f).md as).Nodup/\(pe Ψ as E).a (Ψ.sp f).md (clear (jAC (Ψ.sp f).md as) ρ) fun xs ρ1=>∃ts,jAb (Ψ.sp f).md xs os=some ts/\(Ψ.sp f).run ts (fun r os'=>∃ρ2,jBL (jAC (Ψ.sp f).md as) os' ρ1=some ρ2/\Q r true ρ2) E
  ⟨e,fun ρ Q=>e ρ fun t _ ρ1=>jIi t.er fun b=>Q b ρ1,nev.a⟩
 | .isi a c,E=>let t:PSt->(Bool->PSt->Prop)->Prop:=fun ρ Q=>(pe Ψ a E).e ρ fun x _ ρ1=>jWf c x.er fun b=>Q b ρ1
  ⟨fun ρ Q=>t ρ fun k ρ1=>Q (.d (.bool k)) false ρ1,t,nev.a⟩
 | .bi f as,E=>let e:PSt->TK->Prop:=fun ρ Q=>(pe Ψ as E).a [] ρ fun xs ρ1=>biT f (jDK xs) fun z k=>Q z k ρ1
  ⟨e,fun ρ Q=>e ρ fun t _ ρ1=>jIi t.er fun b=>Q b ρ1,nev.a⟩
 | .mt m o as,E=>let e:PSt->TK->Prop:=fun ρ Q=>if isMut m=true then jSg (jOz o) fun j=>jEV ρ[j]? fun t=>jG3 m t=true/\(pe Ψ as E).a [] (ρ.set j (some (.bor t))) fun xs ρ2=>jGI xs=true/\ρ2[j]?=some (some (.bor t))/\jNy m t (jGf xs) fun r s'=>Q r true (ρ2.set j (some (.own s'))) else(pe Ψ o E).e ρ fun x n ρ1=>jRG m (jAU x n).vw=true/\sq (jAU x n) ρ1 ((pe Ψ as E).a []) fun xs ρ2=>mtT m (jAU x n).vw (jDK xs) fun z k=>Q z k ρ2
  ⟨e,fun ρ Q=>e ρ fun t _ ρ1=>jIi t.er fun b=>Q b ρ1,nev.a⟩
 | .idx a b,E=>let e:PSt->TK->Prop:=fun ρ Q=>(pe Ψ a E).e ρ fun x n ρ1=>sq (jAU x n) ρ1 (cu (pe Ψ b E).e) fun y ρ2=>(jM2 (jAU x n).vw (jAU y.1 y.2).vw fun z=>Q z false ρ2)∨(jPW (jAU x n).vw y.1.er fun z=>Q z false ρ2)
  ⟨e,fun ρ Q=>e ρ fun t _ ρ1=>jIi t.er fun b=>Q b ρ1,nev.a⟩
 | .slc a lo hi,E=>⟨fun ρ Q=>(pe Ψ a E).e ρ fun x n ρ1 =>
   sq (α:=Option Int) (jAU x n) ρ1 (if isNop lo=true then fun ρ (R:Option Int->PSt->Prop)=>R none ρ else fun ρ R=>(pe Ψ lo E).e ρ fun l _ ρ2=>jJ6 l.er fun o=>R o ρ2) fun l ρ2 =>
   sq (α:=Option Int) (jAU x n) ρ2 (if isNop hi=true then fun ρ (R:Option Int->PSt->Prop)=>R none ρ else fun ρ R=>(pe Ψ hi E).e ρ fun u _ ρ3=>jJ6 u.er fun o=>R o ρ3) fun u ρ3=>jOt (jAU x n).vw l u fun z k=>Q z k ρ3,nev.t,nev.a⟩
 | .nop,_=>nev
 | .lst as,E=>⟨fun ρ Q=>(pe Ψ as E).a [] ρ fun xs ρ1=>jGI xs=true/\xs.length<=sizeLine/\Q (.lst (jGf xs)) true ρ1,nev.t,nev.a⟩
 | .tup as,E=>⟨fun ρ Q=>(pe Ψ as E).a [] ρ fun xs ρ1=>jGI xs=true/\xs.length<=sizeLine/\Q (jF9 (jGf xs)) true ρ1,nev.t,nev.a⟩
 | .comp mask tgs tg ik its cond elt,E=>⟨fun ρ Q=>(pe Ψ its E).a [] ρ fun xs ρ1=>jBP ik (jDK xs) fun items =>
   jCm (jDB tg (jM5 tgs.length mask (lockA ρ1)) (if isNop cond=true then fun ρ R=>R true ρ else(pe Ψ cond (fun _=>False)).t) (pe Ψ elt (fun _=>False)).e) items [] fun ys=>Q (.lst ys) true ρ1,nev.t,nev.a⟩
 | .dnew b,_=>⟨fun ρ Q=>Q (.dct b [] []) true ρ,nev.t,nev.a⟩
 | .dsp a b,E=>⟨fun ρ Q=>(pe Ψ a E).e ρ fun y m ρ1=>esc y m=true/\(pe Ψ b E).e ρ1 fun x n ρ2=>esc x n=true/\jFH true y.er/\Q (.dct true [y.er] [x]) true ρ2,nev.t,nev.a⟩
 | .lset a,E=>⟨fun ρ Q=>(pe Ψ a E).e ρ fun x n ρ1=>jN1 (jAU x n).vw fun z k=>Q z k ρ1,nev.t,nev.a⟩
 | .sset a,E=>⟨fun ρ Q=>(pe Ψ a E).e ρ fun x n ρ1=>jNI (jAU x n).vw fun z k=>Q z k ρ1,nev.t,nev.a⟩
 | .anil,_=>⟨nev.e,nev.t,fun _ ρ Q=>Q [] ρ⟩
 | .acons a as,E=>⟨nev.e,nev.t,fun md ρ Q=>if(md.headD .fro).isMut=true then jRV a=true/\(pe Ψ as E).a md.tail ρ fun xs ρ1=>Q ((.d .none,true)::xs) ρ1
   else(pe Ψ a E).e ρ fun x n ρ1=>sq (α:=List (T×Bool)) (if n=true then .d .none else x) ρ1 ((pe Ψ as E).a md.tail) fun xs ρ2=>Q ((x,n)::xs) ρ2⟩
structure PEnds where
 nx:PSt->Prop
 rt:T->PSt->Prop
 bk:PSt->Prop:=fun _=>False
 ct:PSt->Prop:=fun _=>False
noncomputable def vrs:PX->List Nat
 | .var i=>[i]
 | .idx a _=>vrs a
 | .and a b | .or a b=>vrs a++vrs b
 | .acons a as=>vrs a++vrs as
 |_=>[]
noncomputable def jLT:Option (Option Sl)->Bool
 |some (some (.own _))=>true
 |some (some (.bor _))=>false
 |some none=>false
 |none=>false
noncomputable def jBZ(ρ:PSt):List Nat->List Nat
 |[]=>[]
 |i::is=>if jLT ρ[i]?=true then i::jBZ ρ is else jBZ ρ is
noncomputable def jBd:List Nat->PSt->PSt->PSt
 |[],_,ρ=>ρ
 |i::L,ρ0,ρ=>jBd L ρ0 (ρ.set i (ρ0[i]?.getD none))
def jKf(J L:List Nat)(ρ0:PSt)(N:PSt->Prop)(ρ:PSt):Prop:=(∀i∈L,i∉J/\ρ[i]?=ρ0[i]?.map jEc)/\N (jBd L ρ0 ρ)
noncomputable def jIF(body:PEnds->PSt->Prop)(tg:Tg)(Z:PEnds):List T->PSt->Prop
 |[],ρ=>Z.nx ρ
 |x::xs,ρ=>jHT tg x ρ fun ρ1=>body { Z with nx:=fun ρ2=>jIF body tg Z xs ρ2,ct:=fun ρ2=>jIF body tg Z xs ρ2,bk:=Z.nx } ρ1
noncomputable def rdR(ρ:PSt)(i:Nat)(R:T->PSt->Prop):Option (Option Sl)->Prop
 |some (some (.own t))=>R t (ρ.set i none)
 |some (some (.bor t))=>t.isD=true/\R t ρ
 |some none=>False
 |none=>False
noncomputable def jK7(Ψ:PEv)(E:XE)(Rt:T->PSt->Prop):PX->PSt->Prop
 | .var i,ρ=>rdR ρ i Rt ρ[i]?
 |e,ρ=>(pe Ψ e E).e ρ fun x n ρ1=>esc x n=true/\Rt x ρ1
noncomputable def stT:T->D->D->(T->Prop)->Prop
 | .lst ts,.int i,x,Q=>∃n,ixN ts.length i=some n/\Q (.lst (ts.set n (.d x)))
 | .dct b ks ts,k,x,Q=>jFH b k/\ks.length<sizeLine/\Q (jM0 b ks ts k (.d x))
 |_,_,_,_=>False
noncomputable def jYO:PX->Option (Nat×Option PX)
 | .var j=>some (j,none)
 | .idx (.var j) k=>some (j,some k)
 |_=>none
def jWD(k:D)(t:T)(Q:T->Prop):Prop:=∃ks ts,t=.dct true ks ts/\jFH true k/\ks.length<sizeLine/\((∃n,jAG ks k=some n/\Q t)∨(jAG ks k=none/\Q (.dct true (ks++[k]) (ts++[.dct true [] []]))))
noncomputable def jVn:T->Bool
 | .dct true _ _=>true
 |_=>false
def jXF(z:D)(t:T)(Q:T->(T->T)->Prop):Prop:=∃b ks ts n s,t=.dct b ks ts/\jFH b z/\jAG ks z=some n/\ts[n]?=some s/\Q s fun s'=>.dct b ks (ts.set n s')
noncomputable def pws(Ψ:PEv)(E:XE):PT->PEnds->PSt->Prop
 | .nil,Z,ρ=>Z.nx ρ
 | .seq s r,Z,ρ=>pws Ψ E s { Z with nx:=fun ρ'=>pws Ψ E r Z ρ' } ρ
 | .set i e,Z,ρ=>(pe Ψ e E).e ρ fun x n ρ1=>esc x n=true/\Z.nx (ρ1.set i (some (.bor (.d x.er))))
 | .expr e,Z,ρ=>(pe Ψ e E).e ρ fun _ _ ρ1=>Z.nx ρ1
 | .ret e,Z,ρ=>jK7 Ψ E Z.rt e ρ
 | .ife c a b,Z,ρ=>(pe Ψ c E).t ρ fun k ρ1=>if k=true then pws Ψ E a Z ρ1 else pws Ψ E b Z ρ1
 | .for_ tg ik its body,Z,ρ=>(pe Ψ its E).a [] ρ fun xs ρ1=>jBP ik (jDK xs) fun items =>
   if jOb xs=true then jIF (pws Ψ E body) tg { Z with nx:=fun ρ2=>Z.nx (kill tg.ix ρ2) } items ρ1
   else jIF (pws Ψ E body) tg { Z with nx:=fun ρ2=>jKf tg.ix (jBZ ρ1 (vrs its)) ρ1 Z.nx (kill tg.ix ρ2) } items (lock (jBZ ρ1 (vrs its)) ρ1)
 | .own i e,Z,ρ=>(pe Ψ e E).e ρ fun x n ρ1=>esc x n=true/\Z.nx (ρ1.set i (some (.own x)))
 | .tset is e,Z,ρ=>(pe Ψ e E).e ρ fun x n ρ1=>esc x n=true/\jHT (.tp is) (.d x.er) ρ1 Z.nx
 | .six o i e,Z,ρ=>match jYO o with
  |none=>False
  |some (j,none)=>jEV ρ[j]? fun t=>(pe Ψ e E).e (ρ.set j (some (.bor t))) fun x n ρ1=>esc x n=true/\(pe Ψ i E).e ρ1 fun y m ρ2=>esc y m=true/\ρ2[j]?=some (some (.bor t))/\stT t y.er x.er fun t'=>Z.nx (ρ2.set j (some (.own t')))
  |some (j,some k)=>jEV ρ[j]? fun t=>(pe Ψ e E).e (ρ.set j (some (.bor t))) fun x n ρ1=>esc x n=true/\(pe Ψ k E).e ρ1 fun z l ρ2=>esc z l=true/\jXF z.er t fun s put=>(pe Ψ i E).e ρ2 fun y m ρ3=>esc y m=true/\ρ3[j]?=some (some (.bor t))/\stT s y.er x.er fun s'=>Z.nx (ρ3.set j (some (.own (put s'))))
 | .sdf j k,Z,ρ=>jEV ρ[j]? fun t=>jVn t=true/\(pe Ψ k E).e (ρ.set j (some (.bor t))) fun y m ρ1=>esc y m=true/\ρ1[j]?=some (some (.bor t))/\jWD y.er t fun t'=>Z.nx (ρ1.set j (some (.own t')))
 | .whl c body,Z,ρ=>∃W:Nat->PSt->Prop,(∃m,W m ρ)/\∀m ρ,W m ρ->(pe Ψ c E).t ρ fun b ρ1=>if b=true then
   pws Ψ E body { Z with nx:=fun ρ'=>∃m',m' < m/\W m' ρ',ct:=fun ρ'=>∃m',m' < m/\W m' ρ',bk:=Z.nx } ρ1 else Z.nx ρ1
 | .frz is s,Z,ρ=>pws Ψ E s Z (frzAt is ρ)
theorem _root_.L2.Same.rd{H H':Hp}(e:Same H H'){a:Addr}{u:HO}(h:Rd H a u):Rd H' a u:=by
 rcases h with h|⟨o,h⟩
 ·exact .inl (e _ _ h)
 ·exact .inr ⟨o,e _ _ h⟩
theorem _root_.L2.Same.tupl{K:QD}{H H':Hp}{a:Addr}{xs:List V}(e:Same H H')(h:SqT K H a xs):SqT K H' a xs:=by
 rcases h with h|h
 ·exact .inl (e.rd h)
 ·exact .inr h
theorem DKo.mono{K:QD}{H H':Hp}(e:Same H H'){b:Bool}{o:HO}{ks:List D}{vs:List V}(h:DKo K H b o ks vs):DKo K H' b o ks vs:=by
 cases b with
 |true=>obtain⟨ep,kvs,h1,h2,h3,h4,h5⟩:=h;exact⟨ep,kvs,h1,h2,h3,fun p hp=>e.tupl (h4 p hp),h5⟩
 |false=>exact h
theorem Rep.mono2{K:QD}{H H':Hp}(e:Same H H'):(∀{v:V}{d:D},Rep K H v d->Rep K H' v d)/\∀{vs:List V}{ds:List D},Reps K H vs ds->Reps K H' vs ds :=
 Rep.both (P:=Rep K H') (R:=Reps K H') .non .bl .int .str (fun h _ r=>.lst (e.seq h) r) (fun h _ r=>.tup (e.tupl h) r) (fun h q _ r=>.dct (e _ _ h) (q.mono e) r) .nil fun _ _ h r=>.cons h r
theorem Rep.mono{K:QD}{H H':Hp}(e:Same H H'){v:V}{d:D}(h:Rep K H v d):Rep K H' v d:=(Rep.mono2 e).1 h
theorem Reps.mono{K:QD}{H H':Hp}(e:Same H H'){vs:List V}{ds:List D}(h:Reps K H vs ds):Reps K H' vs ds:=(Rep.mono2 e).2 h
theorem Reps.append{K:QD}{H:Hp}{vs ws:List V}{ds es:List D}(h:Reps K H vs ds)(r:Reps K H ws es):Reps K H (vs++ws) (ds++es):=Reps.ind (R:=fun vs ds=>Reps K H (vs++ws) (ds++es)) r (fun h t=>.cons h t) h
theorem Reps.drop{K:QD}{H:Hp}:∀{vs:List V}{ds:List D}(n:Nat),Reps K H vs ds->Reps K H (vs.drop n) (ds.drop n)
 |_,_,0,r=>r
 |_,_,_+1,.nil=>.nil
 |_,_,n+1,.cons _ t=>Reps.drop n t
theorem Reps.take{K:QD}{H:Hp}:∀{vs:List V}{ds:List D}(n:Nat),Reps K H vs ds->Reps K H (vs.take n) (ds.take n)
 |_,_,0,_=>.nil
 |_,_,_+1,.nil=>.nil
 |_,_,n+1,.cons h t=>.cons h (Reps.take n t)
theorem Reps.bools{K:QD}{H:Hp}:∀{vs:List V}{bs:List Bool},Reps K H vs (bs.map PyData.bool)->vs=bs.map V.bl
 |_,[],.nil=>rfl
 |_,b::bs,.cons h t=>by
  cases h;rw[QR,Reps.bools t]
theorem jAs{H:Hp}{p:Addr}{o:HO}(h:H p=none):Same H (upd H p o):=fun b u q=>by rw[jAD (jAI q h)];exact q
mutual
inductive Tr(K:QD)(F H:Hp):Bool->V->T->(Addr->Prop)->Prop where
 |d {st:Bool}{v:V}{x:D}{S:AdP}:Rep K F v x->(∀b,¬ S b)->Tr K F H st v (.d x) S
 |lst {st:Bool}{a:Addr}{vs:List V}{ts:List T}{S S':AdP}:H a=some (.lst vs)->F a=none->Trs K F H st vs ts S'->¬ S' a->(∀b,S b↔b=a∨S' b)->Tr K F H st (.ref a) (.lst ts) S
 |tup {st:Bool}{a:Addr}{vs:List V}{ts:List T}{S S':AdP}:H a=some (.tup vs)->F a=none->Trs K F H st vs ts S'->¬ S' a->(∀b,S b↔b=a∨S' b)->Tr K F H st (.ref a) (.tup ts) S
 |lstF {a:Addr}{vs:List V}{ds:List D}{S:AdP}:SqL K F a vs->Reps K F vs ds->(∀b,¬ S b)->Tr K F H false (.ref a) (.lst (ds.map T.d)) S
 |dct {st b:Bool}{a:Addr}{o:HO}{ks:List D}{vs:List V}{ts:List T}{S S':AdP}:H a=some o->DKo K F b o ks vs->F a=none->Trs K F H st vs ts S'->¬ S' a->(∀b,S b↔b=a∨S' b)->Tr K F H st (.ref a) (.dct b ks ts) S
inductive Trs(K:QD)(F H:Hp):Bool->List V->List T->(Addr->Prop)->Prop where
 |nil {st:Bool}{S:AdP}:(∀b,¬ S b)->Trs K F H st [] [] S
 |cons {st:Bool}{v:V}{t:T}{vs:List V}{ts:List T}{S S1 S2:AdP}:Tr K F H st v t S1->Trs K F H st vs ts S2->(∀b,S1 b->¬ S2 b)->(∀b,S b↔S1 b∨S2 b)->Trs K F H st (v::vs) (t::ts) S
end
section
variable{K:QD}{F H F' H':Hp}
theorem Tr.both{P:Bool->V->T->(Addr->Prop)->Prop}{R:Bool->List V->List T->(Addr->Prop)->Prop}
    (d:∀{st:Bool}{v:V}{x:D}{S:AdP},Rep K F v x->(∀b,¬ S b)->P st v (.d x) S)
    (lst:∀{st:Bool}{a:Addr}{vs:List V}{ts:List T}{S S':AdP},H a=some (.lst vs)->F a=none->Trs K F H st vs ts S'->¬ S' a->(∀b,S b↔b=a∨S' b)->R st vs ts S'->P st (.ref a) (.lst ts) S)
    (tup:∀{st:Bool}{a:Addr}{vs:List V}{ts:List T}{S S':AdP},H a=some (.tup vs)->F a=none->Trs K F H st vs ts S'->¬ S' a->(∀b,S b↔b=a∨S' b)->R st vs ts S'->P st (.ref a) (.tup ts) S)
    (lstF:∀{a:Addr}{vs:List V}{ds:List D}{S:AdP},SqL K F a vs->Reps K F vs ds->(∀b,¬ S b)->P false (.ref a) (.lst (ds.map T.d)) S)
    (dct:∀{st b:Bool}{a:Addr}{o:HO}{ks:List D}{vs:List V}{ts:List T}{S S':AdP},H a=some o->DKo K F b o ks vs->F a=none->Trs K F H st vs ts S'->¬ S' a->(∀b,S b↔b=a∨S' b)->R st vs ts S'->P st (.ref a) (.dct b ks ts) S)
    (nil:∀{st:Bool}{S:AdP},(∀b,¬ S b)->R st [] [] S)
    (cons:∀{st:Bool}{v:V}{t:T}{vs:List V}{ts:List T}{S S1 S2:AdP},Tr K F H st v t S1->Trs K F H st vs ts S2->(∀b,S1 b->¬ S2 b)->(∀b,S b↔S1 b∨S2 b)->P st v t S1->R st vs ts S2->R st (v::vs) (t::ts) S) :
    (∀{st:Bool}{v:V}{t:T}{S:AdP},Tr K F H st v t S->P st v t S)/\∀{st:Bool}{vs:List V}{ts:List T}{S:AdP},Trs K F H st vs ts S->R st vs ts S :=
  ⟨fun h=>Tr.rec (motive_1:=fun st v t S _=>P st v t S) (motive_2:=fun st vs ts S _=>R st vs ts S) @d @lst @tup @lstF @dct @nil @cons h,
   fun h=>Trs.rec (motive_1:=fun st v t S _=>P st v t S) (motive_2:=fun st vs ts S _=>R st vs ts S) @d @lst @tup @lstF @dct @nil @cons h⟩
theorem Tr.mono2(e:Same F F'):(∀{st:Bool}{v:V}{t:T}{S:AdP},Tr K F H st v t S->(∀b,S b->H' b=H b/\F' b=none)->Tr K F' H' st v t S)/\∀{st:Bool}{vs:List V}{ts:List T}{S:AdP},Trs K F H st vs ts S->(∀b,S b->H' b=H b/\F' b=none)->Trs K F' H' st vs ts S :=
 Tr.both (P:=fun st v t S=>(∀b,S b->H' b=H b/\F' b=none)->Tr K F' H' st v t S) (R:=fun st v t S=>(∀b,S b->H' b=H b/\F' b=none)->Trs K F' H' st v t S)
  (fun r n _=>.d (r.mono e) n)
  (fun {_ a _ _ _ _} h _ _ n q ih k=>.lst ((k a ((q a).mpr (.inl rfl))).1.trans h) (k a ((q a).mpr (.inl rfl))).2 (ih fun b hb=>k b ((q b).mpr (.inr hb))) n q)
  (fun {_ a _ _ _ _} h _ _ n q ih k=>.tup ((k a ((q a).mpr (.inl rfl))).1.trans h) (k a ((q a).mpr (.inl rfl))).2 (ih fun b hb=>k b ((q b).mpr (.inr hb))) n q)
  (fun h r n _=>.lstF (e.seq h) (r.mono e) n)
  (fun {_ _ a _ _ _ _ _ _} h dk _ _ n q ih k=>.dct ((k a ((q a).mpr (.inl rfl))).1.trans h) (dk.mono e) (k a ((q a).mpr (.inl rfl))).2 (ih fun b hb=>k b ((q b).mpr (.inr hb))) n q)
  (fun n _=>.nil n)
  (fun _ _ n q i1 i2 k=>.cons (i1 fun b hb=>k b ((q b).mpr (.inl hb))) (i2 fun b hb=>k b ((q b).mpr (.inr hb))) n q)
theorem Tr.mono(e:Same F F'){st:Bool}{v:V}{t:T}{S:AdP}(h:Tr K F H st v t S)(k:∀b,S b->H' b=H b/\F' b=none):Tr K F' H' st v t S:=(Tr.mono2 e).1 h k
theorem Trs.mono(e:Same F F'){st:Bool}{vs:List V}{ts:List T}{S:AdP}(h:Trs K F H st vs ts S)(k:∀b,S b->H' b=H b/\F' b=none):Trs K F' H' st vs ts S:=(Tr.mono2 e).2 h k
theorem Tr.weak2:(∀{st:Bool}{v:V}{t:T}{S:AdP},Tr K F H st v t S->Tr K F H false v t S)/\∀{st:Bool}{vs:List V}{ts:List T}{S:AdP},Trs K F H st vs ts S->Trs K F H false vs ts S :=
 Tr.both (P:=fun _ v t S=>Tr K F H false v t S) (R:=fun _ v t S=>Trs K F H false v t S) .d (fun h f _ n q ih=>.lst h f ih n q) (fun h f _ n q ih=>.tup h f ih n q) .lstF (fun h dk f _ n q ih=>.dct h dk f ih n q) .nil fun _ _ n q i1 i2=>.cons i1 i2 n q
theorem Tr.weak{st:Bool}{v:V}{t:T}{S:AdP}(h:Tr K F H st v t S):Tr K F H false v t S:=Tr.weak2.1 h
theorem Trs.weak{st:Bool}{vs:List V}{ts:List T}{S:AdP}(h:Trs K F H st vs ts S):Trs K F H false vs ts S:=Tr.weak2.2 h
theorem jRz{C:AdP}{a:Addr}{S S':AdP}(q:∀b,S b↔b=a∨S' b)(h:C a)(k:∀b,S' b->C b)(b:Addr)(hb:S b):C b:=((q b).mp hb).elim (fun e=>e▸h) (k b)
theorem Tr.dom2:(∀{st:Bool}{v:V}{t:T}{S:AdP},Tr K F H st v t S->∀b,S b->H b≠none/\F b=none)/\∀{st:Bool}{vs:List V}{ts:List T}{S:AdP},Trs K F H st vs ts S->∀b,S b->H b≠none/\F b=none :=
 have nn:∀{a:Addr}{o:HO},H a=some o->H a≠none:=fun h z=>by rw[h]at z;cases z
 Tr.both (P:=fun _ _ _ S=>∀b,S b->H b≠none/\F b=none) (R:=fun _ _ _ S=>∀b,S b->H b≠none/\F b=none)
  (fun _ n b hb=>absurd hb (n b)) (fun h f _ _ q ih=>jRz q ⟨nn h,f⟩ ih) (fun h f _ _ q ih=>jRz q ⟨nn h,f⟩ ih) (fun _ _ n b hb=>absurd hb (n b)) (fun h _ f _ _ q ih=>jRz q ⟨nn h,f⟩ ih)
  (fun n b hb=>absurd hb (n b)) fun _ _ _ q i1 i2 b hb=>((q b).mp hb).elim (i1 b) (i2 b)
theorem Tr.dom{st:Bool}{v:V}{t:T}{S:AdP}(h:Tr K F H st v t S):∀b,S b->H b≠none/\F b=none:=Tr.dom2.1 h
theorem Trs.dom{st:Bool}{vs:List V}{ts:List T}{S:AdP}(h:Trs K F H st vs ts S):∀b,S b->H b≠none/\F b=none:=Tr.dom2.2 h
theorem Tr.kept2(e:Same F F'):(∀{st:Bool}{v:V}{t:T}{S:AdP},Tr K F H st v t S->(∀b u,S b->H b=some u->F' b=some u)->Rep K F' v t.er)/\∀{st:Bool}{vs:List V}{ts:List T}{S:AdP},Trs K F H st vs ts S->(∀b u,S b->H b=some u->F' b=some u)->Reps K F' vs (jC8 ts) :=
 Tr.both (P:=fun _ v t S=>(∀b u,S b->H b=some u->F' b=some u)->Rep K F' v t.er) (R:=fun _ v t S=>(∀b u,S b->H b=some u->F' b=some u)->Reps K F' v (jC8 t))
  (fun r _ _=>r.mono e)
  (fun {_ a _ _ _ _} h _ _ _ q ih k=>by unfold T.er;exact .lst (SqL.of (k a _ ((q a).mpr (.inl rfl)) h)) (ih fun b u hb=>k b u ((q b).mpr (.inr hb))))
  (fun {_ a _ _ _ _} h _ _ _ q ih k=>by unfold T.er;exact .tup (SqT.of (k a _ ((q a).mpr (.inl rfl)) h)) (ih fun b u hb=>k b u ((q b).mpr (.inr hb))))
  (fun h r _ _=>by unfold T.er;rw[jAe];exact .lst (e.seq h) (r.mono e))
  (fun {_ _ a _ _ _ _ _ _} h dk _ _ _ q ih k=>by unfold T.er;exact .dct (k a _ ((q a).mpr (.inl rfl)) h) (dk.mono e) (ih fun b u hb=>k b u ((q b).mpr (.inr hb))))
  (fun _ _=>.nil)
  (fun _ _ _ q i1 i2 k=>.cons (i1 fun b u hb=>k b u ((q b).mpr (.inl hb))) (i2 fun b u hb=>k b u ((q b).mpr (.inr hb))))
theorem Tr.kept(e:Same F F'){st:Bool}{v:V}{t:T}{S:AdP}(h:Tr K F H st v t S)(k:∀b u,S b->H b=some u->F' b=some u):Rep K F' v t.er:=(Tr.kept2 e).1 h k
theorem Tr.rep(f:Same F H){st:Bool}{v:V}{t:T}{S:AdP}(h:Tr K F H st v t S):Rep K H v t.er:=h.kept f fun _ _ _ e=>e
theorem Trs.ind{R:Bool->List V->List T->(Addr->Prop)->Prop}(nil:∀{st:Bool}{S:AdP},(∀b,¬ S b)->R st [] [] S)
  (cons:∀{st:Bool}{v:V}{t:T}{vs:List V}{ts:List T}{S S1 S2:AdP},Tr K F H st v t S1->Trs K F H st vs ts S2->(∀b,S1 b->¬ S2 b)->(∀b,S b↔S1 b∨S2 b)->R st vs ts S2->R st (v::vs) (t::ts) S) {st:Bool}{vs:List V}{ts:List T}{S:AdP}(h:Trs K F H st vs ts S):R st vs ts S :=
 (Tr.both (P:=fun _ _ _ _=>True) (fun _ _=>trivial) (fun _ _ _ _ _ _=>trivial) (fun _ _ _ _ _ _=>trivial) (fun _ _ _=>trivial) (fun _ _ _ _ _ _ _=>trivial) nil fun h t n q _ r=>cons h t n q r).2 h
theorem Trs.length{st:Bool}{vs:List V}{ts:List T}{S:AdP}(h:Trs K F H st vs ts S):vs.length=ts.length:=Trs.ind (R:=fun _ vs ts _=>vs.length=ts.length) (fun _=>rfl) (fun _ _ _ _ e=>congrArg Nat.succ e) h
theorem Trs.of_reps{st:Bool}{vs:List V}{ds:List D}(h:Reps K F vs ds):Trs K F H st vs (ds.map T.d) (fun _=>False) :=
 Reps.ind (R:=fun vs ds=>Trs K F H st vs (ds.map T.d) fun _=>False) (.nil fun _ z=>z) (fun h t=>.cons (.d h fun _ z=>z) t (fun _ z=>z.elim) fun b=>by simp) h
theorem Trs.un{st:Bool}{vs:List V}{ts:List T}{S:AdP}{ds:List D}(h:Trs K F H st vs ts S)(e:unD ts=some ds):Reps K F vs ds/\∀b,¬ S b:=by
 have ed:=jFt e;clear e
 revert ds
 refine Trs.ind (R:=fun _ vs ts S=>∀{ds:List D},ts=ds.map T.d->Reps K F vs ds/\∀b,¬ S b) (fun n ds e=>?_) (fun h _ _ q ih ds e=>?_) h
 ·cases ds with
  |nil=>exact⟨.nil,n⟩
  |cons d r=>cases e
 ·cases ds with
  |nil=>cases e
  |cons d r =>
   injection e with e1 e2
   obtain⟨h1,h2⟩:=ih e2;subst e1;cases h with
   |d rep m=>exact⟨.cons rep h1,fun b hb=>((q b).mp hb).elim (m b) (h2 b)⟩
theorem Trs.get{st:Bool}{vs:List V}{ts:List T}{S:AdP}{i:Nat}{t:T}(h:Trs K F H st vs ts S)(e:ts[i]?=some t):∃v S1,vs[i]?=some v/\Tr K F H st v t S1/\∀b,S1 b->S b:=by
 revert i
 refine Trs.ind (R:=fun st vs ts S=>∀{i:Nat},ts[i]?=some t->∃v S1,vs[i]?=some v/\Tr K F H st v t S1/\∀b,S1 b->S b) (fun n i e=>by cases e) (fun h _ n q ih i e=>?_) h;cases i with
 |zero=>cases e;exact⟨_,_,rfl,h,fun b hb=>(q b).mpr (.inl hb)⟩
 |succ i =>
  obtain⟨v,S1,h1,h2,h3⟩:=ih (i:=i) e;exact⟨v,S1,h1,h2,fun b hb=>(q b).mpr (.inr (h3 b hb))⟩
theorem Trs.at{st:Bool}{vs:List V}{ts:List T}{S:AdP}{i:Int}{t:T}(r:Trs K F H st vs ts S)(h:atI ts i=some t):∃v S1,atI vs i=some v/\Tr K F H st v t S1/\∀b,S1 b->S b:=by
 unfold atI at h ⊢;rw[r.length];cases e:ixN ts.length i with
 |none=>rw[e]at h;cases h
 |some j =>
  rw[e]at h;exact r.get h
theorem Trs.append{st:Bool}{vs ws:List V}{ts us:List T}{S1 S2:AdP}(h:Trs K F H st vs ts S1)(r:Trs K F H st ws us S2)(k:∀b,S1 b->¬ S2 b):Trs K F H st (vs++ws) (ts++us) (fun b=>S1 b∨S2 b) :=
 Trs.ind (R:=fun st vs ts S1=>Trs K F H st ws us S2->(∀b,S1 b->¬ S2 b)->Trs K F H st (vs++ws) (ts++us) fun b=>S1 b∨S2 b)
  (fun {_ S} n r _=>by
   have e:(fun b=>S b∨S2 b)=S2:=funext fun b=>propext ⟨fun z=>z.resolve_left (n b),.inr⟩;rw[e];exact r)
  (fun h _ n q ih r k=>.cons h (ih r fun b hb=>k b ((q b).mpr (.inr hb))) (fun b hb z=>z.elim (n b hb) (k b ((q b).mpr (.inl hb)))) fun b=>by rw[q b,or_assoc]) h r k
theorem Trs.one{st:Bool}{v:V}{t:T}{S:AdP}(h:Tr K F H st v t S):Trs K F H st [v] [t] S:=.cons h (.nil (S:=fun _=>False) fun _ z=>z) (fun _ _ z=>z) fun b=>by simp
theorem jDJ{kvs:List (D×D)}{ts:List T}(e:(T.d (.dict kvs)).vw=.ls ts):False:=by
 have e:jA5 kvs=.ls ts:=e;unfold jA5 at e;cases ek:jCH kvs with
 |none=>rw[ek]at e;cases e
 |some b=>rw[ek]at e;cases e
theorem jFL{kvs:List (D×D)}{ts:List T}(e:(T.d (.dict kvs)).vw=.tp ts):False:=by
 have e:jA5 kvs=.tp ts:=e;unfold jA5 at e;cases ek:jCH kvs with
 |none=>rw[ek]at e;cases e
 |some b=>rw[ek]at e;cases e
theorem Tr.ls{st:Bool}{v:V}{t:T}{S:AdP}{ts:List T}(f:Same F H)(h:Tr K F H st v t S)(e:t.vw=.ls ts):∃a vs S',v=.ref a/\SqL K H a vs/\Trs K F H false vs ts S'/\∀b,S' b->S b:=by
 cases h with
 |d r n =>
  cases r with
  |lst q r=>injection e with e;subst e;exact⟨_,_,_,rfl,f.seq q,Trs.of_reps r,fun b hb=>hb.elim⟩
  |dct _ _ _=>exact(jDJ e).elim
  |_=>cases e
 |lst h _ r n q=>injection e with e;subst e;exact⟨_,_,_,rfl,SqL.of h,r.weak,fun b hb=>(q b).mpr (.inr hb)⟩
 |tup=>cases e
 |dct=>cases e
 |lstF h r n=>injection e with e;subst e;exact⟨_,_,_,rfl,f.seq h,Trs.of_reps r,fun b hb=>hb.elim⟩
theorem Tr.tp{st:Bool}{v:V}{t:T}{S:AdP}{ts:List T}(f:Same F H)(h:Tr K F H st v t S)(e:t.vw=.tp ts):∃a vs S',v=.ref a/\SqT K H a vs/\Trs K F H false vs ts S'/\∀b,S' b->S b:=by
 cases h with
 |d r n =>
  cases r with
  |tup q r=>injection e with e;subst e;exact⟨_,_,_,rfl,f.tupl q,Trs.of_reps r,fun b hb=>hb.elim⟩
  |dct _ _ _=>exact(jFL e).elim
  |_=>cases e
 |tup h _ r n q=>injection e with e;subst e;exact⟨_,_,_,rfl,SqT.of h,r.weak,fun b hb=>(q b).mpr (.inr hb)⟩
 |lst=>cases e
 |lstF=>cases e
 |dct=>cases e
theorem jL7{b b':Bool}{o:HO}{ks ds:List D}{vs:List V}(h:DKo K H b' o ks vs)(e:jCH (ks.zip ds)=some b):b'=b:=by
 cases ks with
 |nil=>cases e
 |cons k ks =>
  cases ds with
  |nil=>cases e
  |cons d ds =>
   cases b' with
   |true =>
    obtain⟨ep,kvs,_,h2,_⟩:=h;cases kvs with
    |nil=>cases h2
    |cons p r =>
     rw[QR]at h2;injection h2 with h2 _
     subst h2;injection e
   |false =>
    rcases h with⟨kvs,_,_,h2,_⟩| ⟨_,_,h2,_⟩
    rotate_left
    ·cases h2
    cases kvs with
    |nil=>cases h2
    |cons p r =>
     rw[QR]at h2;injection h2 with h2 _
     subst h2;obtain⟨k,v⟩:=p;cases k with
     |inl i=>cases e
     |inr z=>injection e
theorem Tr.dc{st:Bool}{v:V}{t:T}{S:AdP}{b:Bool}{ks:List D}{ts:List T}(f:Same F H)(h:Tr K F H st v t S)(e:t.vw=.dc b ks ts):∃a o vs S',v=.ref a/\H a=some o/\DKo K F b o ks vs/\Trs K F H false vs ts S'/\(∀b,S' b->S b)/\∀F' H',Same F F'->Same F' H'->(∀b,S b->H' b=H b)->H' a=some o:=by
 cases h with
 |d r n =>
  cases r with
  |@dct b' a o ks' vs' ds h q r =>
   have hl:ks'.length=ds.length:=by rw[q.len,Reps.length r]
   have e1:(ks'.zip ds).map (fun x=>x.1)=ks':=WM (Wi hl);have e2:(ks'.zip ds).map (fun x=>x.2)=ds:=Wr (Wi hl.symm);have e:jA5 (ks'.zip ds)=.dc b ks ts:=e;unfold jA5 at e;cases ek:jCH (ks'.zip ds) with
   |none=>rw[ek]at e;cases e
   |some b2 =>
    rw[ek]at e;injection e with z1 z2 z3
    subst z1;rw[e1]at z2;subst z2;have e3:ts=ds.map T.d:=by
     have e4:=congrArg (List.map T.d) e2;rw[Qq]at e4;rw[<- z3,<- e4];rfl
    subst e3;cases jL7 q ek;exact⟨_,_,_,_,rfl,f _ _ h,q,Trs.of_reps r,fun b hb=>hb.elim,fun F' H' e1 e2 _=>e2 _ _ (e1 _ _ h)⟩
  |_=>cases e
 |dct h q _ r n s=>injection e with z1 z2 z3;subst z1 z2 z3;exact⟨_,_,_,_,rfl,h,q,r.weak,fun b hb=>(s b).mpr (.inr hb),fun F' H' _ _ k=>(k _ ((s _).mpr (.inl rfl))).trans h⟩
 |lst=>cases e
 |tup=>cases e
 |lstF=>cases e
theorem Tr.sc{st:Bool}{v:V}{t:T}{S:AdP}{x:D}(h:Tr K F H st v t S)(e:t.vw=.sc x):t=.d x/\Rep K F v x:=by
 cases h with
 |@d _ _ y _ r n =>
  cases y with
  |list ds=>cases e
  |tuple ds=>cases e
  |dict ds =>
   have e:jA5 ds=.sc x:=e;unfold jA5 at e;cases ek:jCH ds with
   |none=>rw[ek]at e;injection e with e;subst e;exact⟨rfl,r⟩
   |some b=>rw[ek]at e;cases e
  |_=>injection e with e;subst e;exact⟨rfl,r⟩
 |tup=>cases e
 |lst=>cases e
 |lstF=>cases e
 |dct=>cases e
theorem Tr.int{st:Bool}{v:V}{t:T}{S:AdP}{i:Int}(h:Tr K F H st v t S)(e:t.vw=.sc (.int i)):v=.int i:=by
 obtain⟨_,r⟩:=h.sc e;cases r;rfl
theorem Tr.str{st:Bool}{v:V}{t:T}{S:AdP}{i:Str}(h:Tr K F H st v t S)(e:t.vw=.sc (.str i)):v=.str i:=by
 obtain⟨_,r⟩:=h.sc e;cases r;rfl
end
noncomputable def Sl.t:Sl->T
 | .own t=>t
 | .bor t=>t
noncomputable def Sl.st:Sl->Bool
 | .own _=>true
 | .bor _=>false
noncomputable abbrev Ft:=Nat->Addr->Prop
structure Rl(K:QD)(F H:Hp)(S:Ft)(ρ:PSt)(σ:St):Prop where
 fh:Same F H
 len:ρ.length=σ.length
 sl:∀(i:Nat) s,ρ[i]?=some (some s)->∃v,σ[i]?=some (some v)/\Tr K F H s.st v s.t (S i)
 dj:∀(i j:Nat) t s,i≠j->ρ[i]?=some (some (.own t))->ρ[j]?=some (some s)->∀b,S i b->¬ S j b
def U(ρ:PSt)(S:Ft)(b:Addr):Prop:=∃(i:Nat) (t:T),ρ[i]?=some (some (.own t))/\S i b
structure Stp(F H:Hp)(S:Ft)(ρ:PSt)(F' H':Hp)(S':Ft)(ρ':PSt):Prop where
 ff:Same F F'
 hh:∀b u,H b=some u->¬ U ρ S b->H' b=some u
 dm:∀b,H' b=none->H b=none
 fn:∀b,F b=none->F' b≠none->U ρ S b∨H b=none
 uu:∀b,U ρ' S' b->U ρ S b∨H b=none
 bo:∀(j:Nat) t,ρ'[j]?=some (some (.bor t))->t.isD=false->ρ[j]?=some (some (.bor t))/\S' j=S j
structure Ste(F H:Hp)(S:Ft)(ρ:PSt)(F' H':Hp)(S':Ft)(ρ':PSt):Prop extends Stp F H S ρ F' H' S' ρ' where
 ow:∀(j:Nat) t,ρ'[j]?=some (some (.own t))->∃t0,ρ[j]?=some (some (.own t0))
section
variable{K:QD}{F H F1 H1 F2 H2:Hp}{S S1 S2:Ft}{ρ ρ1 ρ2:PSt}{σ:St}
theorem Stp.refl:Stp F H S ρ F H S ρ:=⟨.refl _,fun _ _ h _=>h,fun _ h=>h,fun b h z=>absurd h z,fun _ h=>.inl h,fun _ _ h _=>⟨h,rfl⟩⟩
theorem Ste.refl:Ste F H S ρ F H S ρ:=⟨Stp.refl,fun _ t h=>⟨t,h⟩⟩
theorem Stp.trans(a:Stp F H S ρ F1 H1 S1 ρ1)(b:Stp F1 H1 S1 ρ1 F2 H2 S2 ρ2):Stp F H S ρ F2 H2 S2 ρ2 where
 ff:=a.ff.trans b.ff
 hh:=fun x u h n=>b.hh x u (a.hh x u h n) fun z=>by
  rcases a.uu x z with q|q
  ·exact n q
  ·rw[q]at h;cases h
 dm:=fun x h=>a.dm x (b.dm x h)
 fn:=fun x h z=>by
  by_cases q:F1 x=none
  ·rcases b.fn x q z with w|w
   ·exact a.uu x w
   ·exact .inr (a.dm x w)
  ·exact a.fn x h q
 uu:=fun x h=>by
  rcases b.uu x h with w|w
  ·exact a.uu x w
  ·exact .inr (a.dm x w)
 bo:=fun j t h n=>by
  obtain⟨h1,h2⟩:=b.bo j t h n;obtain⟨h3,h4⟩:=a.bo j t h1 n;exact⟨h3,h2.trans h4⟩
theorem Ste.trans(a:Ste F H S ρ F1 H1 S1 ρ1)(b:Ste F1 H1 S1 ρ1 F2 H2 S2 ρ2):Ste F H S ρ F2 H2 S2 ρ2:=⟨a.toStp.trans b.toStp,fun j t h=>by
 obtain⟨t1,h1⟩:=b.ow j t h;exact a.ow j t1 h1⟩
theorem Stp.keep(s:Stp F H S ρ F1 H1 S1 ρ1){st:Bool}{v:V}{t:T}{Z:AdP}(h:Tr K F H st v t Z)(n:∀b,Z b->¬ U ρ S b):Tr K F1 H1 st v t Z :=
 h.mono s.ff fun b hb=>by
  obtain⟨h1,h2⟩:=h.dom b hb;refine⟨?_,?_⟩
  ·cases e:H b with
   |none=>exact absurd e h1
   |some u=>exact s.hh b u e (n b hb)
  ·by_cases q:F1 b=none
   ·exact q
   ·rcases s.fn b h2 q with z|z
    ·exact absurd z (n b hb)
    ·exact absurd z h1
theorem Rl.dom(I:Rl K F H S ρ σ){i:Nat}{s:Sl}(h:ρ[i]?=some (some s)){b:Addr}(hb:S i b):H b≠none/\F b=none:=by
 obtain⟨v,_,r⟩:=I.sl i s h;exact r.dom b hb
theorem Rl.isD(I:Rl K F H S ρ σ){i:Nat}{s:Sl}(h:ρ[i]?=some (some s))(hd:s.t.isD=true){b:Addr}:¬ S i b:=by
 obtain⟨v,_,r⟩:=I.sl i s h;generalize s.t=t at r hd;generalize s.st=st at r;cases r with
 |d r n=>exact n b
 |_=>cases hd
structure Held(F H:Hp)(S:Ft)(ρ:PSt)(Z:AdP):Prop where
 dom:∀b,Z b->H b≠none/\F b=none
 nw:∀(i:Nat) s,ρ[i]?=some (some s)->∀b,Z b->¬ S i b
theorem Held.nu{Z:AdP}(h:Held F H S ρ Z):∀b,Z b->¬ U ρ S b:=fun b hb ⟨i,t,h1,h2⟩=>h.nw i _ h1 b hb h2
theorem Held.step{Z:AdP}(h:Held F H S ρ Z)(s:Stp F H S ρ F1 H1 S1 ρ1)(I1:Rl K F1 H1 S1 ρ1 σ):Held F1 H1 S1 ρ1 Z where
 dom:=fun b hb=>by
  obtain⟨h1,h2⟩:=h.dom b hb;refine⟨fun z=>h1 (s.dm b z),?_⟩;by_cases q:F1 b=none
  ·exact q
  ·rcases s.fn b h2 q with z|z
   ·exact absurd z (h.nu b hb)
   ·exact absurd z h1
 nw:=fun i sl e b hb z=>by
  cases sl with
  |own t =>
   rcases s.uu b ⟨i,t,e,z⟩ with q|q
   ·exact h.nu b hb q
   ·exact(h.dom b hb).1 q
  |bor t =>
   cases hd:t.isD with
   |true=>exact I1.isD e hd z
   |false =>
    obtain⟨e1,e2⟩:=s.bo i t e hd;rw[e2]at z;exact h.nw i _ e1 b hb z
theorem Held.none:Held F H S ρ fun _=>False:=⟨fun _ z=>z.elim,fun _ _ _ _ z=>z.elim⟩
theorem Held.or{Z Y:AdP}(a:Held F H S ρ Z)(b:Held F H S ρ Y):Held F H S ρ fun x=>Z x∨Y x:=⟨fun x h=>h.elim (a.dom x) (b.dom x),fun i s e x h=>h.elim (a.nw i s e x) (b.nw i s e x)⟩
noncomputable def jJS(F H:Hp)(W:AdP):Hp:=open Classical in fun b=>if W b then H b else F b
theorem jEi{W:AdP}{b:Addr}(h:W b):jJS F H W b=H b:=if_pos h
theorem jBK{W:AdP}{b:Addr}(h:¬ W b):jJS F H W b=F b:=if_neg h
theorem jDa{W:AdP}(h:∀b,W b->F b=none):Same F (jJS F H W):=fun b u e=>by
 rw[jBK fun z=>by rw[h b z]at e;cases e];exact e
theorem jRf{W:AdP}(f:Same F H):Same (jJS F H W) H:=fun b u e=>by
 by_cases hb:W b
 ·rw[jEi hb]at e;exact e
 ·rw[jBK hb]at e;exact f b u e
theorem Rl.frz(I:Rl K F H S ρ σ){W:AdP}(hw:Held F H S ρ W):Rl K (jJS F H W) H S ρ σ where
 fh:=jRf I.fh
 len:=I.len
 sl:=fun i s e=>by
  obtain⟨v,h1,h2⟩:=I.sl i s e;refine⟨v,h1,h2.mono (jDa fun b hb=>(hw.dom b hb).2) fun b hb=>⟨rfl,?_⟩⟩;rw[jBK fun z=>hw.nw i s e b z hb];exact(h2.dom b hb).2
 dj:=I.dj
theorem Stp.frz(s:Stp F H S ρ F1 H1 S1 ρ1){W:AdP}(hw:∀b,W b->F1 b=none)(fr:∀b,W b->H b=none∨U ρ S b):Stp F H S ρ (jJS F1 H1 W) H1 S1 ρ1 :=
 ⟨s.ff.trans (jDa hw),s.hh,s.dm,fun b h z=>by
  by_cases q:W b
  ·exact(fr b q).symm
  ·rw[jBK q]at z;exact s.fn b h z,s.uu,s.bo⟩
theorem Ste.frz(s:Ste F H S ρ F1 H1 S1 ρ1){W:AdP}(hw:∀b,W b->F1 b=none)(fr:∀b,W b->H b=none∨U ρ S b):Ste F H S ρ (jJS F1 H1 W) H1 S1 ρ1:=⟨s.toStp.frz hw fr,s.ow⟩
theorem Stp.new(s:Stp F H S ρ F1 H1 S1 ρ1){p:Addr}(h:H1 p=none)(o:HO):Stp F H S ρ F1 (upd H1 p o) S1 ρ1 :=
 ⟨s.ff,fun b u e n=>jAs h b u (s.hh b u e n),fun b e=>by
  by_cases hb:b=p
  ·rw[hb,jAM]at e;cases e
  ·rw[jAD hb]at e;exact s.dm b e,s.fn,s.uu,s.bo⟩
theorem Ste.new(s:Ste F H S ρ F1 H1 S1 ρ1){p:Addr}(h:H1 p=none)(o:HO):Ste F H S ρ F1 (upd H1 p o) S1 ρ1:=⟨s.toStp.new h o,s.ow⟩
theorem Rl.same(I:Rl K F H S ρ σ)(h:Same H H1):Rl K F H1 S ρ σ where
 fh:=I.fh.trans h
 len:=I.len
 sl:=fun i s e=>by
  obtain⟨v,h1,h2⟩:=I.sl i s e;refine⟨v,h1,h2.mono (.refl _) fun b hb=>⟨?_,(h2.dom b hb).2⟩⟩;cases e:H b with
  |none=>exact absurd e (h2.dom b hb).1
  |some u=>exact h b u e
 dj:=I.dj
theorem Rl.new(I:Rl K F H S ρ σ){p:Addr}(h:H p=none)(o:HO):Rl K F (upd H p o) S ρ σ:=I.same (jAs h)
theorem Stp.newT(s:Stp F H S ρ F1 H1 S1 ρ1){p:Addr}(h:H1 p=none)(hf:F1 p=none)(o:HO):Stp F H S ρ (upd F1 p o) (upd H1 p o) S1 ρ1 :=
 let s':=s.new h o
 ⟨s.ff.trans (jAs hf),s'.hh,s'.dm,fun b e z=>by
  by_cases hb:b=p
  ·rw[hb];exact .inr (s.dm p h)
  ·rw[jAD hb]at z;exact s.fn b e z,s.uu,s.bo⟩
theorem Ste.newT(s:Ste F H S ρ F1 H1 S1 ρ1){p:Addr}(h:H1 p=none)(hf:F1 p=none)(o:HO):Ste F H S ρ (upd F1 p o) (upd H1 p o) S1 ρ1:=⟨s.toStp.newT h hf o,s.ow⟩
theorem Rl.newT(I:Rl K F H S ρ σ){p:Addr}(h:H p=none)(o:HO):Rl K (upd F p o) (upd H p o) S ρ σ where
 fh:=fun b u e=>by
  by_cases hb:b=p
  ·rw[hb,jAM]at e ⊢;exact e
  ·rw[jAD hb]at e ⊢;exact I.fh b u e
 len:=I.len
 sl:=fun i s e=>by
  obtain⟨v,h1,h2⟩:=I.sl i s e;refine⟨v,h1,h2.mono (jAs (I.fh.free h)) fun b hb=>?_⟩;have hn:b≠p:=fun z=>(h2.dom b hb).1 (by rw[z];exact h);rw[jAD hn,jAD hn];exact⟨rfl,(h2.dom b hb).2⟩
 dj:=I.dj
theorem jL2(ρ:PSt)(i:Nat):(lockA ρ)[i]?=ρ[i]?.map jEc:=by unfold lockA;rw[QY]
theorem jAj{ρ:PSt}{i:Nat}{s:Sl}(h:(lockA ρ)[i]?=some (some s)):∃s0,ρ[i]?=some (some s0)/\s=.bor s0.t:=by
 rw[jL2]at h;cases e:ρ[i]? with
 |none=>rw[e]at h;cases h
 |some o =>
  rw[e]at h;cases o with
  |none=>cases h
  |some s0 =>
   cases s0 with
   |own t=>injection h with h;injection h with h;subst h;exact⟨_,rfl,rfl⟩
   |bor t=>injection h with h;injection h with h;subst h;exact⟨_,rfl,rfl⟩
theorem jB0(b:Addr):¬ U (lockA ρ) S b:=fun⟨i,t,h,_⟩=>by
 obtain⟨s0,_,e⟩:=jAj h;cases e
theorem Rl.lockA(I:Rl K F H S ρ σ):Rl K F H S (lockA ρ) σ where
 fh:=I.fh
 len:=by unfold L3.lockA;rw[QG];exact I.len
 sl:=fun i s e=>by
  obtain⟨s0,h,rfl⟩:=jAj e;obtain⟨v,h1,h2⟩:=I.sl i s0 h;exact⟨v,h1,h2.weak⟩
 dj:=fun i j t s _ h=>by
  obtain⟨s0,_,e⟩:=jAj h;cases e
theorem Stp.unlockA(s:Stp F H S (L3.lockA ρ) F1 H1 S1 ρ1):Stp F H S ρ F1 H1 S ρ :=
 ⟨s.ff,fun b u e _=>s.hh b u e (jB0 b),s.dm,fun b h z=>(s.fn b h z).elim (fun q=>absurd q (jB0 b)) .inr,fun _ h=>.inl h,fun _ _ h _=>⟨h,rfl⟩⟩
theorem Rl.unlockA(I:Rl K F H S ρ σ)(s:Stp F H S (L3.lockA ρ) F1 H1 S1 ρ1)(f:Same F1 H1):Rl K F1 H1 S ρ σ where
 fh:=f
 len:=I.len
 sl:=fun i sl e=>by
  obtain⟨v,h1,h2⟩:=I.sl i sl e;exact⟨v,h1,s.keep h2 fun b _=>jB0 b⟩
 dj:=I.dj
structure VR(K:QD)(vs:List Nat)(H0:Hp)(S0:Ft)(ρ0:PSt)(F H:Hp)(S:Ft)(ρ:PSt)(v:V)(t:T)(n:Bool)(Z:AdP):Prop where
 tr:Tr K F H n v t Z
 fr:n=true->∀b,Z b->H0 b=none∨U ρ0 S0 b
 tm:n=false->∀b,Z b->∃(i:Nat) (s:Sl),i∈vs/\ρ[i]?=some (some s)/\S i b
 nw:n=true->∀(i:Nat) s,ρ[i]?=some (some s)->∀b,Z b->¬ S i b
theorem VR.d{vs:List Nat}{H0:Hp}{S0:Ft}{ρ0:PSt}{v:V}{x:D}(n:Bool)(r:Rep K F v x):VR K vs H0 S0 ρ0 F H S ρ v (.d x) n (fun _=>False) :=
 ⟨.d r fun _ z=>z,fun _ _ z=>z.elim,fun _ _ z=>z.elim,fun _ _ _ _ _ z=>z.elim⟩
theorem VR.held{vs:List Nat}{H0:Hp}{S0:Ft}{ρ0:PSt}{v:V}{t:T}{Z:AdP}(h:VR K vs H0 S0 ρ0 F H S ρ v t true Z):Held F H S ρ Z:=⟨fun b hb=>h.tr.dom b hb,h.nw rfl⟩
theorem VR.vars{vs ws:List Nat}{H0:Hp}{S0:Ft}{ρ0:PSt}{v:V}{t:T}{n:Bool}{Z:AdP}(h:VR K vs H0 S0 ρ0 F H S ρ v t n Z)(k:∀i∈vs,i∈ws):VR K ws H0 S0 ρ0 F H S ρ v t n Z :=
 ⟨h.tr,h.fr,fun e b hb=>let⟨i,s,h1,h2⟩:=h.tm e b hb;⟨i,s,k i h1,h2⟩,h.nw⟩
theorem VR.from{vs:List Nat}{v:V}{t:T}{n:Bool}{Z:AdP}(s:Stp F H S ρ F1 H1 S1 ρ1)(h:VR K vs H1 S1 ρ1 F2 H2 S2 ρ2 v t n Z):VR K vs H S ρ F2 H2 S2 ρ2 v t n Z :=
 ⟨h.tr,fun e b hb=>by
  rcases h.fr e b hb with q|q
  ·exact .inl (s.dm b q)
  ·exact(s.uu b q).symm,h.tm,h.nw⟩
theorem VR.frz{vs:List Nat}{v:V}{t:T}{n:Bool}{Z:AdP}(s:Ste F H S ρ F1 H1 S1 ρ1)(I:Rl K F1 H1 S1 ρ1 σ)(h:VR K vs H S ρ F1 H1 S1 ρ1 v t n Z) :
  ∃F2 Z2,Ste F H S ρ F2 H1 S1 ρ1/\Rl K F2 H1 S1 ρ1 σ/\Tr K F2 H1 false v (jAU t n) Z2/\(esc t n=true->Rep K F2 v t.er)/\(∀b,Z2 b->∃(i:Nat) (s:Sl),i∈vs/\ρ1[i]?=some (some s)/\S1 i b) /\
   ∀st v' t' Z',Tr K F1 H1 st v' t' Z'->(∀b,Z' b->∃(i:Nat) (s:Sl),ρ1[i]?=some (some s)/\S1 i b)->Tr K F2 H1 st v' t' Z':=by
 cases n with
 |true =>
  have hw:=h.held;have ff:=jDa (H:=H1) fun b hb=>(hw.dom b hb).2;have kp:=h.tr.kept ff fun b u hb e=>by rw[jEi hb];exact e
  refine⟨jJS F1 H1 Z,fun _=>False,s.frz (fun b hb=>(hw.dom b hb).2) (h.fr rfl),I.frz hw,.d kp fun _ z=>z,fun _=>kp,fun b z=>z.elim,fun st v' t' Z' r hz=>r.mono ff fun b hb=>⟨rfl,?_⟩⟩;obtain⟨i,sl,h1,h2⟩:=hz b hb;rw[jBK fun z=>hw.nw i sl h1 b z h2];exact(r.dom b hb).2
 |false =>
  refine⟨F1,Z,s,I,h.tr,?_,h.tm rfl,fun _ _ _ _ r _=>r⟩;intro e;have tr:=h.tr;cases t with
  |d x=>cases tr with|d r n=>exact r
  |_=>cases e
end
noncomputable abbrev jBT(K:QD)(vs:List Nat)(F H:Hp)(S:Ft)(ρ:PSt)(σ:St)(Q:TK)(R:VK):Prop :=
 ∀v F' H' S' ρ' t n Z,Ste F H S ρ F' H' S' ρ'->Rl K F' H' S' ρ' σ->VR K vs H S ρ F' H' S' ρ' v t n Z->Q t n ρ'->R v H'
noncomputable abbrev jFJ(K:QD)(F H:Hp)(S:Ft)(ρ:PSt)(σ:St)(Q:Bool->PSt->Prop)(R:Bool->Hp->Prop):Prop :=
 ∀b F' H' S' ρ',Ste F H S ρ F' H' S' ρ'->Rl K F' H' S' ρ' σ->Q b ρ'->R b H'
section
variable{K:QD}{ws:List Nat}{F H F1 H1:Hp}{S S1:Ft}{ρ ρ1:PSt}{σ:St}{v w:V}{a b:T}{Za Zb:AdP}{Q:TK}{R:VK}{sa sb:Bool}
theorem jBT.from{F2 H2:Hp}{S2:Ft}{ρ2:PSt}(k:jBT K ws F H S ρ σ Q R)(s:Ste F H S ρ F2 H2 S2 ρ2):jBT K ws F2 H2 S2 ρ2 σ Q R:=fun v F' H' S' ρ' t n Z s' I' r q=>k v F' H' S' ρ' t n Z (s.trans s') I' (r.from s.toStp) q
theorem jFJ.from{F2 H2:Hp}{S2:Ft}{ρ2:PSt}{Q:Bool->PSt->Prop}{R:Bool->Hp->Prop}(k:jFJ K F H S ρ σ Q R)(s:Ste F H S ρ F2 H2 S2 ρ2):jFJ K F2 H2 S2 ρ2 σ Q R:=fun b F' H' S' ρ' s' I' q=>k b F' H' S' ρ' (s.trans s') I' q
theorem jBT.vars{us:List Nat}(k:jBT K ws F H S ρ σ Q R)(h:∀i∈us,i∈ws):jBT K us F H S ρ σ Q R:=fun v F' H' S' ρ' t n Z s I r q=>k v F' H' S' ρ' t n Z s I (r.vars h) q
theorem jBT.d(k:jBT K ws F H S ρ σ Q R)(s:Ste F H S ρ F1 H1 S1 ρ1)(I:Rl K F1 H1 S1 ρ1 σ){x:D}{n:Bool}(r:Rep K F1 v x)(q:Q (.d x) n ρ1):R v H1:=k v F1 H1 S1 ρ1 _ n _ s I (VR.d n r) q
theorem jBT.list(k:jBT K ws F H S ρ σ Q R)(s:Ste F H S ρ F1 H1 S1 ρ1)(I:Rl K F1 H1 S1 ρ1 σ){p:Addr}(hp:H1 p=none){vs:List V}{ts:List T}{W:AdP}(r:Trs K F1 H1 true vs ts W)
  (fr:∀b,W b->H b=none∨U ρ S b) (hw:Held F1 H1 S1 ρ1 W) (q:Q (.lst ts) true ρ1):R (.ref p) (upd H1 p (.lst vs)):=by
 have np:∀b,H1 b≠none->b≠p:=fun b h z=>h (by rw[z];exact hp);refine k _ F1 _ S1 ρ1 _ true (fun b=>b=p∨W b) (s.new hp _) (I.new hp _) ⟨.lst jAM (I.fh.free hp) (r.mono (.refl _) fun b hb=>⟨?_,(hw.dom b hb).2⟩) (fun z=>(hw.dom p z).1 hp) (fun b=>WY),fun _ b hb=>?_,fun z=>(by cases z),fun _ i sl e b hb z=>?_⟩ q
 ·rw[jAD (np b (hw.dom b hb).1)]
 ·rcases hb with rfl|hb
  ·exact .inl (s.dm _ hp)
  ·exact fr b hb
 ·rcases hb with rfl|hb
  ·exact(I.dom e z).1 hp
  ·exact hw.nw i sl e b hb z
theorem jBT.listD(k:jBT K ws F H S ρ σ Q R)(s:Ste F H S ρ F1 H1 S1 ρ1)(I:Rl K F1 H1 S1 ρ1 σ){p:Addr}(hp:H1 p=none){vs:List V}{ds:List D}(r:Reps K F1 vs ds)(q:Q (.lst (ds.map T.d)) true ρ1):R (.ref p) (upd H1 p (.lst vs)) :=
 k.list s I hp (Trs.of_reps r) (fun b z=>z.elim) .none q
theorem jBT.tupD(k:jBT K ws F H S ρ σ Q R)(s:Ste F H S ρ F1 H1 S1 ρ1)(I:Rl K F1 H1 S1 ρ1 σ){p:Addr}(hp:H1 p=none){vs:List V}{ds:List D}{n:Bool}(r:Reps K F1 vs ds)(q:Q (.d (.tuple ds)) n ρ1):R (.ref p) (upd H1 p (.tup vs)) :=
 jBT.d k (s.newT hp (I.fh.free hp) _) (I.newT hp _) (.tup (SqT.of jAM) (r.mono (jAs (I.fh.free hp)))) q
theorem jBT.tup(k:jBT K ws F H S ρ σ Q R)(s:Ste F H S ρ F1 H1 S1 ρ1)(I:Rl K F1 H1 S1 ρ1 σ){p:Addr}(hp:H1 p=none){vs:List V}{ts:List T}{W:AdP}(r:Trs K F1 H1 true vs ts W)
  (fr:∀b,W b->H b=none∨U ρ S b) (hw:Held F1 H1 S1 ρ1 W) (q:Q (jF9 ts) true ρ1):R (.ref p) (upd H1 p (.tup vs)):=by
 unfold jF9 at q;cases e:unD ts with
 |some ds =>
  rw[e]at q;exact k.tupD s I hp (r.un e).1 q
 |none =>
  rw[e]at q;have np:∀b,H1 b≠none->b≠p:=fun b h z=>h (by rw[z];exact hp);refine k _ F1 _ S1 ρ1 _ true (fun b=>b=p∨W b) (s.new hp _) (I.new hp _) ⟨.tup jAM (I.fh.free hp) (r.mono (.refl _) fun b hb=>⟨?_,(hw.dom b hb).2⟩) (fun z=>(hw.dom p z).1 hp) (fun b=>WY),fun _ b hb=>?_,fun z=>(by cases z),fun _ i sl e b hb z=>?_⟩ q
  ·rw[jAD (np b (hw.dom b hb).1)]
  ·rcases hb with rfl|hb
   ·exact .inl (s.dm _ hp)
   ·exact fr b hb
  ·rcases hb with rfl|hb
   ·exact(I.dom e z).1 hp
   ·exact hw.nw i sl e b hb z
theorem jUf{op:Operator}(s:Ste F H S ρ F1 H1 S1 ρ1)(I:Rl K F1 H1 S1 ρ1 σ)(ra:Tr K F1 H1 sa v a Za)(rb:Tr K F1 H1 sb w b Zb)(h:binT op a.vw b.vw fun z n=>Q z n ρ1)(k:jBT K ws F H S ρ σ Q R):jVp K op v w H1 R:=by
 have ii:∀{i j:Int},a.vw=.sc (.int i)->b.vw=.sc (.int j)->v=.int i/\w=.int j:=fun ea eb=>⟨ra.int ea,rb.int eb⟩
 cases op with
 |Add =>
  rcases h with⟨i,j,ea,eb,h⟩| ⟨x,y,ea,eb,h⟩| ⟨xs0,ys0,ds,es,ea,eb,e1,e2,hl,q⟩| ⟨xs0,ys0,ds,es,ea,eb,e1,e2,hn,hn2,hl,q⟩
  ·obtain⟨rfl,rfl⟩:=ii ea eb
   exact k.d s I (.int _) h
  ·obtain rfl:=ra.str ea
   obtain rfl:=rb.str eb;exact⟨h.1,k.d s I (.str _) h.2⟩
  ·obtain⟨p,xs,_,rfl,hp,rp,_⟩:=ra.ls I.fh ea
   obtain⟨p2,ys,_,rfl,hq,rq,_⟩:=rb.ls I.fh eb;have r1:=(rp.un e1).1;have r2:=(rq.un e2).1;exact .inl ⟨xs,ys,hp,hq,by rw[r1.length,r2.length];exact hl,fun l hl=>k.listD s I hl (r1.append r2) q⟩
  ·obtain⟨p,xs,_,rfl,hp,rp,_⟩:=ra.tp I.fh ea
   obtain⟨p2,ys,_,rfl,hq,rq,_⟩:=rb.tp I.fh eb;have r1:=(rp.un e1).1;have r2:=(rq.un e2).1;refine .inr ⟨p,p2,xs,ys,rfl,rfl,hp,hq,?_,by rw[r1.length,r2.length];exact hl,fun z=>?_,fun _ l hl=>?_⟩
   ·intro z
    subst z;cases r1;exact hn rfl
   ·subst z
    cases r2;exact absurd rfl hn2
   ·exact k.tupD s I hl (r1.append r2) q
 |Sub =>
  obtain⟨i,j,ea,eb,h⟩:=h;obtain⟨rfl,rfl⟩:=ii ea eb;exact k.d s I (.int _) h
 |Mult =>
  rcases h with⟨i,j,ea,eb,h⟩| ⟨x,y,ea,eb,h⟩
  ·obtain⟨rfl,rfl⟩:=ii ea eb
   exact⟨h.1,k.d s I (.int _) h.2⟩
  ·obtain rfl:=ra.str ea
   obtain rfl:=rb.int eb;exact⟨h.1,k.d s I (.str _) h.2⟩
 |FloorDiv =>
  obtain⟨i,j,ea,eb,h⟩:=h;obtain⟨rfl,rfl⟩:=ii ea eb;exact⟨h.1,k.d s I (.int _) h.2⟩
 |Mod =>
  obtain⟨i,j,ea,eb,h⟩:=h;obtain⟨rfl,rfl⟩:=ii ea eb;exact⟨h.1,k.d s I (.int _) h.2⟩
 |_=>exact h.elim
theorem jT7{x y:D}{QB:Bool->Prop}(neg:Bool)(ra:Rep K H1 v x)(rb:Rep K H1 w y)(h:eqD x y fun k=>QB (if neg then !k else k))(k:∀c,QB c->R (.bl c) H1):rEq K neg v w H1 R:=by
 have gen:okD x/\okD y/\QB (if neg then !PyData.eqv x y else Q5 x y)->(∃dx dy,Rep K H1 v dx/\Rep K H1 w dy/\okD dx/\okD dy/\R (.bl (if neg then !PyData.eqv dx dy else Q5 dx dy)) H1):=fun⟨o1,o2,q⟩ =>
  ⟨x,y,ra,rb,o1,o2,k _ q⟩
 unfold eqD at h;split at h
 ·cases ra;cases rb
  exact k _ h
 ·cases ra;cases rb
  exact k _ h
 ·cases ra;cases rb
  exact k _ h
 ·have g:=gen h
  rename_i n1 n2 n3;cases ra with
  |int i =>
   cases rb with
   |int j=>exact absurd rfl (n1 i j rfl)
   |_=>exact g
  |str i =>
   cases rb with
   |str j=>exact absurd rfl (n2 i j rfl)
   |_=>exact g
  |bl i =>
   cases rb with
   |bl j=>exact absurd rfl (n3 i j rfl)
   |_=>exact g
  |_=>exact g
theorem jOJ{F:Hp}{v w:V}{a b:D}(ra:Rep K F v a)(rb:Rep K F w b)(fa:jBo a=true)(fb:jBo b=true):eqV v w=Q5 a b:=by
 cases ra<;>cases rb<;>first|exact absurd (show false=true from fa) QC|exact absurd (show false=true from fb) QC | (simp only[Q5];rfl) | (simp only[Q5])
theorem jMU{F:Hp}{v:V}{a:D}(ra:Rep K F v a)(fa:jBo a=true):jEj v=true:=by
 cases ra<;>first|rfl|exact absurd (show false=true from fa) QC
theorem jJT{F:Hp}{vs:List V}{ds:List D}(h:Reps K F vs ds)(f:ds.all jBo=true):vs.all jEj=true :=
 Reps.ind (R:=fun vs ds=>ds.all jBo=true->vs.all jEj=true) (fun _=>rfl) (fun h ih f=>by
  rw[qf,Qb]at f ⊢;exact⟨jMU h f.1,ih f.2⟩) h f
theorem jGF{F:Hp}{v:V}{a:D}(ra:Rep K F v a)(fa:jBo a=true):∀{vs:List V}{ds:List D},Reps K F vs ds->ds.all jBo=true->inV v vs=ds.any fun y=>Q5 y a
 |_,_,.nil,_=>rfl
 |_,_,.cons h t,f=>by
  rw[qf,Qb]at f;have e:=jGF ra fa t f.2;unfold inV at e ⊢;rw[WC,WC,jOJ h ra f.1 fa,e]
theorem jCw{xs:List V}{k:List Key}(h:Reps K F xs (k.map kD)):xs=k.map kV:=by
 induction k generalizing xs with
 |nil=>cases h;rfl
 |cons i k ih =>
  cases h with
  |cons h t =>
   rw[QR,ih t];cases i<;>(cases h;rfl)
theorem jCs(q:List Key):∀(kvs:List KE),jHi kvs q=(jAG (kvs.map fun p=>tD p.1) (tD q)).bind fun n=>(kvs.map (·.2.2))[n]?
 |[]=>rfl
 |p::r=>by
  rw[QR,QR];unfold jAG;by_cases e:p.1=q
  ·rw[jIg e,if_pos (by rw[e])];rfl
  ·rw[jIh e,if_neg fun z=>e (jOm z),jCs q r]
   cases jAG (r.map fun p=>tD p.1) (tD q)<;>rfl
theorem jEK(q:Key):∀(kvs:List (Key×V)),jKd kvs q=(jAG (kvs.map fun p=>kD p.1) (kD q)).bind fun n=>(kvs.map (·.2))[n]?
 |[]=>rfl
 |p::r=>by
  rw[QR,QR];unfold jAG;by_cases e:p.1=q
  ·rw[jFq e,if_pos (by rw[e])];rfl
  ·rw[jFr e,if_neg fun z=>e (jMB z),jEK q r]
   cases jAG (r.map fun p=>kD p.1) (kD q)<;>rfl
theorem DKo.get{a:Addr}{b:Bool}{o:HO}{ks:List D}{vs:List V}{k:D}(ha:H1 a=some o)(q:DKo K H1 b o ks vs)(rk:Rep K H1 w k)(hk:jFH b k):jOd K H1 a w ((jAG ks k).bind fun n=>vs[n]?):=by
 cases b with
 |true =>
  obtain⟨ep,kvs,rfl,rfl,rfl,h4,_⟩:=q;obtain⟨q,rfl⟩:=hk;cases rk with
  |tup hq rq =>
   cases jCw rq;exact⟨ep,kvs,q,ha,h4,hq,(jCs q kvs).symm⟩
 |false =>
  obtain⟨z,rfl⟩:=hk;cases rk;rcases q with⟨kvs,_,rfl,rfl,rfl,_⟩| ⟨ep,rfl,rfl,rfl⟩
  ·exact .inl ⟨kvs,ha,(jEK (.inr z) kvs).symm⟩
  ·exact .inr ⟨ep,ha,rfl⟩
theorem jIH{b:Bool}{o:HO}{ks:List D}{vs:List V}{k:D}(q:DKo K H1 b o ks vs):((jAG ks k).bind fun n=>vs[n]?).isSome=(jAG ks k).isSome:=by
 cases e:jAG ks k with
 |none=>rfl
 |some n =>
  have h1:=(Qa.mp (jB1 e)).1;have h2:n<vs.length:=by rw[<- q.len];exact h1
  simp[h2]
theorem jMI{b neg:Bool}{a:Addr}{o:HO}{ks:List D}{vs:List V}{x:D}(ha:H1 a=some o)(q:DKo K H1 b o ks vs)(ra:Rep K H1 v x)(hk:jFH b x)(h:R (.bl (if neg then !(jAG ks x).isSome else(jAG ks x).isSome)) H1):jO2 K neg v (.ref a) H1 R :=
 .inr (.inr ⟨_,q.get ha ra hk,by rw[jIH q];exact h⟩)
theorem jTy{x y:D}{QB:Bool->Prop}(neg:Bool)(ra:Rep K H1 v x)(rb:Rep K H1 w y)(h:inD x y fun k=>QB (if neg then !k else k))(k:∀c,QB c->R (.bl c) H1):jO2 K neg v w H1 R:=by
 unfold inD at h;split at h
 ·cases ra;cases rb
  exact k _ h
 ·rename_i ds
  have rb':=rb;cases rb with
  |lst hp rp =>
   rcases h.1 with⟨fa,fs⟩| ⟨o1,o2⟩
   ·refine .inl ⟨_,_,rfl,.inl hp,jMU ra fa,jJT rp fs,?_⟩
    rw[jGF ra fa rp fs];exact k _ h.2
   ·exact .inr (.inl ⟨_,ds,ra,.inl rb',o1,o2,k _ h.2⟩)
 ·rename_i ds
  have rb':=rb;cases rb with
  |tup hp rp =>
   rcases h.1 with⟨fa,fs⟩| ⟨o1,o2⟩
   ·refine .inl ⟨_,_,rfl,.inr hp,jMU ra fa,jJT rp fs,?_⟩
    rw[jGF ra fa rp fs];exact k _ h.2
   ·exact .inr (.inl ⟨_,ds,ra,.inr rb',o1,o2,k _ h.2⟩)
 ·obtain⟨b,ek,hk,q⟩:=h
  cases rb with
  |@dct b' a o ks vs ds h dk r =>
   have hl:ks.length=ds.length:=by rw[dk.len,Reps.length r]
   rw[WM (Wi hl)]at q;cases jL7 dk ek;exact jMI h dk ra hk (k _ q)
 ·exact h.elim
theorem jIy{x y:D}{QB:Bool->Prop}{g:Int->Int->Bool}(ra:Rep K H1 v x)(rb:Rep K H1 w y)(h:jR8 g x y QB)(k:∀c,QB c->R (.bl c) H1):jR6 g v w H1 R:=by
 unfold jR8 at h;split at h
 ·cases ra;cases rb
  exact k _ h
 ·exact h.elim
theorem jMj{x y:D}{op:CmpOp}{QB:Bool->Prop}(ra:Rep K H1 v x)(rb:Rep K H1 w y)(h:jUJ op x y QB)(k:∀c,QB c->R (.bl c) H1):jUI K op v w H1 R:=by
 cases op with
 |Eq=>exact jT7 false ra rb h k
 |NotEq=>exact jT7 true ra rb h k
 |Lt=>exact jIy ra rb h k
 |LtE=>exact jIy ra rb h k
 |Gt=>exact jIy ra rb h k
 |GtE=>exact jIy ra rb h k
 |In=>exact jTy false ra rb h k
 |NotIn=>exact jTy true ra rb h k
 |Is =>
  obtain⟨a,b,rfl,rfl,q⟩:=h;cases rb;cases ra;exact⟨_,_,rfl,rfl,k _ q⟩
 |IsNot=>exact h.elim
theorem jRp{x:D}{op:CmpOp}{QB:Bool->Prop}(f:Same F1 H1)(ra:Rep K H1 v x)(rb:Tr K F1 H1 sb w b Zb)(h:jVo op x b QB)(k:∀c,QB c->R (.bl c) H1):jUI K op v w H1 R:=by
 cases b with
 |d y=>exact jMj ra (rb.rep f) h k
 |lst ts=>exact jMj ra (rb.rep f) h k
 |tup ts=>exact jMj ra (rb.rep f) h k
 |dct b ks ts =>
  obtain⟨hk,h⟩:=h;cases rb with
  |dct ha dk _ _ _ _ =>
   rcases h with⟨rfl,q⟩| ⟨rfl,q⟩
   ·exact jMI (neg:=false) ha (dk.mono f) ra hk (k _ q)
   ·exact jMI (neg:=true) ha (dk.mono f) ra hk (k _ q)
theorem jDv{xs:List V}{ds:List D}(r:Reps K F xs ds):(!ds.isEmpty)=!xs.isEmpty:=by
 cases r<;>rfl
theorem jKk{x:D}{QB:Bool->Prop}{RB:Bool->Hp->Prop}(ra:Rep K H1 v x)(h:jIi x QB)(k:∀c,QB c->RB c H1):jGX K v H1 RB:=by
 unfold jIi at h;split at h
 ·cases ra;exact k _ h
 ·cases ra;exact k _ h
 ·cases ra;exact k _ h
 ·cases ra;exact⟨h.1,k _ h.2⟩
 ·cases ra with
  |lst hp rp =>
   rw[jDv rp]at h;exact⟨_,.inl ⟨_,hp,rfl⟩,k _ h⟩
 ·cases ra with
  |tup hp rp =>
   rw[jDv rp]at h;exact⟨_,.inr (.inl ⟨_,hp,rfl⟩),k _ h⟩
 ·exact h.elim
theorem jPb{x:D}{QB:Bool->Prop}{RB:Bool->Hp->Prop}(ra:Rep K H1 v x)(h:asD x QB)(k:∀c,QB c->RB c H1):asB v H1 RB:=by
 unfold asD at h;split at h
 ·cases ra;exact k _ h
 ·exact h.elim
theorem jT0(s:Ste F H S ρ F1 H1 S1 ρ1)(I:Rl K F1 H1 S1 ρ1 σ)(ra:Tr K F1 H1 sa v a Za)(za:∀b,Za b->∃(i:Nat) (s:Sl),i∈ws/\ρ1[i]?=some (some s)/\S1 i b)(rb:Tr K F1 H1 sb w b Zb)(h:jM2 a.vw b.vw fun z=>Q z false ρ1)(k:jBT K ws F H S ρ σ Q R):jR7 K v w H1 R:=by
 rcases h with⟨z,i,c,ea,eb,h1,h2,q⟩| ⟨ts,i,d,ea,eb,h1,q⟩| ⟨ts,i,d,ea,eb,h1,q⟩
 ·obtain rfl:=ra.str ea
  obtain rfl:=rb.int eb;exact⟨h1,c,h2,k.d s I (.str _) q⟩
 ·obtain⟨p,xs,Z',rfl,hp,rp,hz⟩:=ra.ls I.fh ea
  obtain rfl:=rb.int eb;obtain⟨x,Z,h2,r,hz2⟩:=rp.at h1;exact⟨xs,x,.inl hp,h2,k _ F1 H1 S1 ρ1 _ false Z s I ⟨r,fun z=>(by cases z),fun _ b hb=>za b (hz b (hz2 b hb)),fun z=>(by cases z)⟩ q⟩
 ·obtain⟨p,xs,Z',rfl,hp,rp,hz⟩:=ra.tp I.fh ea
  obtain rfl:=rb.int eb;obtain⟨x,Z,h2,r,hz2⟩:=rp.at h1;exact⟨xs,x,.inr hp,h2,k _ F1 H1 S1 ρ1 _ false Z s I ⟨r,fun z=>(by cases z),fun _ b hb=>za b (hz b (hz2 b hb)),fun z=>(by cases z)⟩ q⟩
theorem jUG{y:D}(s:Ste F H S ρ F1 H1 S1 ρ1)(I:Rl K F1 H1 S1 ρ1 σ)(ra:Tr K F1 H1 sa v a Za)(za:∀b,Za b->∃(i:Nat) (s:Sl),i∈ws/\ρ1[i]?=some (some s)/\S1 i b)(rb:Rep K H1 w y)(h:jPW a.vw y fun z=>Q z false ρ1)(k:jBT K ws F H S ρ σ Q R):jR7 K v w H1 R:=by
 obtain⟨b,ks,ts,n,d,ea,hk,hf,ht,q⟩:=h;obtain⟨p,o,vs,Z',rfl,hp,dk,rp,hz,_⟩:=ra.dc I.fh ea;obtain⟨x,Z,h2,r,hz2⟩:=rp.get ht;have g:=(dk.mono I.fh).get hp rb hk;rw[hf]at g;have g:jOd K H1 p w (vs[n]?):=g;rw[h2]at g;have fin:=k _ F1 H1 S1 ρ1 _ false Z s I ⟨r,fun z=>(by cases z),fun _ b hb=>za b (hz b (hz2 b hb)),fun z=>(by cases z)⟩ q;cases w with
 |str z=>exact⟨x,g,fin⟩
 |ref c=>exact⟨x,g,fin⟩
 |_=>exact g.elim
theorem Reps.cut{xs:List V}{ds:List D}(r:Reps K F xs ds)(lo hi:Option Int):Reps K F (jPY xs lo hi) (jHj ds lo hi):=by
 unfold jPY jHj;rw[r.length];exact(r.drop _).take _
theorem jSX{lo hi:Option Int}(s:Ste F H S ρ F1 H1 S1 ρ1)(I:Rl K F1 H1 S1 ρ1 σ)(ra:Tr K F1 H1 sa v a Za)(h:jOt a.vw lo hi fun z n=>Q z n ρ1)(k:jBT K ws F H S ρ σ Q R):rSl K v lo hi H1 R:=by
 rcases h with⟨z,ea,h⟩| ⟨ts,ds,ea,e,q⟩| ⟨ts,ds,ea,e,n,q⟩
 ·obtain rfl:=ra.str ea
  exact⟨h.1,k.d s I (.str _) h.2⟩
 ·obtain⟨p,xs,_,rfl,hp,rp,_⟩:=ra.ls I.fh ea
  exact .inl ⟨p,xs,rfl,hp,fun l hl=>k.listD s I hl ((rp.un e).1.cut _ _) q⟩
 ·obtain⟨p,xs,_,rfl,hp,rp,_⟩:=ra.tp I.fh ea
  refine .inr ⟨p,xs,rfl,hp,by rw[(rp.un e).1.length];exact n,fun l hl=>k.tupD s I hl ((rp.un e).1.cut _ _) q⟩
theorem jQk{x:D}{P:Option Int->Prop}{RP:Option Int->Hp->Prop}(ra:Rep K H1 v x)(h:jJ6 x P)(k:∀o,P o->RP o H1):jHw v H1 RP:=by
 unfold jJ6 at h;split at h
 ·cases ra;exact k _ h
 ·exact h.elim
noncomputable def tyD:D->Value
 | .none=>.type "NoneType"
 | .bool _=>.type "bool"
 | .int _=>.type "int"
 | .str _=>.type "str"
 | .list _=>.type "list"
 | .tuple _=>.type "tuple"
 | .dict _=>.type "dict"
theorem Rep.ty{x:D}(ra:Rep K H1 v x):TyOf K H1 v (tyD x)∨TyQ K H1 v (tyD x):=by
 cases ra with
 |non=>exact .inl .non
 |bl b=>exact .inl (.bl _)
 |int b=>exact .inl (.int _)
 |str b=>exact .inl (.str _)
 |lst hp rp=>exact .inr (.inl ⟨_,_,rfl,hp,rfl⟩)
 |tup hp rp=>exact .inr (.inr ⟨_,_,rfl,hp,rfl⟩)
 |@dct b _ _ _ _ _ hp q _ =>
  cases b with
  |true=>obtain⟨ep,kvs,rfl,_⟩:=q;exact .inl (.dT hp)
  |false =>
   rcases q with⟨kvs,_,rfl,_⟩| ⟨ep,rfl,_⟩
   ·exact .inl (.dK hp)
   ·exact .inl (.dT hp)
theorem jTm{x:D}{n:String}{k:Bool}(h:isD n x=some k)(ht:jKD n=true):QBA K (tyD x) (.type n)=some k:=by
 simp only[jKD,wM,beq_iff_eq]at ht;rcases ht with((((rfl|rfl)|rfl)|rfl)|rfl)|rfl<;>cases x<;>simp[isD]at h<;>subst h<;>rfl
theorem jTw{x:D}{n:String}{k:Bool}(ra:Rep K H1 v x)(h:isD n x=some k)(ht:jKD n=true)(q:R (.bl k) H1):jWF K [v,.ty n] H1 R :=
 ⟨tyD x,.type n,k,ra.ty,rfl,jTm h ht,q⟩
inductive Tn(K:QD)(F H:Hp)(Y:AdP):List V->List T->Prop where
 |nil:Tn K F H Y [] []
 |cons {v:V}{t:T}{vs:List V}{ts:List T}{Z:AdP}:Tr K F H false v t Z->(∀b,Z b->Y b)->Tn K F H Y vs ts->Tn K F H Y (v::vs) (t::ts)
theorem jGb(ts:List T):∀{xs:List (T×Bool)},jM4 xs=ts->jDK xs=ts.map T.vw
 |[],h=>by subst h;rfl
 |p::r,h=>by subst h;simp only[jDK,jM4,QR,jGb _ rfl]
theorem Tn.one{Y:AdP}{vs:List V}{ts:List T}{x:Vw}(h:Tn K F H Y vs ts)(e:ts.map T.vw=[x]):∃v t Z,vs=[v]/\ts=[t]/\t.vw=x/\Tr K F H false v t Z/\∀b,Z b->Y b:=by
 cases h with
 |nil=>cases e
 |cons r z t =>
  simp only[QR,W7]at e;cases t with
  |nil=>exact⟨_,_,_,rfl,rfl,e.1,r,z⟩
  |cons _ _ _=>simp at e
theorem jBk:∀{xs:List V}{ys:List Str},Reps K F xs (ys.map PyData.str)->xs=ys.map V.str
 |_,[],.nil=>rfl
 |_,y::ys,.cons h t=>by cases h;rw[QR,jBk t]
theorem jEM:∀(ys:List Str),Reps K F (ys.map V.str) (ys.map PyData.str)
 |[]=>.nil
 |y::ys=>.cons (.str y) (jEM ys)
theorem jK8{α:Type}{g:α->D}{xs ys:List V}(hp:xs.Perm ys):∀{l:List α},Reps K F xs (l.map g)->∃l':List α,l'.Perm l/\Reps K F ys (l'.map g):=by
 induction hp with
 |nil=>intro l r;exact⟨l,wv _,r⟩
 |cons x _ ih =>
  intro l r;cases l with
  |nil=>cases r
  |cons a l=>cases r with
   |cons h t =>
    obtain⟨l',p,v⟩:=ih t;exact⟨a::l',p.cons _,.cons h v⟩
 |swap x y l0 =>
  intro l r;cases l with
  |nil=>cases r
  |cons a l=>cases l with
   |nil=>cases r with
    |cons h t=>cases t
   |cons b l=>cases r with
    |cons h t=>cases t with
     |cons h2 t=>exact⟨b::a::l,List.Perm.swap _ _ _,.cons h2 (.cons h t)⟩
 |trans _ _ i1 i2 =>
  intro l r;obtain⟨l1,p1,v1⟩:=i1 r;obtain⟨l2,p2,v2⟩:=i2 v1;exact⟨l2,p2.trans p1,v2⟩
theorem jJ2{xs:List V}{ls:List (List Str)}(h:Reps K F xs (ls.map jBs)):∀x∈xs,∃a,∃ss:List Str,x=.ref a/\SqL K F a (ss.map V.str):=by
 induction ls generalizing xs with
 |nil=>cases h;exact fun _ z=>nomatch z
 |cons l ls ih =>
  cases h with
  |cons r t =>
   intro x h;rcases QK.mp h with e|h
   ·subst e
    cases r with
    |lst q r=>exact⟨_,l,rfl,by rw[<- jBk r];exact q⟩
   ·exact ih t x h
theorem jUn{bi:Bi}{Y:AdP}{vs:List V}{ts:List T}(s:Ste F H S ρ F1 H1 S1 ρ1)(I:Rl K F1 H1 S1 ρ1 σ)(ra:Tn K F1 H1 Y vs ts)(h:biT bi (ts.map T.vw) fun z n=>Q z n ρ1)(k:jBT K ws F H S ρ σ Q R):biR K bi vs H1 R:=by
 cases bi with
 |len =>
  rcases h with⟨z,e,h⟩| ⟨us,e,h⟩| ⟨us,e,h⟩
  ·obtain⟨v,t,Z,rfl,rfl,e,r,_⟩:=ra.one e
   obtain rfl:=r.str e;exact .inl ⟨_,rfl,h.1,k.d s I (.int _) h.2⟩
  ·obtain⟨v,t,Z,rfl,rfl,e,r,_⟩:=ra.one e
   obtain⟨p,xs,_,rfl,hp,rp,_⟩:=r.ls I.fh e;exact .inr ⟨_,xs,rfl,.inl hp,by rw[rp.length];exact k.d s I (.int _) h⟩
  ·obtain⟨v,t,Z,rfl,rfl,e,r,_⟩:=ra.one e
   obtain⟨p,xs,_,rfl,hp,rp,_⟩:=r.tp I.fh e;exact .inr ⟨_,xs,rfl,.inr hp,by rw[rp.length];exact k.d s I (.int _) h⟩
 |any =>
  obtain⟨us,bs,e,hb,q⟩:=h;obtain⟨v,t,Z,rfl,rfl,e,r,_⟩:=ra.one e;obtain⟨p,xs,_,rfl,hp,rp,_⟩:=r.ls I.fh e;obtain rfl:=(rp.un hb).1.bools;exact⟨bs,hp,k.d s I (.bl _) q⟩
 |all =>
  obtain⟨us,bs,e,hb,q⟩:=h;obtain⟨v,t,Z,rfl,rfl,e,r,_⟩:=ra.one e;obtain⟨p,xs,_,rfl,hp,rp,_⟩:=r.ls I.fh e;obtain rfl:=(rp.un hb).1.bools;exact⟨bs,hp,k.d s I (.bl _) q⟩
 |list =>
  obtain⟨us,ds,e,hb,q⟩:=h;obtain⟨v,t,Z,rfl,rfl,e,r,_⟩:=ra.one e;obtain⟨p,xs,_,rfl,hp,rp,_⟩:=r.ls I.fh e;exact⟨_,xs,rfl,.inl hp,fun l hl=>k.listD s I hl (rp.un hb).1 q⟩
 |sorted =>
  rcases h with⟨us,ss,e,hb,h64,q⟩| ⟨us,ls,e,hb,h64,q⟩
  ·obtain⟨v,t,Z,rfl,rfl,e,r,_⟩:=ra.one e
   obtain⟨p,xs,_,rfl,hp,rp,_⟩:=r.ls I.fh e;obtain rfl:=jBk (rp.un hb).1;exact⟨_,rfl,.inl ⟨ss,hp,h64,fun l ss' hl p1 p2=>k.listD s I hl (jEM ss') (q ss' p1 p2)⟩⟩
  ·obtain⟨v,t,Z,rfl,rfl,e,r,_⟩:=ra.one e
   obtain⟨p,xs,_,rfl,hp,rp,_⟩:=r.ls I.fh e;have rr:=(rp.un hb).1;refine⟨_,rfl,.inr ⟨xs,hp,by rw[Reps.length rr,QG];exact h64,fun x hx=>?_,fun l ys hl hp=>?_⟩⟩
   ·obtain⟨a,ss,e,sq⟩:=jJ2 rr x hx
    exact⟨a,ss,e,I.fh.seq sq⟩
   ·obtain⟨ls',p1,r1⟩:=jK8 hp.symm rr
    exact k.listD s I hl r1 (q ls' p1)
theorem jTb{m:Mt}{Y:AdP}{vs:List V}{ts:List T}(s:Ste F H S ρ F1 H1 S1 ρ1)(I:Rl K F1 H1 S1 ρ1 σ)(rv:Tr K F1 H1 sa v a Za)(ra:Tn K F1 H1 Y vs ts)(h:mtT m a.vw (ts.map T.vw) fun z n=>Q z n ρ1)(k:jBT K ws F H S ρ σ Q R):mtR K m v vs H1 R:=by
 cases m with
 |join =>
  obtain⟨z,us,ys,ea,e,hy,hl,q⟩:=h;obtain⟨w,t,Z,rfl,rfl,e,r,_⟩:=ra.one e;obtain rfl:=rv.str ea;obtain⟨p,xs,_,rfl,hp,rp,_⟩:=r.ls I.fh e;obtain rfl:=jBk (rp.un hy).1;exact⟨z,p,ys,rfl,rfl,hp,hl,k.d s I (.str _) q⟩
 |_=>exact h.elim
theorem jWg{x:Vw}(h:x.isS=true):∃z,x=.sc (.str z):=by
 cases x with
 |sc d=>cases d with
  |str z=>exact⟨z,rfl⟩
  |_=>exact(QC h).elim
 |_=>exact(QC h).elim
theorem jWY{m:Mt}(rv:Tr K F1 H1 sa v a Za)(h:jRG m a.vw=true):tyV K m.ty v H1:=by
 have h:=jAE h;obtain⟨z,ea⟩:=jWg h.1;obtain rfl:=rv.str ea;cases m with
 |join=>rfl
 |_=>exact(QC h.2).elim
end
inductive AV(K:QD)(F H:Hp):List Md->List V->List (T×Bool)->(Addr->Prop)->(Addr->Prop)->Prop where
 |nil {md:List Md}{W Y:AdP}:(∀b,¬ W b)->AV K F H md [] [] W Y
 |chg {md:List Md}{v:V}{vs:List V}{x:T}{xs:List (T×Bool)}{W Y:AdP}:(md.headD .fro).isMut=true->AV K F H md.tail vs xs W Y->AV K F H md (v::vs) ((x,true)::xs) W Y
 |new {md:List Md}{v:V}{vs:List V}{x:T}{xs:List (T×Bool)}{Z W W' Y:AdP}:(md.headD .fro).isMut=false->Tr K F H true v x Z->AV K F H md.tail vs xs W' Y->(∀b,Z b->¬ W' b)->(∀b,W b↔Z b∨W' b) ->
   AV K F H md (v::vs) ((x,true)::xs) W Y
 |tmp {md:List Md}{v:V}{vs:List V}{x:T}{xs:List (T×Bool)}{Z W Y:AdP}:(md.headD .fro).isMut=false->Tr K F H false v x Z->(∀b,Z b->Y b)->AV K F H md.tail vs xs W Y ->
   AV K F H md (v::vs) ((x,false)::xs) W Y
section
variable{K:QD}{F H F1 H1:Hp}{S S1:Ft}{ρ ρ1:PSt}{σ:St}
theorem AV.sub{Y Y':AdP}{md:List Md}{vs:List V}{xs:List (T×Bool)}{W:AdP}(h:AV K F H md vs xs W Y)(k:∀b,Y b->Y' b):AV K F H md vs xs W Y':=by
 induction h with
 |nil h=>exact .nil h
 |chg h t ih=>exact .chg h (ih k)
 |new h r t n q ih=>exact .new h r (ih k) n q
 |tmp h r z t ih=>exact .tmp h r (fun b hb=>k b (z b hb)) (ih k)
theorem AV.dom{Y:AdP}{md:List Md}{vs:List V}{xs:List (T×Bool)}{W:AdP}(h:AV K F H md vs xs W Y):∀b,W b->H b≠none/\F b=none:=by
 induction h with
 |nil h=>exact fun b hb=>absurd hb (h b)
 |chg h t ih=>exact ih
 |new h r t n q ih=>exact fun b hb=>((q b).mp hb).elim (r.dom b) (ih b)
 |tmp h r z t ih=>exact ih
theorem AV.length{Y:AdP}{md:List Md}{vs:List V}{xs:List (T×Bool)}{W:AdP}(h:AV K F H md vs xs W Y):vs.length=xs.length:=by
 induction h with
 |nil h=>rfl
 |chg h t ih=>simp[ih]
 |new h r t n q ih=>simp[ih]
 |tmp h r z t ih=>simp[ih]
theorem AV.trs{Y:AdP}{md:List Md}{vs:List V}{xs:List (T×Bool)}{W:AdP}(h:AV K F H md vs xs W Y):(∀(i:Nat),(md.getD i .fro).isMut=false)->jGI xs=true->Trs K F H true vs (jGf xs) W:=by
 induction h with
 |nil h=>exact fun _ _=>.nil h
 |@chg md _ _ _ _ _ _ h t ih =>
  intro m;have:=m 0;cases md with
  |nil=>cases h
  |cons a r=>exact absurd h (by simpa using this)
 |@new md v vs x xs Z W W' Y h r t n q ih =>
  intro m e;simp only[jGI,Qb]at e;exact .cons r (ih (fun i=>by cases md with
   |nil=>exact m i
   |cons a md=>exact m (i+1)) e.2) n q
 |@tmp md v vs x xs Z W Y h r z t ih =>
  intro m e;simp only[jGI,Qb]at e;refine .cons (S1:=fun _=>False) ?_ (ih (fun i=>by cases md with
   |nil=>exact m i
   |cons a md=>exact m (i+1)) e.2) (fun _ z=>z.elim) fun b=>by simp
  cases x with
  |d x=>cases r with|d r n=>exact .d r fun _ z=>z
  |_=>exact absurd e.1 (by simp[esc,T.isD])
theorem jWT(i:Nat):((([]:List Md).getD i .fro).isMut)=false:=rfl
theorem AV.tn{Y:AdP}{md:List Md}{vs:List V}{xs:List (T×Bool)}{W:AdP}(h:AV K F H md vs xs W Y)(e:Same F F1)(k:∀b,W b->F1 b=H b)(k2:∀b,Y b->F b=none->F1 b=none)(hm:md=[]):Tn K F1 H Y vs (jM4 xs):=by
 induction h with
 |nil h=>exact .nil
 |chg h t ih=>subst hm;cases h
 |@new md v vs x xs Z W W' Y h r t n q ih =>
  subst hm;refine .cons (Z:=fun _=>False) ?_ (fun b z=>z.elim) (ih (fun b hb=>k b ((q b).mpr (.inr hb))) k2 rfl);exact .d (r.kept e fun b u hb eu=>by rw[k b ((q b).mpr (.inl hb))];exact eu) fun _ z=>z
 |@tmp md v vs x xs Z W Y h r z t ih =>
  subst hm;exact .cons (r.mono e fun b hb=>⟨rfl,k2 b (z b hb) (r.dom b hb).2⟩) z (ih k k2 rfl)
structure AR(K:QD)(ws:List Nat)(md:List Md)(H0:Hp)(S0:Ft)(ρ0:PSt)(F H:Hp)(S:Ft)(ρ:PSt)(vs:List V)(xs:List (T×Bool))(W Y:AdP):Prop where
 av:AV K F H md vs xs W Y
 fr:∀b,W b->H0 b=none∨U ρ0 S0 b
 tm:∀b,Y b->∃(i:Nat) (s:Sl),i∈ws/\ρ[i]?=some (some s)/\S i b
 nw:∀(i:Nat) s,ρ[i]?=some (some s)->∀b,W b->¬ S i b
theorem AR.held{ws:List Nat}{md:List Md}{H0:Hp}{S0:Ft}{ρ0:PSt}{vs:List V}{xs:List (T×Bool)}{W Y:AdP}(h:AR K ws md H0 S0 ρ0 F H S ρ vs xs W Y):Held F H S ρ W:=⟨h.av.dom,h.nw⟩
theorem AR.from{ws:List Nat}{md:List Md}{F2 H2:Hp}{S2:Ft}{ρ2:PSt}{vs:List V}{xs:List (T×Bool)}{W Y:AdP}(s:Stp F H S ρ F1 H1 S1 ρ1)(h:AR K ws md H1 S1 ρ1 F2 H2 S2 ρ2 vs xs W Y):AR K ws md H S ρ F2 H2 S2 ρ2 vs xs W Y :=
 ⟨h.av,fun b hb=>by
  rcases h.fr b hb with q|q
  ·exact .inl (s.dm b q)
  ·exact(s.uu b q).symm,h.tm,h.nw⟩
theorem AR.vars{ws us:List Nat}{md:List Md}{H0:Hp}{S0:Ft}{ρ0:PSt}{vs:List V}{xs:List (T×Bool)}{W Y:AdP}(h:AR K ws md H0 S0 ρ0 F H S ρ vs xs W Y)(k:∀i∈ws,i∈us):AR K us md H0 S0 ρ0 F H S ρ vs xs W Y :=
 ⟨h.av,h.fr,fun b hb=>let⟨i,s,h1,h2⟩:=h.tm b hb;⟨i,s,k i h1,h2⟩,h.nw⟩
theorem AR.frz{ws:List Nat}{vs:List V}{xs:List (T×Bool)}{W Y:AdP}(s:Ste F H S ρ F1 H1 S1 ρ1)(I:Rl K F1 H1 S1 ρ1 σ)(h:AR K ws [] H S ρ F1 H1 S1 ρ1 vs xs W Y) :
  ∃F2,Ste F H S ρ F2 H1 S1 ρ1/\Rl K F2 H1 S1 ρ1 σ/\Tn K F2 H1 Y vs (jM4 xs) /\
   ∀st v' t' Z',Tr K F1 H1 st v' t' Z'->(∀b,Z' b->∃(i:Nat) (s:Sl),ρ1[i]?=some (some s)/\S1 i b)->Tr K F2 H1 st v' t' Z':=by
 have hw:=h.held;have ff:=jDa (H:=H1) fun b hb=>(hw.dom b hb).2;refine⟨jJS F1 H1 W,s.frz (fun b hb=>(hw.dom b hb).2) h.fr,I.frz hw,h.av.tn ff (fun b hb=>jEi hb) (fun b hy hf=>?_) rfl,fun st v' t' Z' r hz=>r.mono ff fun b hb=>⟨rfl,?_⟩⟩
 ·obtain⟨i,sl,_,h2,h3⟩:=h.tm b hy
  rw[jBK fun z=>h.nw i sl h2 b z h3];exact hf
 ·obtain⟨i,sl,h1,h2⟩:=hz b hb
  rw[jBK fun z=>hw.nw i sl h1 b z h2];exact(r.dom b hb).2
noncomputable def jA0:List Md->List V->List V
 |_,[]=>[]
 |md,v::vs=>match md.headD .fro with
  | .chg=>v::jA0 md.tail vs
  |_=>jA0 md.tail vs
noncomputable abbrev jWx(K:QD)(p:PX)(md:List Md)(F H:Hp)(S:Ft)(ρ:PSt)(σ:St)(Q:List (T×Bool)->PSt->Prop)(R:List V->Hp->Prop):Prop :=
 ∀vs F' H' S' ρ' xs W Y,Ste F H S ρ F' H' S' ρ'->Rl K F' H' S' ρ' σ->AR K (vrs p) md H S ρ F' H' S' ρ' vs xs W Y->(jA0 md vs).map (fun v=>some (some v))=(jAC md p).map (fun j=>σ[j]?)->Q xs ρ'->R vs H'
def jXy(K:QD)(F H:Hp)(x:XD)(dx:Option Addr):Prop:=∃a fs,dx=some a/\H a=some (.xd fs)/\Paired (fun(p:Str×V) (q:Str×D)=>p.1=q.1/\Rep K F p.2 q.2) fs x.2
def XOk(K:QD)(F H:Hp)(S:Ft)(ρ:PSt)(E:XE)(EK:XK):Prop:=∀x dx F' H' S' ρ',Stp F H S ρ F' H' S' ρ'->Same F' H'->jXy K F' H' x dx->E x->EK x.1 dx H'
theorem XOk.from{E:XE}{EK:XK}(h:XOk K F H S ρ E EK)(s:Stp F H S ρ F1 H1 S1 ρ1):XOk K F1 H1 S1 ρ1 E EK:=fun x dx F2 H2 S2 ρ2 s2 f r q=>h x dx F2 H2 S2 ρ2 (s.trans s2) f r q
theorem XOk.never:XOk K F H S ρ (fun _=>False) (fun _ _ _=>False):=fun _ _ _ _ _ _ _ _ _ z=>z
inductive ArgsR(K:QD)(F H:Hp)(Y:AdP):List Md->List V->List T->Prop where
 |nil {md:List Md}:ArgsR K F H Y md [] []
 |chg {md:List Md}{v:V}{vs:List V}{t:T}{ts:List T}:md.headD .fro=.chg->ArgsR K F H Y md.tail vs ts->ArgsR K F H Y md (v::vs) (t::ts)
 |rd {md:List Md}{v:V}{vs:List V}{t:T}{ts:List T}{Z:AdP}:md.headD .fro≠.chg->Tr K F H false v t Z->(∀b,Z b->Y b)->ArgsR K F H Y md.tail vs ts->ArgsR K F H Y md (v::vs) (t::ts)
structure Frm(M:AdP)(F H F' H':Hp):Prop where
 ff:Same F F'
 fh:Same F' H'
 hh:∀b u,H b=some u->¬ M b->H' b=some u
 dm:∀b,H' b=none->H b=none
 fn:∀b,F b=none->F' b≠none->M b∨H b=none
noncomputable def lift(K:QD)(P:PSp):Sp:=fun vs H Q E=>∃(F:Hp) (ts:List T) (M Y:AdP),Same F H/\ArgsR K F H Y P.md vs ts/\Trs K F H true (jA0 P.md vs) (jBO P.md ts) M/\(∀b,Y b->¬ M b) /\
 P.run ts (fun r os=>∀v F' H' Z M',Frm M F H F' H'->Tr K F' H' true v r Z->Trs K F' H' true (jA0 P.md vs) os M'->(∀b,Z b->¬ M' b)->(∀b,Z b∨M' b->M b∨H b=none)->Q v H')
  (fun x=>∀dx F' H',Frm M F H F' H'->jXy K F' H' x dx->E x.1 dx H')
structure GOk(K:QD)(Γ:Ev)(Ψ:PEv):Prop where
 sp:∀f vs H Q E,lift K (Ψ.sp f) vs H Q E->Γ.sp f vs H Q E
 va:∀x d,Ψ.va x=some d->∀F,Rep K F (Γ.va x) d
structure PSnd(K:QD)(Γ:Ev)(Ψ:PEv)(p:PX):Prop where
 e:∀{E:XE}{EK:XK}{F H:Hp}{S:Ft}{ρ:PSt}{σ:St}{Q:TK}{R:VK},Rl K F H S ρ σ->XOk K F H S ρ E EK->(pe Ψ p E).e ρ Q->jBT K (vrs p) F H S ρ σ Q R->(wp K Γ p EK).e σ H R
 t:∀{E:XE}{EK:XK}{F H:Hp}{S:Ft}{ρ:PSt}{σ:St}{Q:Bool->PSt->Prop}{R:Bool->Hp->Prop},Rl K F H S ρ σ->XOk K F H S ρ E EK->(pe Ψ p E).t ρ Q->jFJ K F H S ρ σ Q R->(wp K Γ p EK).t σ H R
 a:∀{E:XE}{EK:XK}{F H:Hp}{S:Ft}{ρ:PSt}{σ:St}{md:List Md}{Q:List (T×Bool)->PSt->Prop}{R:List V->Hp->Prop},Rl K F H S ρ σ->XOk K F H S ρ E EK->(∀j∈jAC md p,∃v,σ[j]?=some (some v))->(pe Ψ p E).a md ρ Q->jWx K p md F H S ρ σ Q R->(wp K Γ p EK).a σ H R
end
section
variable{K:QD}{Γ:Ev}{Ψ:PEv}{E:XE}{EK:XK}{F H F1 H1:Hp}{S S1:Ft}{ρ ρ1:PSt}{σ:St}
theorem jXH{b:PX}(ib:PSnd K Γ Ψ b)(I:Rl K F H S ρ σ)(X:XOk K F H S ρ E EK){x:T}{P:T×Bool->PSt->Prop}{RR:VK}(h:sq x ρ (cu (pe Ψ b E).e) P)
  (kk:∀w F' H' S' ρ' y m Z,Ste F H S ρ F' H' S' ρ'->Rl K F' H' S' ρ' σ->(∀st v Zx,Tr K F H st v x Zx->Tr K F' H' st v x Zx)->(x.isD=false->ρ'=ρ/\S'=S)->VR K (vrs b) H S ρ F' H' S' ρ' w y m Z->P (y,m) ρ'->RR w H') :
  (wp K Γ b EK).e σ H RR:=by
 unfold sq at h;cases hd:x.isD with
 |true =>
  rw[hd,if_pos rfl]at h;refine ib.e I X h fun w F' H' S' ρ' y m Z s I' r q=>kk w F' H' S' ρ' y m Z s I' (fun st v Zx rx=>?_) (fun z=>(by rw[hd]at z;cases z)) r q;cases x with
  |d x=>cases rx with|d r n=>exact .d (r.mono s.ff) n
  |_=>cases hd
 |false =>
  rw[hd,if_neg (by simp)]at h;have X':XOk K F H S (lockA ρ) E EK:=fun x dx F2 H2 S2 ρ2 s2 f r q=>X x dx F2 H2 S ρ s2.unlockA f r q;refine ib.e I.lockA X' h fun w F' H' S' ρ' y m Z s I' r q=>?_;have kp:∀st v t Zx,Tr K F H st v t Zx->Tr K F' H' st v t Zx:=fun st v t Zx rx=>s.keep rx fun b _=>jB0 b;refine kk w F' H' S ρ y m Z ⟨s.unlockA,fun j t h=>⟨t,h⟩⟩ (I.unlockA s.toStp I'.fh) (fun st v Zx rx=>kp st v _ Zx rx) (fun _=>⟨rfl,rfl⟩) ⟨r.tr,fun e b hb=>?_,fun e b hb=>?_,fun e i sl hi b hb z=>?_⟩ q
  ·exact .inl ((r.fr e b hb).elim id fun z=>absurd z (jB0 b))
  ·obtain⟨i,sl,h1,h2,h3⟩:=r.tm e b hb
   cases sl with
   |own t =>
    obtain⟨t0,h0⟩:=s.ow i t h2;obtain⟨_,_,e0⟩:=jAj h0;cases e0
   |bor t =>
    cases hd:t.isD with
    |true=>exact absurd h3 (I'.isD h2 hd)
    |false =>
     obtain⟨g1,g2⟩:=s.bo i t h2 hd;obtain⟨s0,g3,_⟩:=jAj g1;rw[g2]at h3;exact⟨i,s0,h1,g3,h3⟩
  ·rcases r.fr e b hb with q|q
   ·exact(I.dom hi z).1 q
   ·exact absurd q (jB0 b)
theorem jXI{b:PX}{md:List Md}(ib:PSnd K Γ Ψ b)(I:Rl K F H S ρ σ)(X:XOk K F H S ρ E EK)(hm:∀j∈jAC md b,∃v,σ[j]?=some (some v)){x:T}{P:List (T×Bool)->PSt->Prop}{RR:List V->Hp->Prop}(h:sq x ρ ((pe Ψ b E).a md) P)
  (kk:∀ws F' H' S' ρ' ys W Y,Ste F H S ρ F' H' S' ρ'->Rl K F' H' S' ρ' σ->(∀st v Zx,Tr K F H st v x Zx->Tr K F' H' st v x Zx)->(x.isD=false->ρ'=ρ/\S'=S)->AR K (vrs b) md H S ρ F' H' S' ρ' ws ys W Y->(jA0 md ws).map (fun v=>some (some v))=(jAC md b).map (fun j=>σ[j]?)->P ys ρ'->RR ws H') :
  (wp K Γ b EK).a σ H RR:=by
 unfold sq at h;cases hd:x.isD with
 |true =>
  rw[hd,if_pos rfl]at h;refine ib.a I X hm h fun w F' H' S' ρ' y W Y s I' r mv q=>kk w F' H' S' ρ' y W Y s I' (fun st v Zx rx=>?_) (fun z=>(by rw[hd]at z;cases z)) r mv q;cases x with
  |d x=>cases rx with|d r n=>exact .d (r.mono s.ff) n
  |_=>cases hd
 |false =>
  rw[hd,if_neg (by simp)]at h;have X':XOk K F H S (lockA ρ) E EK:=fun x dx F2 H2 S2 ρ2 s2 f r q=>X x dx F2 H2 S ρ s2.unlockA f r q;refine ib.a I.lockA X' hm h fun w F' H' S' ρ' y W Y s I' r mv q=>?_;have kp:∀st v t Zx,Tr K F H st v t Zx->Tr K F' H' st v t Zx:=fun st v t Zx rx=>s.keep rx fun b _=>jB0 b;refine kk w F' H' S ρ y W Y ⟨s.unlockA,fun j t h=>⟨t,h⟩⟩ (I.unlockA s.toStp I'.fh) (fun st v Zx rx=>kp st v _ Zx rx) (fun _=>⟨rfl,rfl⟩) ⟨r.av,fun b hb=>?_,fun b hb=>?_,fun i sl hi b hb z=>?_⟩ mv q
  ·exact .inl ((r.fr b hb).elim id fun z=>absurd z (jB0 b))
  ·obtain⟨i,sl,h1,h2,h3⟩:=r.tm b hb
   cases sl with
   |own t =>
    obtain⟨t0,h0⟩:=s.ow i t h2;obtain⟨_,_,e0⟩:=jAj h0;cases e0
   |bor t =>
    cases hd:t.isD with
    |true=>exact absurd h3 (I'.isD h2 hd)
    |false =>
     obtain⟨g1,g2⟩:=s.bo i t h2 hd;obtain⟨s0,g3,_⟩:=jAj g1;rw[g2]at h3;exact⟨i,s0,h1,g3,h3⟩
  ·rcases r.fr b hb with q|q
   ·exact(I.dom hi z).1 q
   ·exact absurd q (jB0 b)
theorem jCy{a:PX}(ia:PSnd K Γ Ψ a)(I:Rl K F H S ρ σ)(X:XOk K F H S ρ E EK){P:TK}{RR:VK}(h:(pe Ψ a E).e ρ P)
  (kk:∀v F' H' S' ρ' x n Z,Ste F H S ρ F' H' S' ρ'->Rl K F' H' S' ρ' σ->XOk K F' H' S' ρ' E EK->Tr K F' H' false v (jAU x n) Z->(esc x n=true->Rep K F' v x.er)->(∀b,Z b->∃(i:Nat) (s:Sl),i∈vrs a/\ρ'[i]?=some (some s)/\S' i b)->P x n ρ'->RR v H') :
  (wp K Γ a EK).e σ H RR:=by
 refine ia.e I X h fun v F' H' S' ρ' x n Z s I' r q=>?_;obtain⟨F2,Z2,s2,I2,r2,e2,z2,_⟩:=r.frz s I';exact kk v F2 H' S' ρ' x n Z2 s2 I2 (X.from s2.toStp) r2 e2 z2 q
theorem jPz{a b:PX}(ia:PSnd K Γ Ψ a)(ib:PSnd K Γ Ψ b)(I:Rl K F H S ρ σ)(X:XOk K F H S ρ E EK){P:T->Bool->T->Bool->PSt->Prop}{RR:V->V->Hp->Prop}
  (h:(pe Ψ a E).e ρ fun x n ρ1=>sq (jAU x n) ρ1 (cu (pe Ψ b E).e) fun y ρ2=>P x n y.1 y.2 ρ2)
  (kk:∀v w F' H' S' ρ' x n y m Za Zb,Ste F H S ρ F' H' S' ρ'->Rl K F' H' S' ρ' σ->XOk K F' H' S' ρ' E EK->Tr K F' H' false v (jAU x n) Za->(∀b,Za b->∃(i:Nat) (s:Sl),i∈vrs a/\ρ'[i]?=some (some s)/\S' i b)->Tr K F' H' false w (jAU y m) Zb ->
   P x n y m ρ'->RR v w H'):(wp K Γ a EK).e σ H fun v H1=>(wp K Γ b EK).e σ H1 fun w H2=>RR v w H2:=by
 refine jCy ia I X h fun v F1 H1 S1 ρ1 x n Za s1 I1 X1 r1 _ z1 q1=>?_;refine jXH ib I1 X1 q1 fun w F2 H2 S2 ρ2 y m Z s2 I2 kp hs r2 q2=>?_;obtain⟨F3,Z3,s3,I3,r3,_,_,k3⟩:=r2.frz s2 I2;have za:∀b,Za b->∃(i:Nat) (s:Sl),i∈vrs a/\ρ2[i]?=some (some s)/\S2 i b:=by
  cases hd:(jAU x n).isD with
  |true =>
   intro b hb;exfalso;generalize jAU x n=t at r1 hd;cases r1 with
   |d r n=>exact n b hb
   |_=>cases hd
  |false =>
   obtain⟨e1,e2⟩:=hs hd;rw[e1,e2];exact z1
 have s13:=s1.trans s3;exact kk v w F3 H2 S2 ρ2 x n y m Za Z3 s13 I3 (X.from s13.toStp) (k3 _ _ _ _ (kp _ _ _ r1) fun b hb=>let⟨i,s,_,h2⟩:=za b hb;⟨i,s,h2⟩) za r3 q2
theorem jMr{as:PX}(ia:PSnd K Γ Ψ as)(I:Rl K F H S ρ σ)(X:XOk K F H S ρ E EK){P:List (T×Bool)->PSt->Prop}{RR:List V->Hp->Prop}(h:(pe Ψ as E).a [] ρ P)
  (kk:∀vs F' H' S' ρ' xs Y,Ste F H S ρ F' H' S' ρ'->Rl K F' H' S' ρ' σ->XOk K F' H' S' ρ' E EK->Tn K F' H' Y vs (jM4 xs)->(∀b,Y b->∃(i:Nat) (s:Sl),i∈vrs as/\ρ'[i]?=some (some s)/\S' i b)->P xs ρ'->RR vs H'):(wp K Γ as EK).a σ H RR:=by
 refine ia.a (md:=[]) I X (fun j hj=>by cases as<;>cases hj) h fun vs F' H' S' ρ' xs W Y s I' r _ q=>?_;obtain⟨F2,s2,I2,t,_⟩:=r.frz s I';exact kk vs F2 H' S' ρ' xs Y s2 I2 (X.from s2.toStp) t r.tm q
theorem jV2{a as:PX}(ia:PSnd K Γ Ψ a)(ib:PSnd K Γ Ψ as)(I:Rl K F H S ρ σ)(X:XOk K F H S ρ E EK){P1:T->Bool->Prop}{P:T->Bool->List (T×Bool)->PSt->Prop}{R1:V->Hp->Prop}{RR:V->List V->Hp->Prop}
  (h:(pe Ψ a E).e ρ fun x n ρ1=>P1 x n/\sq (jAU x n) ρ1 ((pe Ψ as E).a []) fun xs ρ2=>P x n xs ρ2)
  (k1:∀v F' H' x n Za,Tr K F' H' false v (jAU x n) Za->P1 x n->R1 v H')
  (kk:∀v vs F' H' S' ρ' x n xs Za Y,Ste F H S ρ F' H' S' ρ'->Rl K F' H' S' ρ' σ->XOk K F' H' S' ρ' E EK->Tr K F' H' false v (jAU x n) Za->(∀b,Za b->∃(i:Nat) (s:Sl),i∈vrs a/\ρ'[i]?=some (some s)/\S' i b)->Tn K F' H' Y vs (jM4 xs) ->
   P x n xs ρ'->RR v vs H'):(wp K Γ a EK).e σ H fun v H1=>R1 v H1/\(wp K Γ as EK).a σ H1 fun vs H2=>RR v vs H2:=by
 refine jCy ia I X h fun v F1 H1 S1 ρ1 x n Za s1 I1 X1 r1 _ z1 ⟨p1,q1⟩=>⟨k1 v F1 H1 x n Za r1 p1,?_⟩
 refine jXI ib I1 X1 (fun j hj=>by cases as<;>cases hj) q1 fun vs F2 H2 S2 ρ2 xs W Y s2 I2 kp hs r2 _ q2=>?_;obtain⟨F3,s3,I3,tn,k3⟩:=r2.frz s2 I2;have za:∀b,Za b->∃(i:Nat) (s:Sl),i∈vrs a/\ρ2[i]?=some (some s)/\S2 i b:=by
  cases hd:(jAU x n).isD with
  |true =>
   intro b hb;exfalso;generalize jAU x n=t at r1 hd;cases r1 with
   |d r n=>exact n b hb
   |_=>cases hd
  |false =>
   obtain⟨e1,e2⟩:=hs hd;rw[e1,e2];exact z1
 have s13:=s1.trans s3;exact kk v vs F3 H2 S2 ρ2 x n xs Za Y s13 I3 (X.from s13.toStp) (k3 _ _ _ _ (kp _ _ _ r1) fun b hb=>let⟨i,s,_,h2⟩:=za b hb;⟨i,s,h2⟩) za tn q2
noncomputable def ItV(K:QD)(F H:Hp)(Y:AdP):Item->T->Prop
 | .one v,t=>∃Z,Tr K F H false v t Z/\∀b,Z b->Y b
 | .tup vs,t=>∃ds,t=.d (.tuple ds)/\Reps K F vs ds
theorem ItV.mono{Y:AdP}{it:Item}{t:T}(h:ItV K F H Y it t)(e:Same F F1)(k:∀b,Y b->H1 b=H b/\F1 b=none):ItV K F1 H1 Y it t:=by
 cases it with
 |one v=>obtain⟨Z,r,z⟩:=h;exact⟨Z,r.mono e fun b hb=>k b (z b hb),z⟩
 |tup vs=>obtain⟨ts,e1,r⟩:=h;exact⟨ts,e1,r.mono e⟩
theorem jPN{Y:AdP}{st:Bool}{xs:List V}{ts:List T}{Z:AdP}(h:Trs K F H st xs ts Z)(z:∀b,Z b->Y b):Paired (ItV K F H Y) (xs.map .one) ts :=
 Trs.ind (R:=fun _ xs ts Z=>(∀b,Z b->Y b)->Paired (ItV K F H Y) (xs.map .one) ts) (fun _ _=>.nil) (fun h _ _ q ih z=>.cons ⟨_,h.weak,fun b hb=>z b ((q b).mpr (.inl hb))⟩ (ih fun b hb=>z b ((q b).mpr (.inr hb)))) h z
theorem jIC{Y:AdP}{α:Type}(f:α->V)(g:α->D)(h:∀x,Rep K F (f x) (g x)):∀(l:List α),Paired (ItV K F H Y) (l.map fun x=>.one (f x)) (l.map fun x=>T.d (g x))
 |[]=>.nil
 |x::r=>.cons ⟨fun _=>False,.d (h x) fun _ z=>z,fun _ z=>z.elim⟩ (jIC f g h r)
theorem Tr.lsS{st:Bool}{v:V}{t:T}{Z:AdP}{ts:List T}(f:Same F H)(h:Tr K F H st v t Z)(e:t.vw=.ls ts):∃a vs S',v=.ref a/\SqL K H a vs/\Trs K F H false vs ts S'/\(∀b,S' b->Z b)/\∀F' H',Same F F'->Same F' H'->(∀b,Z b->H' b=H b)->SqL K H' a vs:=by
 cases h with
 |d r n =>
  cases r with
  |lst q r=>injection e with e;subst e;exact⟨_,_,_,rfl,f.seq q,Trs.of_reps r,fun b hb=>hb.elim,fun F' H' e1 e2 _=>(e1.trans e2).seq q⟩
  |dct _ _ _=>exact(jDJ e).elim
  |_=>cases e
 |lst h _ r n q=>injection e with e;subst e;exact⟨_,_,_,rfl,SqL.of h,r.weak,fun b hb=>(q b).mpr (.inr hb),fun F' H' _ _ k=>SqL.of ((k _ ((q _).mpr (.inl rfl))).trans h)⟩
 |tup=>cases e
 |dct=>cases e
 |lstF h r n=>injection e with e;subst e;exact⟨_,_,_,rfl,f.seq h,Trs.of_reps r,fun b hb=>hb.elim,fun F' H' e1 e2 _=>(e1.trans e2).seq h⟩
theorem Tr.tpS{st:Bool}{v:V}{t:T}{Z:AdP}{ts:List T}(f:Same F H)(h:Tr K F H st v t Z)(e:t.vw=.tp ts):∃a vs S',v=.ref a/\SqT K H a vs/\Trs K F H false vs ts S'/\(∀b,S' b->Z b)/\∀F' H',Same F F'->Same F' H'->(∀b,Z b->H' b=H b)->SqT K H' a vs:=by
 cases h with
 |d r n =>
  cases r with
  |tup q r=>injection e with e;subst e;exact⟨_,_,_,rfl,f.tupl q,Trs.of_reps r,fun b hb=>hb.elim,fun F' H' e1 e2 _=>(e1.trans e2).tupl q⟩
  |dct _ _ _=>exact(jFL e).elim
  |_=>cases e
 |tup h _ r n q=>injection e with e;subst e;exact⟨_,_,_,rfl,SqT.of h,r.weak,fun b hb=>(q b).mpr (.inr hb),fun F' H' _ _ k=>SqT.of ((k _ ((q _).mpr (.inl rfl))).trans h)⟩
 |lst=>cases e
 |lstF=>cases e
 |dct=>cases e
theorem Tr.seqS{st:Bool}{v:V}{t:T}{Z:AdP}{ts:List T}(f:Same F H)(h:Tr K F H st v t Z)(e:t.vw.seq=some ts):∃a vs sz,v=.ref (Src.adr sz)/\SqS K H sz vs/\(∃S',Trs K F H false vs ts S')/\a=Src.adr sz/\∀F' H',Same F F'->Same F' H'->(∀b,Z b->H' b=H b)->SqS K H' sz vs:=by
 generalize ev:t.vw=w at e;cases w with
 |ls us =>
  cases e;obtain⟨a,vs,S',rfl,hq,rp,_,hs⟩:=h.lsS f ev;exact⟨a,vs,.l a,rfl,hq,⟨S',rp⟩,rfl,hs⟩
 |tp us =>
  cases e;obtain⟨a,vs,S',rfl,hq,rp,_,hs⟩:=h.tpS f ev;exact⟨a,vs,.t a,rfl,hq,⟨S',rp⟩,rfl,hs⟩
 |_=>cases e
theorem jEG:∀(k:List Key),Reps K F (k.map kV) (k.map kD)
 |[]=>.nil
 | .inl i::k=>.cons (.int i) (jEG k)
 | .inr z::k=>.cons (.str z) (jEG k)
theorem jMD{Y:AdP}:∀{kvs:List KE}{ds:List D},jD3 K F kvs->Reps K F (kvs.map (·.2.2)) ds->Paired (ItV K F H Y) (kvs.map fun p=>.tup [.ref p.2.1,p.2.2]) (((kvs.map fun p=>tD p.1).zip ds).map fun p=>T.d (.tuple [p.1,p.2]))
 |[],_,_,.nil=>.nil
 |p::r,_,hk,.cons h t=>by
  simp only[QR,QAK];exact .cons ⟨[_,_],rfl,.cons (.tup (hk p QF) (jEG p.1)) (.cons h .nil)⟩ (jMD (fun p hp=>hk p (QE _ hp)) t)
theorem jMC{Y:AdP}:∀{kvs:List KE},jD3 K F kvs->Paired (ItV K F H Y) (kvs.map fun p=>.one (.ref p.2.1)) ((kvs.map fun p=>tD p.1).map T.d)
 |[],_=>.nil
 |p::r,hk=>.cons ⟨fun _=>False,.d (.tup (hk p QF) (jEG p.1)) fun _ z=>z,fun _ z=>z.elim⟩ (jMC fun p hp=>hk p (QE _ hp))
theorem jJH{Y:AdP}:∀{xs:List V}{ds:List D}(_:Reps K F xs ds) (g:Nat->Int) (n:Nat),Paired (ItV K F H Y) ((xs.zipIdx n).map fun p=>.tup [.int (g p.2),p.1]) ((ds.zipIdx n).map fun p=>T.d (.tuple [.int (g p.2),p.1]))
 |_,_,.nil,g,n=>by simp only[List.zipIdx_nil,w8];exact .nil
 |_,_,.cons h t,g,n=>by
  simp only[List.zipIdx_cons,QR];exact .cons ⟨[_,_],rfl,.cons (.int _) (.cons h .nil)⟩ (jJH t g (n+1))
theorem jEg{ik:ItK}{Y:AdP}{vs:List V}{ts:List T}{RD:List T->Prop}{RR:List Item->(Hp->Prop)->Hp->Prop}(f:Same F H)(ra:Tn K F H Y vs ts)(h:jBP ik (ts.map T.vw) RD)
  (k:∀xs ys st,Paired (ItV K F H Y) xs ys->(∀F' H',Same F F'->Same F' H'->(∀b,Y b->H' b=H b)->st H')->RD ys->RR xs st H):jBm K ik vs H RR:=by
 cases ik with
 |val =>
  rcases h with⟨z,e,h⟩| ⟨us,e,h⟩| ⟨us,e,h⟩| ⟨ks,us,e,h⟩
  ·obtain⟨v,t,Z,rfl,rfl,e,r,_⟩:=ra.one e
   obtain rfl:=r.str e;exact k _ _ _ (jIC (fun c=>.str ⟨#[c]⟩) (fun c=>.str ⟨#[c]⟩) (fun c=>.str _) _) (fun _ _ _ _ _=>trivial) h
  ·obtain⟨v,t,Z,rfl,rfl,e,r,z⟩:=ra.one e
   obtain⟨p,xs,S',rfl,hp,rp,z2,hs⟩:=r.lsS f e;exact .inl ⟨xs,hp,k _ _ _ (jPN rp fun b hb=>z b (z2 b hb)) (fun F' H' e1 e2 q=>hs F' H' e1 e2 fun b hb=>q b (z b hb)) h⟩
  ·obtain⟨v,t,Z,rfl,rfl,e,r,z⟩:=ra.one e
   obtain⟨p,xs,S',rfl,hp,rp,z2,hs⟩:=r.tpS f e;exact .inr (.inl ⟨xs,hp,k _ _ _ (jPN rp fun b hb=>z b (z2 b hb)) (fun F' H' e1 e2 q=>hs F' H' e1 e2 fun b hb=>q b (z b hb)) h⟩)
  ·obtain⟨v,t,Z,rfl,rfl,e1,r1,y1⟩:=ra.one e
   obtain⟨a,o,xs,_,rfl,ha,dk,rp,_,hs⟩:=r1.dc f e1;obtain⟨ep,kvs,rfl,rfl,rfl,h4,_⟩:=dk;exact .inr (.inr ⟨ep,kvs,ha,k _ _ _ (jMC h4) (fun F' H' e1 e2 q=>hs F' H' e1 e2 fun b hb=>q b (y1 b hb)) h⟩)
 |rng1 =>
  obtain⟨j,e,h⟩:=h;obtain⟨v,t,Z,rfl,rfl,e,r,_⟩:=ra.one e;obtain rfl:=r.int e;exact⟨h.1,k _ _ _ (jIC (fun(i:Nat)=>.int (i:Int)) (fun(i:Nat)=>.int (i:Int)) (fun c=>.int _) _) (fun _ _ _ _ _=>trivial) h.2⟩
 |enum =>
  obtain⟨x,us,ds,e,g1,g3,q⟩:=h;obtain⟨v,t,Z,rfl,rfl,e1,r1,y1⟩:=ra.one e;obtain⟨a,xs,sz,rfl,hq,⟨_,rp⟩,_,hs⟩:=r1.seqS f (by rw[e1];exact g1);exact⟨sz,xs,rfl,hq,k _ _ _ (jJH (rp.un g3).1 (fun i=>(i:Int)) 0) (fun F' H' e1 e2 q=>hs F' H' e1 e2 fun b hb=>q b (y1 b hb)) q⟩
 |itm =>
  rcases h with⟨ks,us,ds,e,g3,q⟩| ⟨e,q⟩
  rotate_left
  ·obtain⟨v,t,Z,rfl,rfl,e1,r1,y1⟩:=ra.one e
   obtain⟨_,rp⟩:=r1.sc e1;generalize ed:PyData.dict []=d at rp;cases rp with
   |@dct b a o ks vs ds h q2 r =>
    have ez:ks.zip ds=[]:=by injection ed with ed;exact ed.symm
    have hl:ks.length=ds.length:=by rw[q2.len,Reps.length r]
    have ek:ks=[]:=by
     cases ks with
     |nil=>rfl
     |cons k ks =>
      cases ds with
      |nil=>cases hl
      |cons d ds=>cases ez
    subst ek;have eo:∃ep,o=.dT ep []:=by
     cases b with
     |true =>
      obtain⟨ep,kvs,e1,e2,_⟩:=q2;cases kvs with
      |nil=>exact⟨ep,e1⟩
      |cons p r=>cases e2
     |false =>
      rcases q2 with⟨kvs,n,_,e2,_⟩| ⟨ep,e1,_⟩
      ·cases kvs with
       |nil=>exact absurd rfl n
       |cons p r=>cases e2
      ·exact⟨ep,e1⟩
    obtain⟨ep,rfl⟩:=eo;exact⟨ep,[],f _ _ h,k _ _ _ .nil (fun F' H' e1 e2 _=>e2 _ _ (e1 _ _ h)) q⟩
   |_=>cases ed
  obtain⟨v,t,Z,rfl,rfl,e1,r1,y1⟩:=ra.one e;obtain⟨a,o,xs,_,rfl,ha,dk,rp,_,hs⟩:=r1.dc f e1;obtain⟨ep,kvs,rfl,rfl,rfl,h4,_⟩:=dk;exact⟨ep,kvs,ha,k _ _ _ (jMD h4 (rp.un g3).1) (fun F' H' e1 e2 q=>hs F' H' e1 e2 fun b hb=>q b (y1 b hb)) q⟩
end
noncomputable def jHk(S:Ft)(i:Nat)(Z:AdP):Ft:=fun j=>if j=i then Z else S j
theorem jAW{S:Ft}{i:Nat}{Z:AdP}:jHk S i Z i=Z:=if_pos rfl
theorem jAJ{S:Ft}{i j:Nat}{Z:AdP}(h:j≠i):jHk S i Z j=S j:=if_neg h
theorem jAB{α:Type}{l:List α}{i j:Nat}{x y:α}(h:(l.set i x)[j]?=some y):(i=j/\y=x/\i<l.length)∨(i≠j/\l[j]?=some y):=by
 rw[wG]at h;by_cases e:i=j
 ·subst e
  rw[if_pos rfl]at h;by_cases hl:i<l.length
  ·rw[if_pos hl]at h;cases h;exact .inl ⟨rfl,rfl,hl⟩
  ·rw[if_neg hl]at h;cases h
 ·rw[if_neg e]at h;exact .inr ⟨e,h⟩
theorem jKw{α:Type}{l:List α}{i:Nat}{x:α}(h:i<l.length):(l.set i x)[i]?=some x:=by
 rw[wG,if_pos rfl,if_pos h]
theorem jCX{α:Type}{l:List α}{i j:Nat}{x:α}(h:i≠j):(l.set i x)[j]?=l[j]?:=by
 rw[wG,if_neg h]
section
variable{K:QD}{Γ:Ev}{Ψ:PEv}{E:XE}{EK:XK}{F H F1 H1:Hp}{S S1:Ft}{ρ ρ1:PSt}{σ:St}
theorem Rl.setB(I:Rl K F H S ρ σ)(i:Nat){v:V}{t:T}{Z:AdP}(r:Tr K F H false v t Z)(hz:∀(j:Nat) u,j≠i->ρ[j]?=some (some (.own u))->∀b,Z b->¬ S j b):Rl K F H (jHk S i Z) (ρ.set i (some (.bor t))) (σ.set i (some v)) where
 fh:=I.fh
 len:=by simpa using I.len
 sl:=fun j s h=>by
  rcases jAB h with⟨rfl,e,hl⟩| ⟨hn,h⟩
  ·cases e
   exact⟨v,jKw (by rw[<- I.len];exact hl),by rw[jAW];exact r⟩
  ·rw[jCX hn,jAJ (Q2 hn)]
   exact I.sl j s h
 dj:=fun j k t' s n h1 h2 b hb hk=>by
  rcases jAB h1 with⟨_,e,_⟩| ⟨n1,h1⟩
  ·cases e
  ·rw[jAJ (Q2 n1)]at hb
   rcases jAB h2 with⟨e,_,_⟩| ⟨n2,h2⟩
   ·subst e
    rw[jAW]at hk;exact hz j t' n h1 b hk hb
   ·rw[jAJ (Q2 n2)]at hk
    exact I.dj j k t' s n h1 h2 b hb hk
structure Bd(J:List Nat)(F H:Hp)(S:Ft)(ρ:PSt)(σ:St)(F' H':Hp)(S':Ft)(ρ':PSt)(σ':St):Prop where
 ff:Same F F'
 hh:Same H H'
 fn:∀b,F b=none->F' b≠none->H b=none
 out:∀j,j∉J->ρ'[j]?=ρ[j]?/\S' j=S j/\σ'[j]?=σ[j]?
 inn:∀j t,j∈J->ρ'[j]?≠some (some (.own t))
theorem Bd.U{J:List Nat}{F' H':Hp}{S':Ft}{ρ':PSt}{σ':St}(h:Bd J F H S ρ σ F' H' S' ρ' σ'){b:Addr}(u:U ρ' S' b):L3.U ρ S b:=by
 obtain⟨i,t,h1,h2⟩:=u;by_cases hi:i∈J
 ·exact absurd h1 (h.inn i t hi)
 ·obtain⟨e1,e2,_⟩:=h.out i hi
  rw[e1]at h1;rw[e2]at h2;exact⟨i,t,h1,h2⟩
theorem Bd.dm{J:List Nat}{F' H':Hp}{S':Ft}{ρ':PSt}{σ':St}(h:Bd J F H S ρ σ F' H' S' ρ' σ')(b:Addr)(e:H' b=none):H b=none:=h.hh.free e
theorem jKy{Y:AdP}(hy:∀b,Y b->¬ U ρ S b):∀(is:List Nat) {vs:List V}{ts:List T}{S1:Ft}{ρ1 ρ':PSt}{σ1:St}{J:List Nat},(∀i∈is,i∈J)->Rl K F H S1 ρ1 σ1->(∀b,U ρ1 S1 b->U ρ S b)->Tn K F H Y vs ts->jAq is ts ρ1=some ρ' ->
  ∃σ' S',jAl is vs σ1=some σ'/\Rl K F H S' ρ' σ'/\(∀j,j∉J->ρ'[j]?=ρ1[j]?/\S' j=S1 j/\σ'[j]?=σ1[j]?)/\(∀j t,ρ'[j]?=some (some (.own t))->j∉is/\ρ1[j]?=some (some (.own t)))
 |[],_,_,S1,ρ1,ρ',σ1,J,hJ,I,hu,.nil,h=>by
  simp only[jAq,Qh]at h;subst h;exact⟨σ1,S1,rfl,I,fun _ _=>⟨rfl,rfl,rfl⟩,fun j t h=>⟨(by simp),h⟩⟩
 |[],_,_,_,_,_,_,_,_,_,_,.cons _ _ _,h=>by simp[jAq]at h
 |_::_,_,_,_,_,_,_,_,_,_,_,.nil,h=>by simp[jAq]at h
 |i::is,_,_,S1,ρ1,ρ',σ1,J,hJ,I,hu,.cons (v:=v) (t:=t) (Z:=Z) r z tl,h=>by
  simp only[jAq]at h;have nu:∀b,Z b->¬ U ρ1 S1 b:=fun b hb u=>hy b (z b hb) (hu b u);have I2:=I.setB i r fun j u _ hj b hb hs=>nu b hb ⟨j,u,hj,hs⟩;have hu2:∀b,U (ρ1.set i (some (.bor t))) (jHk S1 i Z) b->U ρ S b:=fun b ⟨j,u,h1,h2⟩=>by
   rcases jAB h1 with⟨_,e,_⟩| ⟨n,h1⟩
   ·cases e
   ·rw[jAJ (Q2 n)]at h2
    exact hu b ⟨j,u,h1,h2⟩
  obtain⟨σ',S',g1,g2,g3,g4⟩:=jKy hy is (fun j hj=>hJ j (QE _ hj)) I2 hu2 tl h;refine⟨σ',S',g1,g2,fun j hj=>?_,fun j u hj=>?_⟩
  ·obtain⟨e1,e2,e3⟩:=g3 j hj
   have n:i≠j:=fun e=>hj (e▸hJ i QF);rw[jCX n]at e1 e3;rw[jAJ (Q2 n)]at e2;exact⟨e1,e2,e3⟩
  ·obtain⟨e1,e2⟩:=g4 j u hj
   rcases jAB e2 with⟨_,e,_⟩| ⟨n,e2⟩
   ·cases e
   ·exact⟨fun m=>(QK.mp m).elim (fun e=>n e.symm) e1,e2⟩
theorem Tn.of_trs{Y:AdP}{st:Bool}{vs:List V}{ts:List T}{Z:AdP}(h:Trs K F H st vs ts Z)(z:∀b,Z b->Y b):Tn K F H Y vs ts :=
 Trs.ind (R:=fun _ vs ts Z=>(∀b,Z b->Y b)->Tn K F H Y vs ts) (fun _ _=>.nil) (fun h _ _ q ih z=>.cons h.weak (fun b hb=>z b ((q b).mpr (.inl hb))) (ih fun b hb=>z b ((q b).mpr (.inr hb)))) h z
theorem jGS{Y:AdP}{tg:Tg}{it:Item}{t:T}{QP:PSt->Prop}{RP:St->Hp->Prop}(I:Rl K F H S ρ σ)(hy:∀b,Y b->¬ U ρ S b)(r:ItV K F H Y it t)(h:jHT tg t ρ QP)
  (k:∀ρ2 σ2 F2 H2 S2,Bd tg.ix F H S ρ σ F2 H2 S2 ρ2 σ2->Rl K F2 H2 S2 ρ2 σ2->QP ρ2->RP σ2 H2):bindI K tg it σ H RP:=by
 have nm:∀(i:Nat) {v:V}{t:T}{Z:AdP}{F2 H2:Hp}{S2:Ft},Same F F2->Same H H2->(∀b,F b=none->F2 b≠none->H b=none)->Rl K F2 H2 S2 ρ σ->S2=S->Tr K F2 H2 false v t Z->(∀b,Z b->¬ U ρ S b)->QP (ρ.set i (some (.bor t)))->tg=.nm i->RP (σ.set i (some v)) H2:=by
  intro i v t Z F2 H2 S2 e1 e2 e3 I2 hS r hz q ht;subst hS ht;refine k _ _ F2 H2 (jHk S2 i Z) ⟨e1,e2,e3,fun j hj=>?_,fun j u hj hu=>?_⟩ (I2.setB i r fun j u _ hj b hb hs=>hz b hb ⟨j,u,hj,hs⟩) q
  ·have n:i≠j:=fun e=>hj (by subst e;exact QJ.mpr rfl)
   exact⟨jCX n,jAJ (Q2 n),jCX n⟩
  ·have e:j=i:=QJ.mp hj
   subst e;rcases jAB hu with⟨_,e,_⟩| ⟨n,_⟩
   ·cases e
   ·exact n rfl
 have tp:∀(is:List Nat) {vs:List V}{ts:List T}{H2:Hp}{ρ':PSt},Same H H2->tg=.tp is->Tn K F H2 Y vs ts->jAq is ts ρ=some ρ'->QP ρ'->∃σ',jAl is vs σ=some σ'/\RP σ' H2:=by
  intro is vs ts H2 ρ' e2 ht r e q;subst ht;obtain⟨σ',S',g1,g2,g3,g4⟩:=jKy hy is (J:=is) (fun i hi=>hi) (I.same e2) (fun b u=>u) r e;exact⟨σ',g1,k _ _ F H2 S' ⟨.refl _,e2,fun b h z=>absurd h z,g3,fun j u hj hu=>(g4 j u hu).1 hj⟩ g2 q⟩
 cases it with
 |one v =>
  obtain⟨Z,r,z⟩:=r;cases tg with
  |nm i=>exact nm i (.refl _) (.refl _) (fun b h z=>absurd h z) I rfl r (fun b hb=>hy b (z b hb)) h rfl
  |tp is =>
   have h2:(match t.vw with | .tp ts=>∃ρ',jAq is ts ρ=some ρ'/\QP ρ'|_=>False):=h;split at h2
   ·rename_i ts e
    obtain⟨ρ',e1,q⟩:=h2;obtain⟨a,vs,S',rfl,hp,rp,z2⟩:=r.tp I.fh e;obtain⟨σ',g1,g2⟩:=tp is (.refl _) rfl (Tn.of_trs rp fun b hb=>z b (z2 b hb)) e1 q;exact⟨vs,σ',hp,g1,g2⟩
   ·exact h2.elim
 |tup vs =>
  obtain⟨ds,rfl,rd⟩:=r;cases tg with
  |nm i =>
   intro p hp;refine nm i (jAs (I.fh.free hp)) (jAs hp) (fun b h1 h2=>?_) (I.newT hp (.tup vs)) rfl (.d (S:=fun _=>False) (.tup (SqT.of jAM) (rd.mono (jAs (I.fh.free hp)))) fun _ z=>z) (fun b z=>z.elim) h rfl;by_cases hb:b=p
   ·rw[hb];exact hp
   ·rw[jAD hb]at h2;exact absurd h1 h2
  |tp is =>
   intro H' s;obtain⟨ρ',e1,q⟩:=h;exact tp is s rfl (Tn.of_trs (Trs.of_reps (st:=false) rd) fun b hb=>hb.elim) e1 q
noncomputable def jVm(k:Nat)(S:Ft):Ft:=fun i=>if i<k then fun _=>False else S (i - k)
theorem jG6:∀(m:List Bool) (ρ:PSt) (i:Nat) s,(jCl m ρ)[i]?=some (some s)->ρ[i]?=some (some s)/\m.getD i false=false
 |[],ρ,i,s,h=>by
  have e:jCl [] ρ=ρ:=by cases ρ<;>rfl
  rw[e]at h;exact⟨h,rfl⟩
 |b::m,[],i,s,h=>by simp[jCl]at h
 |b::m,v::ρ,0,s,h=>by
  cases b with
  |true=>simp[jCl]at h
  |false=>simp[jCl]at h;simp[h]
 |b::m,v::ρ,i+1,s,h=>by
  simp only[jCl,wk]at h;obtain⟨h1,h2⟩:=jG6 m ρ i s h;exact⟨by simpa using h1,by simpa using h2⟩
theorem jG4:∀(m:List Bool) (σ:St) (i:Nat) v,σ[i]?=some (some v)->m.getD i false=false->(jCE m σ)[i]?=some (some v)
 |[],σ,i,v,h,_=>by
  have e:jCE [] σ=σ:=by cases σ<;>rfl
  rw[e];exact h
 |b::m,[],i,v,h,_=>by simp at h
 |b::m,w::σ,0,v,h,hb=>by
  have:b=false:=by simpa using hb
  subst this;simpa[jCE]using h
 |b::m,w::σ,i+1,v,h,hb=>by
  simp only[jCE,wk];exact jG4 m σ i v (by simpa using h) (by simpa using hb)
theorem jG5:∀(m:List Bool) (ρ:PSt),(jCl m ρ).length=ρ.length
 |[],ρ=>by cases ρ<;>rfl
 |_::_,[]=>rfl
 |b::m,v::ρ=>by simp[jCl,jG5 m ρ]
theorem jC9{k:Nat}{mask:List Bool}{ρ:PSt}{i:Nat}{s:Sl}(h:(jM5 k mask ρ)[i]?=some (some s)):k<=i/\ρ[i - k]?=some (some s)/\mask.getD (i - k) false=false:=by
 unfold jM5 at h;rcases QAv i k with z|z
 ·rw[Qr (by simpa using z),wm]at h
  split at h<;>cases h
 ·rw[Qy (by simpa using z)]at h
  simp only[qZ]at h;obtain⟨h1,h2⟩:=jG6 mask ρ _ s h;exact⟨z,h1,h2⟩
theorem Rl.ent(I:Rl K F H S ρ σ)(k:Nat)(mask:List Bool):Rl K F H (jVm k S) (jM5 k mask ρ) (jJW k mask σ) where
 fh:=I.fh
 len:=by simp[jM5,jJW,jG5,jEb,I.len]
 sl:=fun i s h=>by
  obtain⟨h0,h1,h2⟩:=jC9 h;obtain⟨v,g1,g2⟩:=I.sl _ s h1;refine⟨v,?_,?_⟩
  ·unfold jJW
   rw[Qy (by simpa using h0)];simp only[qZ];exact jG4 mask σ _ v g1 h2
  ·unfold jVm
   rw[if_neg (by omega)];exact g2
 dj:=fun i j t s n h1 h2 b hb hj=>by
  obtain⟨a0,a1,_⟩:=jC9 h1;obtain⟨b0,b1,_⟩:=jC9 h2;unfold jVm at hb hj;rw[if_neg (by omega)]at hb hj;exact I.dj (i - k) (j - k) t s (by omega) a1 b1 b hb hj
theorem jMY{k:Nat}{mask:List Bool}{S':Ft}(b:Addr):¬ U (jM5 k mask (lockA ρ)) S' b:=fun⟨i,t,h,_⟩=>by
 obtain⟨_,h1,_⟩:=jC9 h;obtain⟨_,_,e⟩:=jAj h1;cases e
theorem Paired.get_of{α β:Type}{R:α->β->Prop}{xs:List α}{ys:List β}(h:Paired R xs ys):∀{i:Nat}{x:α},xs[i]?=some x->∃y,ys.drop i=y::ys.drop (i+1)/\R x y:=by
 induction h with
 |nil=>intro i x e;simp at e
 |@cons x y xs ys h t ih =>
  intro i z e;cases i with
  |zero=>simp at e;subst e;exact⟨y,by simp,h⟩
  |succ i =>
   obtain⟨y',h1,h2⟩:=ih (i:=i) (by simpa using e);exact⟨y',by simpa using h1,h2⟩
structure Pur(F H F' H':Hp):Prop where
 ff:Same F F'
 hh:Same H H'
 fn:∀b,F b=none->F' b≠none->H b=none
theorem Pur.trans{F2 H2:Hp}(a:Pur F H F1 H1)(b:Pur F1 H1 F2 H2):Pur F H F2 H2:=⟨a.ff.trans b.ff,a.hh.trans b.hh,fun x h z=>by
 by_cases q:F1 x=none
 ·exact a.hh.free (b.fn x q z)
 ·exact a.fn x h q⟩
theorem Pur.ste(p:Pur F H F1 H1):Ste F H S ρ F1 H1 S ρ:=⟨⟨p.ff,fun b u h _=>p.hh b u h,fun b h=>p.hh.free h,fun b h z=>.inr (p.fn b h z),fun b h=>.inl h,fun _ _ h _=>⟨h,rfl⟩⟩,fun _ t h=>⟨t,h⟩⟩
theorem Pur.rl(p:Pur F H F1 H1)(f:Same F1 H1)(I:Rl K F H S ρ σ):Rl K F1 H1 S ρ σ:=⟨f,I.len,fun i s e=>by
 obtain⟨v,h1,h2⟩:=I.sl i s e;exact⟨v,h1,h2.mono p.ff fun b hb=>by
  obtain⟨d1,d2⟩:=h2.dom b hb;refine⟨?_,?_⟩
  ·cases e:H b with
   |none=>exact absurd e d1
   |some u=>exact p.hh b u e
  ·by_cases q:F1 b=none
   ·exact q
   ·exact absurd (p.fn b d2 q) d1⟩,I.dj⟩
theorem Stp.pur{S':Ft}{ρ':PSt}(s:Stp F H S ρ F1 H1 S' ρ')(n:∀b,¬ U ρ S b):Pur F H F1 H1:=⟨s.ff,fun b u h=>s.hh b u h (n b),fun b h z=>(s.fn b h z).elim (fun q=>absurd q (n b)) id⟩
theorem Pur.trs(p:Pur F H F1 H1){st:Bool}{v:List V}{t:List T}{Z:AdP}(h:Trs K F H st v t Z):Trs K F1 H1 st v t Z:=h.mono p.ff fun b hb=>by
  obtain⟨d1,d2⟩:=h.dom b hb;refine⟨?_,?_⟩
  ·cases e:H b with
   |none=>exact absurd e d1
   |some u=>exact p.hh b u e
  ·by_cases q:F1 b=none
   ·exact q
   ·exact absurd (p.fn b d2 q) d1
theorem jOP{ws:List Nat}{mask:List Bool}{k0:Nat}{tg:Tg}{c:PSt->(Bool->PSt->Prop)->Prop}{e:PSt->TK->Prop}{tc:TT}{te:TE}{us:List Nat}
  (ic:∀{F H:Hp}{S:Ft}{ρ:PSt}{σ:St}{Q:Bool->PSt->Prop}{R:Bool->Hp->Prop},Rl K F H S ρ σ->c ρ Q->jFJ K F H S ρ σ Q R->tc σ H R)
  (ie:∀{F H:Hp}{S:Ft}{ρ:PSt}{σ:St}{Q:TK}{R:VK},Rl K F H S ρ σ->e ρ Q->jBT K us F H S ρ σ Q R->te σ H R)
  {F0 H0:Hp}{S0:Ft}{ρ0:PSt}(s:Ste F0 H0 S0 ρ0 F H S ρ) (I:Rl K F H S ρ σ) {Y:AdP}{xs:List Item}{ys:List T}{st:Hp->Prop}(pr:Paired (ItV K F H Y) xs ys) (hyd:∀b,Y b->H b≠none/\F b=none) (hst:∀F' H',Same F F'->Same F' H'->(∀b,Y b->H' b=H b)->st H') {Q:TK}{R:VK}
  (h:jCm (jDB tg (jM5 k0 mask (lockA ρ)) c e) ys [] fun ys=>Q (.lst ys) true ρ) (k:jBT K ws F0 H0 S0 ρ0 σ Q R) :
  jOe K xs st tg tc te (jJW k0 mask σ) H R:=by
 refine jOR ?_;have len:=qS pr;have yk:∀{F' H':Hp},Pur F H F' H'->∀b,Y b->H' b=H b/\F' b=none:=fun {F' H'} p b hb=>by
  obtain⟨d1,d2⟩:=hyd b hb;refine⟨?_,?_⟩
  ·cases e:H b with
   |none=>exact absurd e d1
   |some u=>exact p.hh b u e
  ·by_cases q:F' b=none
   ·exact q
   ·exact absurd (p.fn b d2 q) d1
 refine⟨fun i acc H'=>∃F' dacc W,Pur F H F' H'/\Same F' H'/\Trs K F' H' true acc dacc W/\(∀b,W b->H b=none)/\jCm (jDB tg (jM5 k0 mask (lockA ρ)) c e) (ys.drop i) dacc fun ys=>Q (.lst ys) true ρ,
  ⟨F,[],fun _=>False,⟨.refl _,.refl _,fun b h z=>absurd h z⟩,I.fh,.nil fun _ z=>z,fun _ z=>z.elim,by simpa using h⟩,?_,?_,?_⟩
 ·rintro i acc H' _ ⟨F',dacc,W,p,f,_,_,_⟩
  exact hst F' H' p.ff f fun b hb=>(yk p b hb).1
 ·rintro i x acc H1 hx ⟨F1,dacc,W,p1,f1,ra,hw,hc⟩
  obtain⟨y,hd,ry⟩:=Paired.get_of pr hx;rw[hd]at hc;unfold jCm at hc;unfold jDB at hc;have I1:Rl K F1 H1 (jVm k0 S) (jM5 k0 mask (lockA ρ)) (jJW k0 mask σ):=((p1.rl f1 I).lockA).ent k0 mask;refine jGS I1 (fun b _=>jMY b) (ry.mono p1.ff (yk p1)) hc fun ρ2 σ2 F2 H2 S2 bd I2 hc=>?_;have p2:Pur F1 H1 F2 H2:=⟨bd.ff,bd.hh,bd.fn⟩
  have nu2:∀b,¬ U ρ2 S2 b:=fun b u=>jMY b (bd.U u);refine ic I2 hc fun b F3 H3 S3 ρ3 s3 I3 q=>?_;have p3:Pur F2 H2 F3 H3:=s3.toStp.pur nu2;have nu3:∀b,¬ U ρ3 S3 b:=fun b ⟨j,t,h1,_⟩=>by
   obtain⟨t0,h0⟩:=s3.ow j t h1;by_cases hj:j∈tg.ix
   ·exact bd.inn j t0 hj h0
   ·rw[(bd.out j hj).1]at h0
    obtain⟨_,h1,_⟩:=jC9 h0;obtain⟨_,_,e⟩:=jAj h1;cases e
  have p123:=p1.trans (p2.trans p3);cases b with
  |false=>exact⟨F3,dacc,W,p123,I3.fh,p3.trs (p2.trs ra),hw,q⟩
  |true =>
   refine ie I3 q fun v F4 H4 S4 ρ4 z n Z s4 I4 r4 ⟨hk,hl,hc⟩=>?_;have p4:Pur F3 H3 F4 H4:=s4.toStp.pur nu3;have ra4:=p4.trs (p3.trs (p2.trs ra));have rz:∃Z',Tr K F4 H4 true v z Z'/\∀b,Z' b->H3 b=none:=by
    cases n with
    |true=>exact⟨Z,r4.tr,fun b hb=>(r4.fr rfl b hb).elim id fun u=>absurd u (nu3 b)⟩
    |false =>
     cases z with
     |d x =>
      have tr:=r4.tr;cases tr with
      |d r n=>exact⟨fun _=>False,.d r fun _ z=>z,fun _ z=>z.elim⟩
     |_=>exact absurd hk (by simp[esc,T.isD])
   obtain⟨Z',rz,fz⟩:=rz;refine⟨by rw[ra.length];exact hl,F4,_,fun b=>W b∨Z' b,p123.trans p4,I4.fh,ra4.append (Trs.one rz) fun b hb hz=>?_,fun b hb=>?_,hc⟩
   ·have q1:=(ra.dom b hb).1
    exact q1 ((p2.trans p3).hh.free (fz b hz))
   ·rcases hb with hb|hb
    ·exact hw b hb
    ·exact p123.hh.free (fz b hb)
 ·rintro acc H' ⟨F',dacc,W,p,f,ra,hw,hc⟩
  rw[len,List.drop_length]at hc;unfold jCm at hc;have I':=p.rl f I;refine⟨by rw[ra.length];exact hc.1,fun q hq=>?_⟩;refine jBT.list (k.from s) (p.ste) I' hq ra (fun b hb=>.inl (hw b hb)) ⟨ra.dom,fun i sl hi b hb z=>?_⟩ hc.2;exact(I.dom hi z).1 (hw b hb)
end
section
variable{K:QD}{Γ:Ev}{Ψ:PEv}{E:XE}{EK:XK}{F H F1 H1:Hp}{S S1:Ft}{ρ ρ1:PSt}{σ:St}
theorem Tr.shal{v:V}{u t:T}{Z:AdP}(h:Tr K F H false v u Z)(e:jEP u=some t):Tr K F H false v t Z:=by
 unfold jEP at e;split at e
 ·rename_i ts ev
  cases ed:unD ts with
  |none=>rw[ed]at e;cases e
  |some ds =>
   rw[ed]at e;injection e with e
   subst e;cases h with
   |d r n =>
    cases r with
    |lst q r =>
     injection ev with ev
     subst ev;rw[jAN]at ed;injection ed with ed
     subst ed;exact .lstF q r n
    |dct _ _ _=>exact(jDJ ev).elim
    |_=>cases ev
   |lst h1 h2 h3 h4 h5 =>
    injection ev with ev
    subst ev;show Tr K F H false _ (.lst (ds.map T.d)) Z;rw[<- jFt ed];exact .lst h1 h2 h3 h4 h5
   |tup=>cases ev
   |dct=>cases ev
   |lstF h1 h2 h3 =>
    injection ev with ev
    subst ev;rw[jAN]at ed;injection ed with ed
    subst ed;exact .lstF h1 h2 h3
 ·split at e
  ·injection e with e;subst e;exact h
  ·cases e
theorem AV.pass{Y:AdP}{md:List Md}{vs:List V}{xs:List (T×Bool)}{W:AdP}(h:AV K F H md vs xs W Y)(e:Same F F1)(k:∀b,W b->F1 b=H b)(k2:∀b,Y b->F b=none->F1 b=none) :
  ∀{os ts:List T},jAb md xs os=some ts->ArgsR K F1 H Y md vs ts/\jBO md ts=os:=by
 induction h with
 |nil h =>
  intro os ts hp;cases os with
  |nil=>simp only[jAb,Qh]at hp;subst hp;exact⟨.nil,rfl⟩
  |cons _ _=>simp[jAb]at hp
 |@chg md v vs x xs W Y h t ih =>
  intro os ts hp;have hm:md.headD .fro=.chg:=by
   generalize md.headD .fro=m at h;cases m<;>first|rfl|cases h
  unfold jAb at hp;rw[hm]at hp;cases os with
  |nil=>cases hp
  |cons o os =>
   cases ep:jAb md.tail xs os with
   |none=>simp only[ep,wg]at hp;cases hp
   |some us =>
    simp only[ep,Q8,Qh]at hp;subst hp;obtain⟨h1,h2⟩:=ih k k2 ep;refine⟨.chg hm h1,?_⟩;unfold jBO;rw[hm];simp only[h2]
 |@new md v vs x xs Z W W' Y h r t n q ih =>
  intro os ts hp;have r':Tr K F1 H false v (.d x.er) (fun _=>False):=.d (r.kept e fun b u hb eu=>by rw[k b ((q b).mpr (.inl hb))];exact eu) fun _ z=>z;have ihk:=@ih (fun b hb=>k b ((q b).mpr (.inr hb))) k2;unfold jAb at hp;cases hm:md.headD .fro with
  |chg=>rw[hm]at h;cases h
  |fro =>
   simp only[hm,jAU]at hp;cases ep:jAb md.tail xs os with
   |none=>simp only[ep,wg]at hp;cases hp
   |some us =>
    simp only[ep,Q8,Qh]at hp;subst hp;obtain⟨h1,h2⟩:=ihk ep;exact⟨.rd (by rw[hm];simp) r' (fun _ z=>z.elim) h1,by unfold jBO;rw[hm];exact h2⟩
  |shal =>
   simp only[hm,jAU]at hp;cases es:jEP (.d x.er) with
   |none=>simp only[es]at hp;cases hp
   |some u =>
    simp only[es]at hp;cases ep:jAb md.tail xs os with
    |none=>simp only[ep,wg]at hp;cases hp
    |some us =>
     simp only[ep,Q8,Qh]at hp;subst hp;obtain⟨h1,h2⟩:=ihk ep;exact⟨.rd (by rw[hm];simp) (r'.shal es) (fun _ z=>z.elim) h1,by unfold jBO;rw[hm];exact h2⟩
  |bor =>
   simp only[hm,jAU]at hp;cases ep:jAb md.tail xs os with
   |none=>simp only[ep,wg]at hp;cases hp
   |some us =>
    simp only[ep,Q8,Qh]at hp;subst hp;obtain⟨h1,h2⟩:=ihk ep;exact⟨.rd (by rw[hm];simp) r' (fun _ z=>z.elim) h1,by unfold jBO;rw[hm];exact h2⟩
 |@tmp md v vs x xs Z W Y h r z t ih =>
  intro os ts hp;have r':Tr K F1 H false v x Z:=r.mono e fun b hb=>⟨rfl,k2 b (z b hb) (r.dom b hb).2⟩
  have ihk:=@ih k k2;unfold jAb at hp;cases hm:md.headD .fro with
  |chg=>rw[hm]at h;cases h
  |fro =>
   simp only[hm,jAU]at hp;cases x with
   |d x =>
    cases ep:jAb md.tail xs os with
    |none=>simp only[ep,wg]at hp;cases hp
    |some us =>
     simp only[ep,Q8,Qh]at hp;subst hp;obtain⟨h1,h2⟩:=ihk ep;exact⟨.rd (by rw[hm];simp) r' z h1,by unfold jBO;rw[hm];exact h2⟩
   |_=>cases hp
  |shal =>
   simp only[hm,jAU]at hp;cases es:jEP x with
   |none=>simp only[es]at hp;cases hp
   |some u =>
    simp only[es]at hp;cases ep:jAb md.tail xs os with
    |none=>simp only[ep,wg]at hp;cases hp
    |some us =>
     simp only[ep,Q8,Qh]at hp;subst hp;obtain⟨h1,h2⟩:=ihk ep;exact⟨.rd (by rw[hm];simp) (r'.shal es) z h1,by unfold jBO;rw[hm];exact h2⟩
  |bor =>
   simp only[hm,jAU]at hp;cases ep:jAb md.tail xs os with
   |none=>simp only[ep,wg]at hp;cases hp
   |some us =>
    simp only[ep,Q8,Qh]at hp;subst hp;obtain⟨h1,h2⟩:=ihk ep;exact⟨.rd (by rw[hm];simp) r' z h1,by unfold jBO;rw[hm];exact h2⟩
theorem jBq:∀(J:List Nat) (ρ:PSt) (i:Nat) s,(clear J ρ)[i]?=some (some s)->i∉J/\ρ[i]?=some (some s)
 |[],ρ,i,s,h=>⟨(by simp),h⟩
 |j::J,ρ,i,s,h=>by
  unfold clear at h;obtain⟨h1,h2⟩:=jBq J _ i s h;rcases jAB h2 with⟨_,e,_⟩| ⟨n,h3⟩
  ·cases e
  ·exact⟨fun m=>(QK.mp m).elim (fun e=>n e.symm) h1,h3⟩
theorem jHK:∀(J:List Nat) (ρ:PSt),(clear J ρ).length=ρ.length
 |[],_=>rfl
 |j::J,ρ=>by unfold clear;rw[jHK J];simp
theorem Rl.drop(I:Rl K F H S ρ σ)(hl:ρ1.length=ρ.length)(h:∀(i:Nat) s,ρ1[i]?=some (some s)->ρ[i]?=some (some s)):Rl K F H S ρ1 σ :=
 ⟨I.fh,hl.trans I.len,fun i s e=>I.sl i s (h i s e),fun i j t s n e1 e2=>I.dj i j t s n (h i _ e1) (h j _ e2)⟩
theorem jBx:∀{J:List Nat}{ρ:PSt}{os:List T},jAg J ρ=some os->os.length=J.length/\∀(i:Nat) j,J[i]?=some j->∃t,os[i]?=some t/\ρ[j]?=some (some (.own t))
 |[],ρ,os,h=>by simp only[jAg,Qh]at h;subst h;exact⟨rfl,fun i j e=>by simp at e⟩
 |j::J,ρ,os,h=>by
  unfold jAg at h;split at h
  ·rename_i t e
   cases eo:jAg J ρ with
   |none=>rw[eo]at h;cases h
   |some us =>
    rw[eo]at h;injection h with h
    subst h;obtain⟨h1,h2⟩:=jBx eo;refine⟨by simp[h1],fun i k hk=>?_⟩;cases i with
    |zero=>simp at hk;subst hk;exact⟨t,rfl,e⟩
    |succ i =>
     obtain⟨u,g1,g2⟩:=h2 i k (by simpa using hk);exact⟨u,by simpa using g1,g2⟩
  ·cases h
theorem Rl.trs(I:Rl K F H S ρ σ):∀{J:List Nat}{os:List T}{vs:List V},J.Nodup->jAg J ρ=some os->vs.map (fun v=>some (some v))=J.map (fun j=>σ[j]?)->Trs K F H true vs os (fun b=>∃j∈J,S j b)
 |[],os,vs,_,h,hv=>by
  simp only[jAg,Qh]at h;subst h;cases vs with
  |nil=>exact .nil fun b ⟨j,hj,_⟩=>by simp at hj
  |cons _ _=>simp at hv
 |j::J,os,vs,nd,h,hv=>by
  unfold jAg at h;split at h
  ·rename_i t e
   cases eo:jAg J ρ with
   |none=>rw[eo]at h;cases h
   |some us =>
    rw[eo]at h;injection h with h
    subst h;cases vs with
    |nil=>simp at hv
    |cons v vs =>
     simp only[QR,W7]at hv;obtain⟨v',g1,g2⟩:=I.sl j _ e;rw[g1]at hv;have:v=v':=by simpa using hv.1
     subst this;have nd':=Qf.mp nd;refine .cons g2 (Rl.trs I nd'.2 eo hv.2) (fun b hb ⟨k,hk,z⟩=>?_) fun b=>?_
     ·obtain⟨i,hi⟩:=Wn.mp hk
      obtain⟨u,_,hu⟩:=(jBx eo).2 i k hi;exact I.dj j k t _ (fun z=>nd'.1 (z▸hk)) e hu b hb z
     ·constructor
      ·rintro⟨k,hk,z⟩
       rcases QK.mp hk with e|e
       ·subst e;exact .inl z
       ·exact .inr ⟨k,e,z⟩
      ·rintro(z|⟨k,hk,z⟩)
       ·exact⟨j,QF,z⟩
       ·exact⟨k,QE _ hk,z⟩
  ·cases h
theorem Rl.setO(I:Rl K F H S ρ σ)(i:Nat){v:V}{t:T}{Z:AdP}(hv:σ[i]?=some (some v))(r:Tr K F H true v t Z)(hz:∀(j:Nat) s,j≠i->ρ[j]?=some (some s)->∀b,Z b->¬ S j b):Rl K F H (jHk S i Z) (ρ.set i (some (.own t))) σ where
 fh:=I.fh
 len:=by simpa using I.len
 sl:=fun j s h=>by
  rcases jAB h with⟨rfl,e,hl⟩| ⟨hn,h⟩
  ·cases e
   exact⟨v,hv,by rw[jAW];exact r⟩
  ·rw[jAJ (Q2 hn)]
   exact I.sl j s h
 dj:=fun j k t' s n h1 h2 b hb hk=>by
  rcases jAB h1 with⟨e,_,_⟩| ⟨n1,h1⟩
  ·subst e
   rw[jAW]at hb;rcases jAB h2 with⟨e,_,_⟩| ⟨n2,h2⟩
   ·exact n e
   ·rw[jAJ (Q2 n2)]at hk
    exact hz k s (Q2 n2) h2 b hb hk
  ·rw[jAJ (Q2 n1)]at hb
   rcases jAB h2 with⟨e,_,_⟩| ⟨n2,h2⟩
   ·subst e
    rw[jAW]at hk;exact hz j _ n h1 b hk hb
   ·rw[jAJ (Q2 n2)]at hk
    exact I.dj j k t' s n h1 h2 b hb hk
theorem jFV:∀{J:List Nat}{os:List T}{vs:List V}{M:AdP}{S1:Ft}{ρ1 ρ2:PSt},J.Nodup->Rl K F H S1 ρ1 σ->Trs K F H true vs os M->vs.map (fun v=>some (some v))=J.map (fun j=>σ[j]?)->Held F H S1 ρ1 M->jBL J os ρ1=some ρ2 ->
  ∃S2,Rl K F H S2 ρ2 σ/\(∀i,i∉J->ρ2[i]?=ρ1[i]?/\S2 i=S1 i)/\∀i∈J,∀s,ρ2[i]?=some (some s)->(∃t,s=.own t)/\∀b,S2 i b->M b
 |[],os,vs,M,S1,ρ1,ρ2,nd,I,r,hv,hm,h=>by
  cases os with
  |nil=>simp only[jBL,Qh]at h;subst h;exact⟨S1,I,fun _ _=>⟨rfl,rfl⟩,fun i hi=>by simp at hi⟩
  |cons _ _=>simp[jBL]at h
 |j::J,os,vs,M,S1,ρ1,ρ2,nd,I,r,hv,hm,h=>by
  cases r with
  |nil _=>simp[jBL]at h
  |@cons _ v t vs ts _ Z M' r1 r2 n q =>
   simp only[jBL]at h;simp only[QR,W7]at hv;have nd':=Qf.mp nd;have I2:=I.setO j hv.1.symm r1 fun k s _ hk b hb=>hm.nw k s hk b ((q b).mpr (.inl hb));have hm2:Held F H (jHk S1 j Z) (ρ1.set j (some (.own t))) M':=⟨fun b hb=>hm.dom b ((q b).mpr (.inr hb)),fun i s hi b hb z=>by
    rcases jAB hi with⟨rfl,_,_⟩| ⟨ne,hi⟩
    ·rw[jAW]at z;exact n b z hb
    ·rw[jAJ (Q2 ne)]at z;exact hm.nw i s hi b ((q b).mpr (.inr hb)) z⟩
   obtain⟨S2,g1,g2,g3⟩:=jFV nd'.2 I2 r2 hv.2 hm2 h;refine⟨S2,g1,fun i hi=>?_,fun i hi s hs=>?_⟩
   ·have ni:j≠i:=fun e=>hi (e▸QF)
    obtain⟨e1,e2⟩:=g2 i fun m=>hi (QE _ m);rw[jCX ni]at e1;rw[jAJ (Q2 ni)]at e2;exact⟨e1,e2⟩
   ·rcases QK.mp hi with e|e
    ·subst e
     obtain⟨e1,e2⟩:=g2 i nd'.1;rw[e1]at hs;rcases jAB hs with⟨_,e,_⟩| ⟨ne,_⟩
     ·injection e with e
      refine⟨⟨t,e⟩,fun b hb=>?_⟩;rw[e2,jAW]at hb;exact(q b).mpr (.inl hb)
     ·exact absurd rfl ne
    ·obtain⟨h1,h2⟩:=g3 i e s hs
     exact⟨h1,fun b hb=>(q b).mpr (.inr (h2 b hb))⟩
theorem jRu{f:Str}{as:PX}(g:GOk K Γ Ψ)(ia:PSnd K Γ Ψ as)(I:Rl K F H S ρ σ)(X:XOk K F H S ρ E EK){Q:TK}{R:VK}{ws:List Nat}(h:(pe Ψ (.call f as) E).e ρ Q)(k:jBT K ws F H S ρ σ Q R):(wp K Γ (.call f as) EK).e σ H R:=by
 obtain⟨os,ho,nd,h⟩:=h;generalize hJ:jAC (Ψ.sp f).md as=J at ho nd h;have own:∀j∈J,∃t,ρ[j]?=some (some (.own t)):=fun j hj=>by
  obtain⟨i,hi⟩:=Wn.mp hj;obtain⟨t,_,e⟩:=(jBx ho).2 i j hi;exact⟨t,e⟩
 have I0:Rl K F H S (clear J ρ) σ:=I.drop (jHK J ρ) fun i s e=>(jBq J ρ i s e).2;have u0:∀b,U (clear J ρ) S b->U ρ S b:=fun b ⟨i,t,h1,h2⟩=>⟨i,t,(jBq J ρ i _ h1).2,h2⟩
 have X0:XOk K F H S (clear J ρ) E EK:=fun x dx F2 H2 S2 ρ2 s2 ff r q=>X x dx F2 H2 (fun _ _=>False) [] ⟨s2.ff,fun b u e n=>s2.hh b u e fun z=>n (u0 b z),s2.dm,fun b e z=>(s2.fn b e z).imp (u0 b) id,fun b ⟨i,t,e,_⟩=>by simp at e,fun j t e=>by simp at e⟩ ff r q;have hm:∀j∈jAC (Ψ.sp f).md as,∃v,σ[j]?=some (some v):=fun j hj=>by
  obtain⟨t,e⟩:=own j (hJ▸hj);obtain⟨v,h1,_⟩:=I.sl j _ e;exact⟨v,h1⟩
 show(wp K Γ as EK).a σ H fun vs H1=>Γ.sp f vs H1 R EK;refine ia.a I0 X0 hm h fun vs F1 H1 S1 ρ1 xs W Y s1 I1 r1 mv q1=>?_;rw[hJ]at mv;obtain⟨ts,hp,q1⟩:=q1;have hw:=r1.held;have s2:=s1.frz (fun b hb=>(hw.dom b hb).2) r1.fr;have I2:=I1.frz hw;have yk:∀b,Y b->F1 b=none->jJS F1 H1 W b=none:=fun b hy hf=>by
  obtain⟨i,sl,_,h2,h3⟩:=r1.tm b hy;rw[jBK fun z=>r1.nw i sl h2 b z h3];exact hf
 obtain⟨ar,mt⟩:=r1.av.pass (jDa fun b hb=>(hw.dom b hb).2) (fun b hb=>jEi hb) yk hp;generalize jJS F1 H1 W=F2 at s2 I2 yk ar;have M0:=I.trs nd ho mv;have hM:Held F H S (clear J ρ) (fun b=>∃j∈J,S j b):=⟨fun b ⟨j,hj,hb⟩=>let⟨t,e⟩:=own j hj;I.dom e hb,fun i s e b ⟨j,hj,hb⟩ z=>by
  obtain⟨e1,e2⟩:=jBq J ρ i s e;obtain⟨t,et⟩:=own j hj;exact I.dj j i t s (fun q=>e1 (q▸hj)) et e2 b hb z⟩
 have hM2:=hM.step s2.toStp I2;have M2:Trs K F2 H1 true (jA0 (Ψ.sp f).md vs) (jBO (Ψ.sp f).md ts) (fun b=>∃j∈J,S j b):=by
  rw[mt];refine M0.mono s2.ff fun b hb=>?_;refine⟨?_,(hM2.dom b hb).2⟩;cases e:H b with
  |none=>exact absurd e (hM.dom b hb).1
  |some u=>exact s2.hh b u e (hM.nu b hb)
 refine g.sp f vs H1 R EK ⟨F2,ts,_,Y,I2.fh,ar,M2,fun b hy hb=>?_,?_⟩
 ·obtain⟨i,sl,_,h2,h3⟩:=r1.tm b hy
  exact hM2.nw i sl h2 b hb h3
 ·have up:∀b,(∃j∈J,S j b)->U ρ S b:=fun b ⟨j,hj,hb⟩=>let⟨t,e⟩:=own j hj;⟨j,t,e,hb⟩
  have lk:∀b,(∃j∈J,S j b)∨H1 b=none->U ρ S b∨H b=none:=fun b hb=>hb.imp (up b) (s2.dm b);refine(Ψ.sp f).mono ?_ ?_ q1
  rotate_left
  ·rintro x qx dx F' H' fm xr
   refine X x dx F' H' (fun _ _=>False) [] ⟨s2.ff.trans fm.ff,fun b u e n=>fm.hh b u (s2.hh b u e fun z=>n (u0 b z)) fun z=>n (up b z),fun b e=>s2.dm b (fm.dm b e),fun b e z=>?_,fun b ⟨i,t,e,_⟩=>by simp at e,fun j t e=>by simp at e⟩ fm.fh xr qx;by_cases q:F2 b=none
   ·exact lk b (fm.fn b q z)
   ·exact(s2.fn b e q).imp (u0 b) id
  rintro r os' ⟨ρ2,hput,q⟩ v F' H' Z M' fm tr trs dz hf;have I3:Rl K F' H' S1 ρ1 σ:=⟨fm.fh,I2.len,fun i s e=>by
   obtain⟨w,g1,g2⟩:=I2.sl i s e;refine⟨w,g1,g2.mono fm.ff fun b hb=>?_⟩;obtain⟨d1,d2⟩:=g2.dom b hb;have nM:¬ ∃j∈J,S j b:=fun z=>hM2.nw i s e b z hb;refine⟨?_,?_⟩
   ·cases e:H1 b with
    |none=>exact absurd e d1
    |some u=>exact fm.hh b u e nM
   ·by_cases z:F' b=none
    ·exact z
    ·exact((fm.fn b d2 z).elim nM d1).elim,I2.dj⟩
  have nw3:∀b,(∃j∈J,S j b)∨H1 b=none->∀(i:Nat) s,ρ1[i]?=some (some s)->¬ S1 i b:=fun b hb i s e z=>by
   rcases hb with hb|hb
   ·exact hM2.nw i s e b hb z
   ·exact(I2.dom e z).1 hb
  have hM':Held F' H' S1 ρ1 M':=⟨trs.dom,fun i s e b hb=>nw3 b (hf b (.inr hb)) i s e⟩
  obtain⟨S2,I4,g2,g3⟩:=jFV nd I3 trs mv hM' hput;have inJ:∀i s,ρ2[i]?=some (some s)->(i∈J/\(∃t,s=.own t)/\∀b,S2 i b->M' b)∨(i∉J/\ρ1[i]?=some (some s)/\S2 i=S1 i):=fun i s e=>by
   by_cases hi:i∈J
   ·exact .inl ⟨hi,g3 i hi s e⟩
   ·obtain⟨e1,e2⟩:=g2 i hi
    exact .inr ⟨hi,e1▸e,e2⟩
  have st:Ste F H S ρ F' H' S2 ρ2:=⟨⟨s2.ff.trans fm.ff,fun b u e n=>fm.hh b u (s2.hh b u e fun z=>n (u0 b z)) fun z=>n (up b z),fun b e=>s2.dm b (fm.dm b e),fun b e z=>by
    by_cases q:F2 b=none
    ·exact lk b (fm.fn b q z)
    ·exact(s2.fn b e q).imp (u0 b) id,
   fun b ⟨i,t,h1,h2⟩=>by
    rcases inJ i _ h1 with⟨_,_,e⟩| ⟨_,e1,e2⟩
    ·exact lk b (hf b (.inr (e b h2)))
    ·rw[e2]at h2
     exact(s2.uu b ⟨i,t,e1,h2⟩).imp (u0 b) id,
   fun j t e hd=>by
    rcases inJ j _ e with⟨_,⟨t',z⟩,_⟩| ⟨_,e1,e2⟩
    ·cases z
    ·obtain⟨b1,b2⟩:=s2.bo j t e1 hd
     exact⟨(jBq J ρ j _ b1).2,e2.trans b2⟩⟩,
   fun j t e=>by
    rcases inJ j _ e with⟨hj,_,_⟩| ⟨_,e1,e2⟩
    ·exact own j hj
    ·obtain⟨t0,e0⟩:=s2.ow j t e1
     exact⟨t0,(jBq J ρ j _ e0).2⟩⟩
  refine k v F' H' S2 ρ2 r true Z st I4 ⟨tr,fun _ b hb=>?_,fun z=>(by cases z),fun _ i s e b hb z=>?_⟩ q
  ·exact(lk b (hf b (.inl hb))).symm
  ·rcases inJ i s e with⟨_,_,e2⟩| ⟨_,e1,e2⟩
   ·exact dz b hb (e2 b z)
   ·rw[e2]at z
    exact nw3 b (hf b (.inl hb)) i s e1 z
end
section
variable{K:QD}{Γ:Ev}{Ψ:PEv}{E:XE}{EK:XK}{F H F1 H1:Hp}{S S1:Ft}{ρ ρ1:PSt}{σ:St}
theorem jA7{j:Nat}{t:T}(hj:ρ[j]?=some (some (.own t))){i:Nat}{s:Sl}(h:(ρ.set j (some (.bor t)))[i]?=some (some s)):(i=j/\s=.bor t)∨(i≠j/\ρ[i]?=some (some s)):=by
 rcases jAB h with⟨rfl,e,_⟩| ⟨n,h⟩
 ·injection e with e;exact .inl ⟨rfl,e⟩
 ·exact .inr ⟨Q2 n,h⟩
theorem Rl.lock1(I:Rl K F H S ρ σ){j:Nat}{t:T}(hj:ρ[j]?=some (some (.own t))):Rl K F H S (ρ.set j (some (.bor t))) σ where
 fh:=I.fh
 len:=by simpa using I.len
 sl:=fun i s e=>by
  rcases jA7 hj e with⟨rfl,rfl⟩| ⟨_,e⟩
  ·obtain⟨v,h1,h2⟩:=I.sl i _ hj
   exact⟨v,h1,h2.weak⟩
  ·exact I.sl i s e
 dj:=fun i k t' s n e1 e2=>by
  rcases jA7 hj e1 with⟨_,z⟩| ⟨n1,g1⟩
  ·cases z
  ·rcases jA7 hj e2 with⟨q,_⟩| ⟨_,g2⟩
   ·exact I.dj i k t' _ n g1 (q▸hj)
   ·exact I.dj i k t' s n g1 g2
theorem Rl.lock1U(I:Rl K F H S ρ σ){j:Nat}{t:T}(hj:ρ[j]?=some (some (.own t)))(b:Addr)(hb:S j b):¬ U (ρ.set j (some (.bor t))) S b:=fun⟨i,u,h1,h2⟩=>by
 rcases jA7 hj h1 with⟨_,z⟩| ⟨n,h1⟩
 ·cases z
 ·exact I.dj i j u _ n h1 hj b h2 hb
theorem lock1U{j:Nat}{t:T}(hj:ρ[j]?=some (some (.own t))){b:Addr}(h:U (ρ.set j (some (.bor t))) S b):U ρ S b:=by
 obtain⟨i,u,h1,h2⟩:=h;rcases jA7 hj h1 with⟨_,z⟩| ⟨n,h1⟩
 ·cases z
 ·exact⟨i,u,h1,h2⟩
theorem XOk.lock1{j:Nat}{t:T}(X:XOk K F H S ρ E EK)(hj:ρ[j]?=some (some (.own t))):XOk K F H S (ρ.set j (some (.bor t))) E EK:=fun x dx F2 H2 S2 ρ2 s2 f r q =>
 X x dx F2 H2 (fun _ _=>False) [] ⟨s2.ff,fun b u e n=>s2.hh b u e fun z=>n (lock1U hj z),s2.dm,fun b e z=>(s2.fn b e z).imp (lock1U hj) id,fun b ⟨i,t,e,_⟩=>by simp at e,fun j t e=>by simp at e⟩ f r q
theorem jJC{j:Nat}{t:T}{F2 H2:Hp}{S2:Ft}{ρ2:PSt}(I:Rl K F H S ρ σ)(hj:ρ[j]?=some (some (.own t)))(s:Ste F H S (ρ.set j (some (.bor t))) F2 H2 S2 ρ2)(I2:Rl K F2 H2 S2 ρ2 σ){b:Addr}(hb:S j b) :
  ∀(i:Nat) sl,i≠j->ρ2[i]?=some (some sl)->¬ S2 i b:=fun i sl n e z=>by
 cases sl with
 |own u =>
  rcases s.uu b ⟨i,u,e,z⟩ with q|q
  ·exact I.lock1U hj b hb q
  ·exact(I.dom hj hb).1 q
 |bor u =>
  cases hd:u.isD with
  |true=>exact I2.isD e hd z
  |false =>
   obtain⟨e1,e2⟩:=s.bo i u e hd;rw[e2]at z;rcases jA7 hj e1 with⟨q,_⟩| ⟨_,e1⟩
   ·exact n q
   ·exact I.dj j i t _ (Q2 n) hj e1 b hb z
theorem jEC{j:Nat}{t t':T}{v0:V}{F2 H2 H3:Hp}{S2:Ft}{ρ2:PSt}{W Z':AdP}(I:Rl K F H S ρ σ)(hj:ρ[j]?=some (some (.own t)))(hv:σ[j]?=some (some v0))(s:Ste F H S (ρ.set j (some (.bor t))) F2 H2 S2 ρ2)(I2:Rl K F2 H2 S2 ρ2 σ)
  (hH:∀b u,H2 b=some u->¬ S j b->H3 b=some u) (dm:∀b,H3 b=none->H2 b=none) (r:Tr K F2 H3 true v0 t' Z') (hz:∀b,Z' b->S j b∨W b∨H2 b=none) (hw:Held F2 H2 S2 ρ2 W) (frW:∀b,W b->H b=none∨U (ρ.set j (some (.bor t))) S b) :
  Ste F H S ρ F2 H3 (jHk S2 j Z') (ρ2.set j (some (.own t')))/\Rl K F2 H3 (jHk S2 j Z') (ρ2.set j (some (.own t'))) σ/\∀b,S j b∨W b∨H2 b=none->∀(i:Nat) sl,i≠j->ρ2[i]?=some (some sl)->¬ S2 i b:=by
 have nw:∀b,S j b∨W b∨H2 b=none->∀(i:Nat) sl,i≠j->ρ2[i]?=some (some sl)->¬ S2 i b:=fun b hb i sl n e z=>by
  rcases hb with hb|hb|hb
  ·exact jJC I hj s I2 hb i sl n e z
  ·exact hw.nw i sl e b hb z
  ·exact(I2.dom e z).1 hb
 have uj:∀b,S j b->U ρ S b:=fun b hb=>⟨j,t,hj,hb⟩
 have lk:∀b,S j b∨W b∨H2 b=none->U ρ S b∨H b=none:=fun b hb=>by
  rcases hb with hb|hb|hb
  ·exact .inl (uj b hb)
  ·exact(frW b hb).symm.imp (lock1U hj) id
  ·exact .inr (s.dm b hb)
 have fS:∀b,S j b->F2 b=none:=fun b hb=>by
  by_cases q:F2 b=none
  ·exact q
  ·rcases s.fn b (I.dom hj hb).2 q with z|z
   ·exact absurd z (I.lock1U hj b hb)
   ·exact absurd z (I.dom hj hb).1
 have fh:Same F2 H3:=fun b u e=>hH b u (I2.fh b u e) fun z=>by rw[fS b z]at e;cases e
 have I3:Rl K F2 H3 S2 (ρ2.set j none) σ:=⟨fh,by simpa using I2.len,fun i sl e=>by
   rcases jAB e with⟨_,z,_⟩| ⟨n,e⟩
   ·cases z
   ·obtain⟨v,h1,h2⟩:=I2.sl i sl e
    refine⟨v,h1,h2.mono (.refl _) fun b hb=>⟨?_,(h2.dom b hb).2⟩⟩;cases eb:H2 b with
    |none=>exact absurd eb (h2.dom b hb).1
    |some u=>exact hH b u eb fun z=>jJC I hj s I2 z i sl (Q2 n) e hb,
  fun i k u sl n e1 e2=>by
   rcases jAB e1 with⟨_,z,_⟩| ⟨_,e1⟩
   ·cases z
   ·rcases jAB e2 with⟨_,z,_⟩| ⟨_,e2⟩
    ·cases z
    ·exact I2.dj i k u sl n e1 e2⟩
 have I4:=I3.setO j hv r fun i sl n e b hb=>by
  rcases jAB e with⟨_,z,_⟩| ⟨_,e⟩
  ·cases z
  ·exact nw b (hz b hb) i sl n e
 have es:(ρ2.set j none).set j (some (.own t'))=ρ2.set j (some (.own t')):=by simp
 rw[es]at I4;refine⟨⟨⟨s.ff,fun b u e n=>hH b u (s.hh b u e fun z=>n (lock1U hj z)) fun z=>n (uj b z),fun b e=>s.dm b (dm b e),fun b e z=>(s.fn b e z).imp (lock1U hj) id,fun b ⟨i,u,h1,h2⟩=>?_,fun i u e hd=>?_⟩,fun i u e=>?_⟩,I4,nw⟩
 ·rcases jAB h1 with⟨rfl,_,_⟩| ⟨n,h1⟩
  ·rw[jAW]at h2
   exact lk b (hz b h2)
  ·rw[jAJ (Q2 n)]at h2
   exact(s.uu b ⟨i,u,h1,h2⟩).imp (lock1U hj) id
 ·rcases jAB e with⟨rfl,z,_⟩| ⟨n,e⟩
  ·cases z
  ·obtain⟨e1,e2⟩:=s.bo i u e hd
   rcases jA7 hj e1 with⟨z,_⟩| ⟨_,e1⟩
   ·exact absurd z.symm n
   ·exact⟨e1,by rw[jAJ (Q2 n)];exact e2⟩
 ·rcases jAB e with⟨rfl,_,_⟩| ⟨n,e⟩
  ·exact⟨t,hj⟩
  ·obtain⟨t0,e0⟩:=s.ow i u e
   rcases jA7 hj e0 with⟨_,z⟩| ⟨_,e0⟩
   ·cases z
   ·exact⟨t0,e0⟩
theorem Trs.erase{st:Bool}{vs:List V}{ts:List T}{S:AdP}{k:Nat}{t:T}(h:Trs K F H st vs ts S)(e:ts[k]?=some t):∃v P1 P2,vs[k]?=some v/\Tr K F H st v t P1/\Trs K F H st (vs.eraseIdx k) (ts.eraseIdx k) P2/\(∀b,P1 b->¬ P2 b)/\∀b,P1 b∨P2 b->S b:=by
 revert k
 refine Trs.ind (R:=fun st vs ts S=>∀{k:Nat},ts[k]?=some t->∃v P1 P2,vs[k]?=some v/\Tr K F H st v t P1/\Trs K F H st (vs.eraseIdx k) (ts.eraseIdx k) P2/\(∀b,P1 b->¬ P2 b)/\∀b,P1 b∨P2 b->S b) (fun n k e=>by cases e) (fun {_ _ _ _ _ _ P0 _} h t n q ih k e=>?_) h;cases k with
 |zero=>cases e;exact⟨_,_,_,rfl,h,t,n,fun b hb=>(q b).mpr hb⟩
 |succ k =>
  obtain⟨v,P1,P2,h1,h2,h3,h4,h5⟩:=ih (k:=k) e;refine⟨v,P1,fun b=>P0 b∨P2 b,h1,h2,.cons h h3 (fun b hb z=>n b hb (h5 b (.inr z))) fun b=>WY,fun b hb z=>z.elim (fun z=>n b z (h5 b (.inl hb))) (h4 b hb),fun b hb=>(q b).mpr ?_⟩;rcases hb with hb|hb|hb
  ·exact .inr (h5 b (.inl hb))
  ·exact .inl hb
  ·exact .inr (h5 b (.inr hb))
theorem jEE{α:Type}:∀{l:List α}{k:α},l.Nodup->¬ k∈l->(l++[k]).Nodup
 |[],k,_,_=>by simp
 |a::r,k,h,hk=>by
  obtain⟨h1,h2⟩:=Qf.mp h;show(a::(r++[k])).Nodup;refine Qf.mpr ⟨fun m=>?_,jEE h2 fun m=>hk (QK.mpr (Or.inr m))⟩;rcases Qd.mp m with q|q
  ·exact h1 q
  ·exact hk (QK.mpr (Or.inl (QJ.mp q).symm))
theorem jIN{a:Addr}{ys:List V}{us:List T}{P:AdP}(fa:F a=none)(r:Trs K F H true ys us P)(n:¬ P a):Tr K F (upd H a (.lst ys)) true (.ref a) (.lst us) fun b=>b=a∨P b :=
 .lst (S':=P) jAM fa (r.mono (.refl _) fun b hb=>⟨jAD fun z=>n (z▸hb),(r.dom b hb).2⟩) n fun b=>WY
theorem jB8{a:Addr}{u0:HO}{Sp:AdP}(ha:Sp a)(b:Addr)(u:HO)(e:H b=some u)(hb:¬ Sp b):upd H a u0 b=some u:=by
 have hn:b≠a:=fun z=>hb (by rw[z];exact ha);rw[jAD hn];exact e
theorem jA2{a:Addr}{u0:HO}(b:Addr)(e:upd H a u0 b=none):H b=none:=by
 by_cases hb:b=a
 ·rw[hb,jAM]at e;cases e
 ·rw[jAD hb]at e;exact e
theorem jRD{m:Mt}{v:V}{s:T}{Sp W:AdP}{vs:List V}{ts:List T}{N:T->T->Prop}{R:VK}(f:Same F H)(r:Tr K F H true v s Sp)(rv:Trs K F H true vs ts W)(dj:∀b,Sp b->¬ W b)(h:jNy m s ts N)
  (k:∀w r s' H' S1 Zr,(∀b u,H b=some u->¬ Sp b->H' b=some u)->(∀b,H' b=none->H b=none)->Tr K F H' true v s' S1->Tr K F H' true w r Zr->(∀b,Zr b->¬ S1 b)->(∀b,S1 b∨Zr b->Sp b∨W b∨H b=none)->N r s'->R w H'):mtR K m v vs H R:=by
 cases m with
 |append =>
  obtain⟨us0,t0,rfl,rfl,h⟩:=h;cases r with
  |@lst _ a xs _ _ S' h1 h2 h3 h4 h5 =>
   have ha:Sp a:=(h5 a).mpr (.inl rfl);cases rv with
   |@cons _ w t ws us _ W1 W2 r1 r2 n q =>
    cases r2 with
    |nil n2 =>
     have hW:∀b,W b↔W1 b:=fun b=>by rw[q b];simp[n2 b]
     refine⟨a,xs,w,rfl,rfl,h1,by rw[h3.length];exact h.1,k .non (.d .none) _ _ _ (fun _=>False) (jB8 ha) jA2 (jIN h2 (Trs.append h3 (Trs.one r1) fun b hb hw=>dj b ((h5 b).mpr (.inr hb)) ((hW b).mpr hw)) fun z=>z.elim h4 fun z=>dj a ha ((hW a).mpr z)) (.d .non fun _ z=>z) (fun _ z=>z.elim) (fun b hb=>?_) h.2⟩;rcases hb with(hb|hb|hb)|hb
     ·exact .inl (hb▸ha)
     ·exact .inl ((h5 b).mpr (.inr hb))
     ·exact .inr (.inl ((hW b).mpr hb))
     ·exact hb.elim
 |pop =>
  obtain⟨us0,i,j,t0,rfl,rfl,hi,ht,q⟩:=h;cases r with
  |@lst _ a xs _ _ S' h1 h2 h3 h4 h5 =>
   have ha:Sp a:=(h5 a).mpr (.inl rfl);obtain⟨w,P1,P2,g1,g2,g3,g4,g5⟩:=h3.erase ht;have na:¬ P1 a:=fun z=>h4 (g5 a (.inl z));have nb:¬ P2 a:=fun z=>h4 (g5 a (.inr z));cases rv with
   |cons r1 r2 n q2 =>
    cases r2;cases r1 with
    |d r1 n1 =>
     cases r1;refine⟨a,i,xs,j,w,rfl,rfl,h1,by rw[h3.length];exact hi,g1,k w t0 _ _ _ P1 (jB8 ha) jA2 (jIN h2 g3 nb) (g2.mono (.refl _) fun b hb=>⟨jAD fun z=>na (z▸hb),(g2.dom b hb).2⟩) (fun b hb z=>?_) (fun b hb=>?_) q⟩
     ·rcases z with z|z
      ·exact na (z▸hb)
      ·exact g4 b hb z
     ·rcases hb with(hb|hb)|hb
      ·exact .inl (hb▸ha)
      ·exact .inl ((h5 b).mpr (.inr (g5 b (.inr hb))))
      ·exact .inl ((h5 b).mpr (.inr (g5 b (.inl hb))))
 |_=>exact h.elim
theorem Trs.setD{x:D}{xv:V}(rx:Rep K F xv x){vs:List V}{ts:List T}{S:AdP}(n:Nat)(h:Trs K F H true vs ts S):∃P,Trs K F H true (vs.set n xv) (ts.set n (.d x)) P/\∀b,P b->S b:=by
 revert n
 refine Trs.ind (R:=fun st vs ts S=>∀n:Nat,∃P,Trs K F H st (vs.set n xv) (ts.set n (.d x)) P/\∀b,P b->S b) (fun {_ S} z n=>⟨S,.nil z,fun _ h=>h⟩) (fun {_ _ _ _ _ _ S1 S2} h t m q ih n=>?_) h;cases n with
 |zero=>exact⟨S2,.cons (S1:=fun _=>False) (.d rx fun _ z=>z) t (fun _ z=>z.elim) fun b=>by simp,fun b hb=>(q b).mpr (.inr hb)⟩
 |succ n =>
  obtain⟨P,h1,h2⟩:=ih n;exact⟨fun b=>S1 b∨P b,.cons h h1 (fun b hb z=>m b hb (h2 b z)) fun b=>WY,fun b hb=>(q b).mpr (hb.imp id (h2 b))⟩
theorem Trs.part{vs:List V}{ts:List T}{S:AdP}{i:Nat}{t:T}(h:Trs K F H true vs ts S)(e:ts[i]?=some t):∃v S1,vs[i]?=some v/\Tr K F H true v t S1/\(∀b,S1 b->S b) /\
  ∀(H':Hp) t' S1',(∀b,S b->¬ S1 b->H' b=H b)->Tr K F H' true v t' S1'->(∀b,S1' b->S1 b)->∃P,Trs K F H' true vs (ts.set i t') P/\∀b,P b->S b:=by
 revert i
 refine Trs.ind (R:=fun st vs ts S=>∀{i:Nat},ts[i]?=some t->∃v S1,vs[i]?=some v/\Tr K F H st v t S1/\(∀b,S1 b->S b)/\∀(H':Hp) t' S1',(∀b,S b->¬ S1 b->H' b=H b)->Tr K F H' st v t' S1'->(∀b,S1' b->S1 b)->∃P,Trs K F H' st vs (ts.set i t') P/\∀b,P b->S b) (fun n i e=>by cases e) (fun {_ _ _ _ _ _ P1 P2} h t n q ih i e=>?_) h;cases i with
 |zero =>
  cases e;exact⟨_,P1,rfl,h,fun b hb=>(q b).mpr (.inl hb),fun H' t' S1' k r k2=>⟨fun b=>S1' b∨P2 b,.cons r (t.mono (.refl _) fun b hb=>⟨k b ((q b).mpr (.inr hb)) fun z=>n b z hb,(t.dom b hb).2⟩) (fun b hb z=>n b (k2 b hb) z) fun b=>WY,fun b hb=>(q b).mpr (hb.imp (k2 b) id)⟩⟩
 |succ i =>
  obtain⟨v,S1,h1,h2,h3,h4⟩:=ih (i:=i) e;refine⟨v,S1,h1,h2,fun b hb=>(q b).mpr (.inr (h3 b hb)),fun H' t' S1' k r k2=>?_⟩;obtain⟨P,g1,g2⟩:=h4 H' t' S1' (fun b hb hn=>k b ((q b).mpr (.inr hb)) hn) r k2;exact⟨fun b=>P1 b∨P b,.cons (h.mono (.refl _) fun b hb=>⟨k b ((q b).mpr (.inl hb)) fun z=>n b hb (h3 b z),(h.dom b hb).2⟩) g1 (fun b hb z=>n b hb (g2 b z)) fun b=>WY,fun b hb=>(q b).mpr (hb.imp id (g2 b))⟩
noncomputable def ksP(ks:List D)(k:D):List D:=match jAG ks k with
 |some _=>ks
 |none=>ks++[k]
noncomputable def vsP{α:Type}(ks:List D)(vs:List α)(k:D)(x:α):List α:=match jAG ks k with
 |some n=>vs.set n x
 |none=>vs++[x]
theorem jHt{α β:Type}[DecidableEq α](k:α)(key:β->α)(f:β->β)(hf:∀p,key (f p)=key p):∀(l:List β) (n:Nat),(l.map key).Nodup->(l.map key)[n]?=some k->(∀(g:β->V) (x:V),(∀p,key p=k->g (f p)=x)->(l.map fun p=>if key p=k then f p else p).map g=(l.map g).set n x)
 |[],n,_,e=>by simp at e
 |p::r,0,nd,e=>by
  intro g x hg;have e:key p=k:=by simpa using e
  rw[QR]at nd;obtain⟨n1,n2⟩:=Qf.mp nd;have e2:(r.map fun p=>if key p=k then f p else p)=r:=by
   rw[show r=r.map id from(List.map_id r).symm,Qq];refine WQ fun q hq=>?_;have:key q≠k:=fun z=>n1 (Qg.mpr ⟨q,by simpa using hq,z.trans e.symm⟩);simp[this]
  rw[QR,e2,QR,QR,if_pos e,hg p e]
  rfl
 |p::r,n+1,nd,e=>by
  intro g x hg;rw[QR]at nd;obtain⟨n1,n2⟩:=Qf.mp nd;have e:(r.map key)[n]?=some k:=by simpa using e
  have np:¬ key p=k:=fun z=>n1 (by rw[z];exact qC e);rw[QR,QR,QR,if_neg np,jHt k key f hf r n n2 e g x hg]
  rfl
theorem put_keys{α β γ:Type}[DecidableEq α](k:α)(key:β->α)(f:β->β)(g:β->γ)(hg:∀p,g (f p)=g p)(l:List β):(l.map fun p=>if key p=k then f p else p).map g=l.map g:=by
 rw[Qq];refine WQ fun p _=>?_;show g (if key p=k then f p else p)=g p;split
 ·exact hg p
 ·rfl
theorem DKo.put{a:Addr}{b:Bool}{o:HO}{ks:List D}{vs:List V}{k:D}{iv xv:V}{R:Hp->Prop}(f:Same F H)(ha:H a=some o)(dk:DKo K F b o ks vs)(ry:Rep K F iv k)(hk:jFH b k)(hl:ks.length<sizeLine)
  (kk:∀o',DKo K F b o' (ksP ks k) (vsP ks vs k xv)->R (upd H a o')):jOx K (.ref a) iv xv H R:=by
 cases b with
 |true =>
  obtain⟨ep,kvs,rfl,rfl,rfl,h4,h5⟩:=dk;obtain⟨q,rfl⟩:=hk;cases ry with
  |@tup p _ _ hq rq =>
   cases jCw rq;refine⟨ep,kvs,q,ha,fun p hp=>f.tupl (h4 p hp),f.tupl hq,by simpa using hl,fun ep'=>kk _ ?_⟩;have vf:=jCs q kvs;unfold jLH ksP vsP;cases e:jAG (kvs.map fun p=>tD p.1) (tD q) with
   |none =>
    rw[e]at vf;have vf:jHi kvs q=none:=vf;rw[vf];refine⟨ep',kvs++[(q,p,xv)],rfl,by simp,by simp,fun x hx=>?_,?_⟩
    ·rcases Qd.mp hx with hx|hx
     ·exact h4 x hx
     ·rw[QJ.mp hx];exact hq
    ·rw[Qe]
     refine jEE h5 fun m=>jA1.mp e ?_;obtain⟨x,hx,ex⟩:=Qg.mp m;exact Qg.mpr ⟨x,hx,by rw[ex]⟩
   |some n =>
    rw[e]at vf;have hn:=jB1 e;have hn2:(kvs.map (·.1))[n]?=some q:=by
     rw[QY]at hn ⊢;cases en:kvs[n]? with
     |none=>rw[en]at hn;cases hn
     |some x =>
      rw[en]at hn;rw[Q8,Qh]at hn ⊢;exact jOm hn
    have hs:(jHi kvs q).isSome=true:=by
     rw[vf];have:n<kvs.length:=by
      have:=(Qa.mp hn2).1;simpa using this
     simp[this]
    rw[if_pos hs];refine⟨ep',_,rfl,(put_keys q (·.1) (fun p=>(p.1,p.2.1,xv)) (fun p=>tD p.1) (fun _=>rfl) kvs).symm,(jHt q (·.1) (fun p=>(p.1,p.2.1,xv)) (fun _=>rfl) kvs n h5 hn2 (·.2.2) xv fun _ _=>rfl).symm,fun x hx=>?_,?_⟩
    ·obtain⟨y,hy,ey⟩:=Qg.mp hx
     have hy:=h4 y hy;by_cases z:y.1=q
     ·rw[if_pos z]at ey;subst ey;exact hy
     ·rw[if_neg z]at ey;subst ey;exact hy
    ·have:=put_keys q (·.1) (fun p:KE=>(p.1,p.2.1,xv)) (·.1) (fun _=>rfl) kvs
     rw[this];exact h5
 |false =>
  obtain⟨z,rfl⟩:=hk;cases ry;rcases dk with⟨kvs,hne,rfl,rfl,rfl,h5⟩| ⟨ep,rfl,rfl,rfl⟩
  rotate_left
  ·exact .inr ⟨ep,ha,kk _ (.inl ⟨[(.inr z,xv)],by simp,rfl,rfl,rfl,by simp⟩)⟩
  refine .inl ⟨kvs,ha,by simpa using hl,kk _ (.inl ?_)⟩;have vf:=jEK (.inr z) kvs;have ez:kD (.inr z)=.str z:=rfl;rw[ez]at vf;unfold jQO ksP vsP;rw[jIf];cases e:jAG (kvs.map fun p=>kD p.1) (.str z) with
  |none =>
   rw[e]at vf;have vf:jKd kvs (.inr z)=none:=vf;rw[vf];refine⟨kvs++[(.inr z,xv)],by simp,rfl,by simp[ez],by simp,?_⟩;rw[Qe];refine jEE h5 fun m=>jA1.mp e ?_;obtain⟨x,hx,ex⟩:=Qg.mp m;exact Qg.mpr ⟨x,hx,by rw[ex];rfl⟩
  |some n =>
   rw[e]at vf;have hn:=jB1 e;have hn2:(kvs.map (·.1))[n]?=some (.inr z):=by
    rw[QY]at hn ⊢;cases en:kvs[n]? with
    |none=>rw[en]at hn;cases hn
    |some x =>
     rw[en]at hn;rw[Q8,Qh]at hn ⊢;exact jMB hn
   have hs:(jKd kvs (.inr z)).isSome=true:=by
    rw[vf];have:n<kvs.length:=by
     have:=(Qa.mp hn2).1;simpa using this
    simp[this]
   rw[if_pos hs];refine⟨_,by simpa using hne,rfl,(put_keys (.inr z) (·.1) (fun p=>(p.1,xv)) (fun p=>kD p.1) (fun _=>rfl) kvs).symm,(jHt (.inr z) (·.1) (fun p=>(p.1,xv)) (fun _=>rfl) kvs n h5 hn2 (·.2) xv fun _ _=>rfl).symm,?_⟩;have:=put_keys (.inr z) (·.1) (fun p:Key×V=>(p.1,xv)) (·.1) (fun _=>rfl) kvs;rw[this];exact h5
theorem jIO{a:Addr}{b:Bool}{o:HO}{ks:List D}{ys:List V}{us:List T}{P:AdP}(fa:F a=none)(dk:DKo K F b o ks ys)(r:Trs K F H true ys us P)(n:¬ P a):Tr K F (upd H a o) true (.ref a) (.dct b ks us) fun b=>b=a∨P b :=
 .dct (S':=P) jAM dk fa (r.mono (.refl _) fun b hb=>⟨jAD fun z=>n (z▸hb),(r.dom b hb).2⟩) n fun b=>WY
theorem jOp{s:T}{y x:D}{v iv xv:V}{Sp:AdP}{N:T->Prop}{R:Hp->Prop}(f:Same F H)(r:Tr K F H true v s Sp)(ry:Rep K F iv y)(rx:Rep K F xv x)(h:stT s y x N)
  (k:∀s' H' S1,(∀b u,H b=some u->¬ Sp b->H' b=some u)->(∀b,H' b=none->H b=none)->Tr K F H' true v s' S1->(∀b,S1 b->Sp b)->N s'->R H'):jOx K v iv xv H R:=by
 cases s with
 |lst ts =>
  cases y with
  |int i =>
   obtain⟨n,hn,q⟩:=h;cases ry;cases r with
   |@lst _ a xs _ _ S' h1 h2 h3 h4 h5 =>
    have ha:Sp a:=(h5 a).mpr (.inl rfl);obtain⟨P,g1,g2⟩:=h3.setD rx n;refine⟨xs,n,h1,by rw[h3.length];exact hn,k _ _ _ (jB8 ha) jA2 (jIN h2 g1 fun z=>h4 (g2 a z)) (fun b hb=>?_) q⟩;rcases hb with hb|hb
    ·exact hb▸ha
    ·exact(h5 b).mpr (.inr (g2 b hb))
  |_=>exact h.elim
 |dct b ks ts =>
  obtain⟨hk,hl,q⟩:=h;cases r with
  |@dct _ _ a o _ vs _ _ S' h1 dk h2 h3 h4 h5 =>
   have ha:Sp a:=(h5 a).mpr (.inl rfl);refine dk.put f h1 ry hk hl fun o' dk'=>?_;unfold ksP vsP at dk';unfold jM0 at q;cases e:jAG ks y with
   |some n =>
    rw[e]at dk' q;obtain⟨P,g1,g2⟩:=h3.setD rx n;refine k _ _ _ (jB8 ha) jA2 (jIO h2 dk' g1 fun z=>h4 (g2 a z)) (fun b hb=>?_) q;rcases hb with hb|hb
    ·exact hb▸ha
    ·exact(h5 b).mpr (.inr (g2 b hb))
   |none =>
    rw[e]at dk' q;have g1:=Trs.append h3 (Trs.one (Tr.d (S:=fun _=>False) rx fun _ z=>z)) fun _ _ z=>z;refine k _ _ _ (jB8 ha) jA2 (jIO h2 dk' g1 fun z=>z.elim h4 id) (fun b hb=>?_) q;rcases hb with hb|hb|hb
    ·exact hb▸ha
    ·exact(h5 b).mpr (.inr hb)
    ·exact hb.elim
 |_=>exact h.elim
theorem DKo.vs_inj{F':Hp}{b:Bool}{o:HO}{ks ks':List D}{vs vs':List V}(h:DKo K F b o ks vs)(h':DKo K F' b o ks' vs'):vs=vs':=by
 cases b with
 |true =>
  obtain⟨ep,kvs,e,_,rfl,_⟩:=h;obtain⟨ep',kvs',e',_,rfl,_⟩:=h';rw[e]at e';cases e'
  rfl
 |false =>
  rcases h with⟨kvs,_,e,_,rfl,_⟩| ⟨ep,e,_,rfl⟩<;>rcases h' with⟨kvs',_,e',_,rfl,_⟩| ⟨ep',e',_,rfl⟩<;>rw[e]at e'<;>cases e'<;>rfl
theorem jP3{F0:Hp}{a:Addr}{b:Bool}{o:HO}{ks:List D}{vs:List V}{ts:List T}{n:Nat}{s:T}{w:V}{y x:D}{iv xv:V}{Sp:AdP}{N:T->Prop}{R:Hp->Prop}(f:Same F H)(r:Tr K F H true (.ref a) (.dct b ks ts) Sp)(ho:H a=some o)(dk0:DKo K F0 b o ks vs)(hw:vs[n]?=some w)(ht:ts[n]?=some s)
  (ry:Rep K F iv y) (rx:Rep K F xv x) (h:stT s y x N)
  (k:∀s' H' S1,(∀b u,H b=some u->¬ Sp b->H' b=some u)->(∀b,H' b=none->H b=none)->Tr K F H' true (.ref a) (.dct b ks (ts.set n s')) S1->(∀b,S1 b->Sp b)->N s'->R H'):jOx K w iv xv H R:=by
 cases r with
 |@dct _ _ a o' _ vs' _ _ S' h1 dk h2 h3 h4 h5 =>
  rw[ho]at h1;cases h1;cases dk0.vs_inj dk;have ha:Sp a:=(h5 a).mpr (.inl rfl);obtain⟨w',S1,g1,g2,g3,g4⟩:=h3.part ht;rw[hw]at g1;cases g1;refine jOp f g2 ry rx h fun s' H' S1' hh dm rs sub q2=>?_;have keep:∀b,¬ S1 b->H b≠none->H' b=H b:=fun b hb hn=>by
   cases e:H b with
   |none=>exact absurd e hn
   |some u=>exact hh b u e hb
  have na:¬ S1 a:=fun z=>h4 (g3 a z);obtain⟨P,p1,p2⟩:=g4 H' s' S1' (fun b hb hn=>keep b hn (h3.dom b hb).1) rs sub;refine k _ H' (fun b=>b=a∨P b) (fun b u e hb=>hh b u e fun z=>hb ((h5 b).mpr (.inr (g3 b z)))) dm (.dct (S':=P) ((keep a na (by rw[ho];simp)).trans ho) dk h2 p1 (fun z=>h4 (p2 a z)) fun b=>WY) (fun b hb=>?_) q2;rcases hb with hb|hb
  ·exact hb▸ha
  ·exact(h5 b).mpr (.inr (p2 b hb))
theorem jSc{t:T}{y:D}{v iv:V}{p:Addr}{Sp:AdP}{N:T->Prop}{R:Hp->Prop}(f:Same F H)(hp:H p=none)(r:Tr K F H true v t Sp)(ry:Rep K F iv y)(h:jWD y t N)
  (k:∀s' H' S1,(∀b u,H b=some u->¬ Sp b->H' b=some u)->(∀b,H' b=none->H b=none)->Tr K F H' true v s' S1->(∀b,S1 b->Sp b∨b=p)->N s'->R H'):jFz K v [iv,.ref p] (upd H p (.dT 0 [])) fun _ H'=>R H':=by
 obtain⟨ks,ts,rfl,hk,hl,h⟩:=h;cases r with
 |@dct _ _ a o _ vs _ _ S' h1 dk h2 h3 h4 h5 =>
  have ha:Sp a:=(h5 a).mpr (.inl rfl);obtain⟨ep,kvs,rfl,rfl,rfl,d4,d5⟩:=dk;obtain⟨q,rfl⟩:=hk;have ap:a≠p:=jAI h1 hp;have fp:F p=none:=f.free hp;have sm:Same H (upd H p (.dT 0 [])):=jAs hp;cases ry with
  |@tup c _ _ hq rq =>
   cases jCw rq;have vf:=jCs q kvs;refine⟨a,c,.ref p,ep,kvs,q,rfl,rfl,(jAD ap).trans h1,fun x hx=>(f.trans sm).tupl (d4 x hx),(f.trans sm).tupl hq,by simpa using hl,fun u eu=>?_,fun en ep'=>?_⟩
   ·rcases h with⟨n,e,q⟩| ⟨e,q⟩
    ·have r0:Tr K F H true (.ref a) (.dct true (kvs.map fun p=>tD p.1) ts) Sp:=.dct h1 ⟨ep,kvs,rfl,rfl,rfl,d4,d5⟩ h2 h3 h4 h5
     refine k _ _ Sp (fun b u e _=>sm b u e) (fun b e=>jA2 b e) (r0.mono (.refl _) fun b hb=>⟨jAD fun z=>(r0.dom b hb).1 (by rw[z];exact hp),(r0.dom b hb).2⟩) (fun b hb=>.inl hb) q
    ·rw[e]at vf
     rw[vf]at eu;cases eu
   ·rcases h with⟨n,e,q⟩| ⟨e,q2⟩
    ·have hn:=jB1 e
     rw[e]at vf;have:n<kvs.length:=by
      have:=(Qa.mp hn).1;simpa using this
     rw[vf]at en;have en:(kvs.map (·.2.2))[n]?=none:=en;rw[List.getElem?_eq_none_iff,QG]at en
     omega
    ·have ep2:jLH kvs q c (.ref p)=kvs++[(q,c,.ref p)]:=by
      unfold jLH;rw[en]
      rfl
     rw[ep2];have np:¬ S' p:=fun z=>(h3.dom p z).1 hp;have g0:Tr K F (upd H p (.dT 0 [])) true (.ref p) (.dct true [] []) fun b=>b=p :=
      .dct (S':=fun _=>False) (vs:=[]) jAM ⟨0,[],rfl,rfl,rfl,fun _ z=>(nomatch z),Q7⟩ fp (.nil fun _ z=>z) (fun z=>z) fun b=>by simp
     have g3:Trs K F (upd H p (.dT 0 [])) true (kvs.map (·.2.2)) ts S':=h3.mono (.refl _) fun b hb=>⟨jAD fun z=>np (z▸hb),(h3.dom b hb).2⟩
     have g1:=Trs.append g3 (Trs.one g0) fun b hb z=>np (z▸hb);have dk':DKo K F true (.dT ep' (kvs++[(q,c,.ref p)])) ((kvs.map fun p=>tD p.1)++[tD q]) (kvs.map (·.2.2)++[.ref p]):=by
      refine⟨ep',_,rfl,by simp,by simp,fun x hx=>?_,?_⟩
      ·rcases Qd.mp hx with hx|hx
       ·exact d4 x hx
       ·rw[QJ.mp hx];exact hq
      ·rw[Qe]
       refine jEE d5 fun m=>jA1.mp e ?_;obtain⟨x,hx,ex⟩:=Qg.mp m;exact Qg.mpr ⟨x,hx,by rw[ex]⟩
     refine k _ _ _ (fun b u e hb=>?_) (fun b e=>jA2 b (jA2 b e)) (jIO h2 dk' g1 fun z=>z.elim h4 ap) (fun b hb=>?_) q2
     ·rw[jAD fun z=>hb (by rw[z];exact ha)]
      exact sm b u e
     ·rcases hb with hb|hb|hb
      ·exact .inl (hb▸ha)
      ·exact .inl ((h5 b).mpr (.inr hb))
      ·exact .inr hb
end
section
variable{K:QD}{Γ:Ev}{Ψ:PEv}
noncomputable abbrev jSC(K:QD)(Γ:Ev)(Ψ:PEv)(p:PX):Prop:=∀{E:XE}{EK:XK}{F H:Hp}{S:Ft}{ρ:PSt}{σ:St}{Q:TK}{R:VK},Rl K F H S ρ σ->XOk K F H S ρ E EK->(pe Ψ p E).e ρ Q->jBT K (vrs p) F H S ρ σ Q R->(wp K Γ p EK).e σ H R
theorem jKl{p:PX}(he:jSC K Γ Ψ p){E:XE}{EK:XK}{F H:Hp}{S:Ft}{ρ:PSt}{σ:St}{Q:Bool->PSt->Prop}{R:Bool->Hp->Prop}(I:Rl K F H S ρ σ)(X:XOk K F H S ρ E EK)(h:(pe Ψ p E).e ρ fun t _ ρ1=>jIi t.er fun b=>Q b ρ1)(k:jFJ K F H S ρ σ Q R) :
  (wp K Γ p EK).e σ H fun x H1=>jGX K x H1 R :=
 he I X h fun v F' H' S' ρ' t n Z s I' r q=>jKk (r.tr.rep I'.fh) q fun c qc=>k c F' H' S' ρ' s I' qc
theorem PSnd.of_e{p:PX}(ht:∀E ρ Q,(pe Ψ p E).t ρ Q=(pe Ψ p E).e ρ fun t _ ρ1=>jIi t.er fun b=>Q b ρ1)(ht':∀EK σ H R,(wp K Γ p EK).t σ H R=(wp K Γ p EK).e σ H fun x H1=>jGX K x H1 R)(ha:∀E,(pe Ψ p E).a=nev.a)(he:jSC K Γ Ψ p):PSnd K Γ Ψ p where
 e:=he
 t:=fun I X h k=>by
  rw[ht]at h;rw[ht'];exact jKl he I X h k
 a:=fun I X _ h k=>by rw[ha]at h;exact h.elim
theorem PSnd.of_0{p:PX}(ht:∀E,(pe Ψ p E).t=nev.t)(ha:∀E,(pe Ψ p E).a=nev.a)(he:jSC K Γ Ψ p):PSnd K Γ Ψ p where
 e:=he
 t:=fun I X h k=>by rw[ht]at h;exact h.elim
 a:=fun I X _ h k=>by rw[ha]at h;exact h.elim
theorem PSnd.of_t{p:PX}(ht:∀E ρ Q,(pe Ψ p E).e ρ Q=(pe Ψ p E).t ρ fun b ρ1=>Q (.d (.bool b)) false ρ1)(ht':∀EK σ H R,(wp K Γ p EK).t σ H R=(wp K Γ p EK).e σ H fun x H1=>asB x H1 R)(ha:∀E,(pe Ψ p E).a=nev.a)
  (he:∀{E:XE}{EK:XK}{F H:Hp}{S:Ft}{ρ:PSt}{σ:St}{Q:Bool->PSt->Prop}{R:VK},Rl K F H S ρ σ->XOk K F H S ρ E EK->(pe Ψ p E).t ρ Q->jFJ K F H S ρ σ Q (fun b=>R (.bl b))->(wp K Γ p EK).e σ H R):PSnd K Γ Ψ p where
 e:=fun I X h k=>by
  rw[ht]at h;exact he I X h fun b F' H' S' ρ' s I' q=>jBT.d k s I' (.bl b) q
 t:=fun I X h k=>by
  rw[ht'];exact he I X h fun b F' H' S' ρ' s I' q=>k b F' H' S' ρ' s I' q
 a:=fun I X _ h k=>by rw[ha]at h;exact h.elim
theorem jSM(i:Nat):jSC K Γ Ψ (.var i):=by
 intro E EK F H S ρ σ Q R I X h k;have h2:rdV ρ[i]? fun t=>Q t false ρ:=h;show(match σ[i]? with|some (some v)=>R v H|_=>False);have key:∀s,ρ[i]?=some (some s)->Q s.t false ρ->(match σ[i]? with|some (some v)=>R v H|_=>False):=fun s e q=>by
  obtain⟨v,h1,h3⟩:=I.sl i _ e;rw[h1];exact k v F H S ρ s.t false (S i) .refl I ⟨h3.weak,fun z=>(by cases z),fun _ b hb=>⟨i,s,QJ.mpr rfl,e,hb⟩,fun z=>(by cases z)⟩ q
 unfold rdV at h2;split at h2
 ·rename_i e;exact key _ e h2
 ·rename_i e;exact key _ e h2
 ·exact h2.elim
 ·exact h2.elim
theorem jTZ{m:Mt}{v:V}{s:T}{H F:Hp}{Z:AdP}(h:isMut m=true)(ht:jG3 m s=true)(r:Tr K F H true v s Z):tyV K m.ty v H:=by
 unfold jG3 at ht;split at ht
 ·cases r with
  |lst h1 _ _ _ _ =>
   refine .inl ⟨?_,_,SqL.of h1⟩;cases m with
   |append=>rfl
   |pop=>rfl
   |_=>cases ht
 ·cases ht
theorem jYY{m:Mt}{o as:PX}(io:PSnd K Γ Ψ o)(ia:PSnd K Γ Ψ as):jSC K Γ Ψ (.mt m o as):=by
 intro E EK F H S ρ σ Q R I X h k;show(wp K Γ o EK).e σ H fun x H1=>tyV K m.ty x H1/\(wp K Γ as EK).a σ H1 fun vs H2=>mtR K m x vs H2 R;cases hm:isMut m with
 |false =>
  have h:(pe Ψ o E).e ρ fun x n ρ1=>jRG m (jAU x n).vw=true/\sq (jAU x n) ρ1 ((pe Ψ as E).a []) fun xs ρ2=>mtT m (jAU x n).vw (jDK xs) fun z k=>Q z k ρ2:=by
   have h2:(if isMut m=true then _ else _):=h;rw[hm,if_neg (by simp)]at h2;exact h2
  refine jV2 (P1:=fun x n=>jRG m (jAU x n).vw=true) (R1:=fun v H1=>tyV K m.ty v H1) (RR:=fun v vs H2=>mtR K m v vs H2 R) io ia I X h (fun v F' H' x n Za r p=>jWY r p) fun v vs F' H' S' ρ' x n xs Za Y s I' X' r _ tn q=>?_;rw[jGb _ rfl]at q;exact jTb s I' r tn q k
 |true =>
  have h:jSg (jOz o) fun j=>jEV ρ[j]? fun t=>jG3 m t=true/\(pe Ψ as E).a [] (ρ.set j (some (.bor t))) fun xs ρ2=>jGI xs=true/\ρ2[j]?=some (some (.bor t))/\jNy m t (jGf xs) fun r s'=>Q r true (ρ2.set j (some (.own s'))):=by
   have h2:(if isMut m=true then _ else _):=h;rw[hm,if_pos rfl]at h2;exact h2
  cases o with
  |var j =>
   have h:jEV ρ[j]? _:=h;unfold jEV at h;split at h
   ·rename_i t hj
    obtain⟨ht,q1⟩:=h;obtain⟨v0,hv,r0⟩:=I.sl j _ hj;have IL:=I.lock1 hj;have n0:=I.lock1U hj;have r0:Tr K F H true v0 t (S j):=r0;have XL:=X.lock1 hj;show(match σ[j]? with|some (some v)=>_|_=>False);rw[hv];refine⟨jTZ hm ht r0,?_⟩;refine ia.a (md:=[]) IL XL (fun j hj=>by cases as<;>cases hj) q1 fun vs F2 H2 S2 ρ2 xs W Y s2 I2 ar _ q2=>?_;obtain⟨he,hj2,q2⟩:=q2;have r2:Tr K F2 H2 true v0 t (S j):=s2.toStp.keep r0 n0;have hw:=ar.held;have trs:=ar.av.trs jWT he;have wS:∀b,S j b->¬ W b:=fun b hb hb2=>by
     rcases ar.fr b hb2 with q|q
     ·exact(r0.dom b hb).1 q
     ·exact n0 b hb q
    refine jRD I2.fh r2 trs wS q2 fun w r s' H3 S3 Zr hh dm rs' rr dz hf q=>?_;obtain⟨st,I3,nw⟩:=jEC I hj hv s2 I2 hh dm rs' (fun b hb=>hf b (.inl hb)) hw ar.fr;have zr:∀b,Zr b->S j b∨W b∨H2 b=none:=fun b hb=>hf b (.inr hb);refine k w F2 H3 _ _ r true Zr st I3 ⟨rr,fun _ b hb=>?_,fun z=>(by cases z),fun _ i sl e b hb z=>?_⟩ q
    ·rcases zr b hb with q|q|q
     ·exact .inr ⟨j,t,hj,q⟩
     ·exact(ar.fr b q).imp id (lock1U hj)
     ·exact .inl (s2.dm b q)
    ·rcases jAB e with⟨rfl,_,_⟩| ⟨n,e⟩
     ·rw[jAW]at z
      exact dz b hb z
     ·rw[jAJ (Q2 n)]at z
      exact nw b (zr b hb) i sl (Q2 n) e z
   all_goals exact h.elim
  |_=>exact h.elim
theorem jBT.dct{ws:List Nat}{F H F1 H1:Hp}{S S1:Ft}{ρ ρ1:PSt}{σ:St}{Q:TK}{R:VK}(k:jBT K ws F H S ρ σ Q R)(s:Ste F H S ρ F1 H1 S1 ρ1)(I:Rl K F1 H1 S1 ρ1 σ){p:Addr}(hp:H p=none)(fp:F1 p=none)(hh:Held F1 H1 S1 ρ1 fun b=>b=p){o:HO}{b:Bool}{ks:List D}{vs:List V}{ts:List T}{W:AdP}(dk:DKo K F1 b o ks vs)(r:Trs K F1 H1 true vs ts W)
  (fr:∀b,W b->H b=none∨U ρ S b) (hw:Held F1 H1 S1 ρ1 W) (np:¬ W p) (q:Q (.dct b ks ts) true ρ1):R (.ref p) (upd H1 p o):=by
 have ne:∀b u,H b=some u->b≠p:=fun b u e=>jAI e hp;have s':Ste F H S ρ F1 (upd H1 p o) S1 ρ1:=⟨⟨s.ff,fun b u e n=>by rw[jAD (ne b u e)];exact s.hh b u e n,fun b e=>s.dm b (jA2 b e),s.fn,s.uu,s.bo⟩,s.ow⟩
 have I':Rl K F1 (upd H1 p o) S1 ρ1 σ:=⟨fun b u e=>by rw[jAD fun z=>by rw[z,fp]at e;cases e];exact I.fh b u e,I.len,fun i sl e=>by
  obtain⟨v,h1,h2⟩:=I.sl i sl e;exact⟨v,h1,h2.mono (.refl _) fun b hb=>⟨jAD fun z=>hh.nw i sl e b z hb,(h2.dom b hb).2⟩⟩,I.dj⟩
 refine k _ F1 _ S1 ρ1 _ true (fun b=>b=p∨W b) s' I' ⟨.dct jAM dk fp (r.mono (.refl _) fun b hb=>⟨jAD fun z=>np (z▸hb),(hw.dom b hb).2⟩) np (fun b=>WY),fun _ b hb=>?_,fun z=>(by cases z),fun _ i sl e b hb z=>?_⟩ q
 ·rcases hb with hb|hb
  ·exact .inl (hb▸hp)
  ·exact fr b hb
 ·rcases hb with hb|hb
  ·exact hh.nw i sl e b hb z
  ·exact hw.nw i sl e b hb z
theorem VR.strict{H F1 H1:Hp}{S S1:Ft}{ρ ρ1:PSt}{ws:List Nat}{v:V}{t:T}{n:Bool}{Z:AdP}(r:VR K ws H S ρ F1 H1 S1 ρ1 v t n Z)(e:esc t n=true):∃W,Tr K F1 H1 true v t W/\Held F1 H1 S1 ρ1 W/\∀b,W b->H b=none∨U ρ S b:=by
 cases n with
 |true=>exact⟨Z,r.tr,r.held,r.fr rfl⟩
 |false =>
  have tr:=r.tr;cases t with
  |d x=>cases tr with|d q _=>exact⟨fun _=>False,.d q fun _ z=>z,.none,fun _ z=>z.elim⟩
  |_=>cases e
theorem jJQ{F H:Hp}{S:Ft}{ρ:PSt}{σ:St}(I:Rl K F H S ρ σ){p:Addr}(hp:H p=none)(o:HO):Held F (upd H p o) S ρ fun b=>b=p :=
 ⟨fun b hb=>⟨by rw[hb,jAM];simp,by rw[hb];exact I.fh.free hp⟩,fun i sl e b hb z=>(I.dom e z).1 (by rw[hb];exact hp)⟩
theorem jBB(g:GOk K Γ Ψ):∀(p:PX),PSnd K Γ Ψ p
 | .var i=>⟨jSM i,fun I X h k=>jKl (Γ:=Γ) (Ψ:=Ψ) (jSM i) I X h k,fun I X _ h k=>h.elim⟩
 | .int i=>⟨fun I X h k=>jBT.d k .refl I (.int i) h,fun I X h k=>k _ _ _ _ _ .refl I h,fun I X _ h k=>h.elim⟩
 | .str x=>⟨fun I X h k=>jBT.d k .refl I (.str x) h,fun I X h k=>h.elim,fun I X _ h k=>h.elim⟩
 | .bl b=>⟨fun I X h k=>jBT.d k .refl I (.bl b) h,fun I X h k=>k _ _ _ _ _ .refl I h,fun I X _ h k=>h.elim⟩
 | .non=>⟨fun I X h k=>jBT.d k .refl I .non h,fun I X h k=>k _ _ _ _ _ .refl I h,fun I X _ h k=>h.elim⟩
 | .glo x=>.of_e (fun _ _ _=>rfl) (fun _ _ _ _=>rfl) (fun _=>rfl) fun {E EK F H S ρ σ Q R} I X h k=>by
  have h:(match Ψ.va x with|some d=>Q (.d d) false ρ|none=>False):=h;split at h
  ·rename_i d e
   exact jBT.d k .refl I (g.va x d e F) h
  ·exact h.elim
 | .bty _ _=>⟨fun I X h k=>h.elim,fun I X h k=>h.elim,fun I X _ h k=>h.elim⟩
 | .bin op a b=>.of_e (fun _ _ _=>rfl) (fun _ _ _ _=>rfl) (fun _=>rfl) fun {E EK F H S ρ σ Q R} I X h k =>
  jPz (P:=fun x n y m ρ2=>binT op (jAU x n).vw (jAU y m).vw fun z k=>Q z k ρ2) (RR:=fun x y H2=>jVp K op x y H2 R) (jBB g a) (jBB g b) I X h fun v w F' H' S' ρ' x n y m Za Zb s I' X' ra _ rb q=>jUf s I' ra rb q k
 | .cmp op a b=>.of_t (fun _ _ _=>rfl) (fun _ _ _ _=>rfl) (fun _=>rfl) fun {E EK F H S ρ σ Q R} I X h k =>
  jPz (P:=fun x n y m ρ2=>jVo op x.er (jAU y m) fun k=>Q k ρ2) (RR:=fun x y H2=>jUI K op x y H2 R) (jBB g a) (jBB g b) I X h fun v w F' H' S' ρ' x n y m Za Zb s I' X' ra _ rb q =>
   jRp I'.fh (by have:=ra.rep I'.fh;rwa [jMR]at this) rb q fun c qc=>k c F' H' S' ρ' s I' qc
 | .neg a=>.of_0 (fun _=>rfl) (fun _=>rfl) fun {E EK F H S ρ σ Q R} I X h k=>by
  refine(jBB g a).e (Q:=fun x _ ρ1=>jWU x fun t=>Q t false ρ1) I X h fun v F' H' S' ρ' x n Z s I' r q=>?_;have tr:=r.tr;obtain⟨i,rfl,q2⟩:=(show jWU x fun t=>Q t false ρ' from q)
  cases tr with
  |d rr _ =>
   cases rr;exact jBT.d k s I' (.int _) q2
 | .and a b=>⟨fun {E EK F H S ρ σ Q R} I X h k=>by
   refine(jBB g a).e (Q:=fun x _ ρ1=>asD x.er fun c=>if c=true then(pe Ψ b E).e ρ1 Q else Q (.d (.bool false)) false ρ1) (R:=fun x H1=>asB x H1 fun c H2=>if c=true then(wp K Γ b EK).e σ H2 R else R (.bl false) H2) I X h fun v F' H' S' ρ' x n Z s I' r q=>?_;refine jPb (r.tr.rep I'.fh) q fun c qc=>?_;cases c with
   |false=>exact jBT.d k s I' (.bl false) qc
   |true=>exact(jBB g b).e I' (X.from s.toStp) qc ((k.from s).vars fun i hi=>QV _ hi),
  fun {E EK F H S ρ σ Q R} I X h k=>by
   refine(jBB g a).t (Q:=fun c ρ1=>if c=true then(pe Ψ b E).t ρ1 Q else Q false ρ1) (R:=fun c H1=>if c=true then(wp K Γ b EK).t σ H1 R else R false H1) I X h fun c F' H' S' ρ' s I' qc=>?_;cases c with
   |false=>exact k _ F' H' S' ρ' s I' qc
   |true=>exact(jBB g b).t I' (X.from s.toStp) qc (jFJ.from k s),fun I X _ h k=>h.elim⟩
 | .or a b=>⟨fun {E EK F H S ρ σ Q R} I X h k=>by
   refine(jBB g a).e (Q:=fun x _ ρ1=>asD x.er fun c=>if c=true then Q (.d (.bool true)) false ρ1 else(pe Ψ b E).e ρ1 Q) (R:=fun x H1=>asB x H1 fun c H2=>if c=true then R (.bl true) H2 else(wp K Γ b EK).e σ H2 R) I X h fun v F' H' S' ρ' x n Z s I' r q=>?_;refine jPb (r.tr.rep I'.fh) q fun c qc=>?_;cases c with
   |true=>exact jBT.d k s I' (.bl true) qc
   |false=>exact(jBB g b).e I' (X.from s.toStp) qc ((k.from s).vars fun i hi=>QV _ hi),
  fun {E EK F H S ρ σ Q R} I X h k=>by
   refine(jBB g a).t (Q:=fun c ρ1=>if c=true then Q true ρ1 else(pe Ψ b E).t ρ1 Q) (R:=fun c H1=>if c=true then R true H1 else(wp K Γ b EK).t σ H1 R) I X h fun c F' H' S' ρ' s I' qc=>?_;cases c with
   |true=>exact k _ F' H' S' ρ' s I' qc
   |false=>exact(jBB g b).t I' (X.from s.toStp) qc (jFJ.from k s),fun I X _ h k=>h.elim⟩
 | .not a=>⟨fun {E EK F H S ρ σ Q R} I X h k=>by
   refine(jBB g a).e (Q:=fun x _ ρ1=>jIi x.er fun c=>Q (.d (.bool (!c))) false ρ1) (R:=fun x H1=>jGX K x H1 fun c H2=>R (.bl (!c)) H2) I X h fun v F' H' S' ρ' x n Z s I' r q=>?_;exact jKk (r.tr.rep I'.fh) q fun c qc=>jBT.d k s I' (.bl _) qc,
  fun {E EK F H S ρ σ Q R} I X h k=>(jBB g a).t (Q:=fun c ρ1=>Q (!c) ρ1) (R:=fun c H1=>R (!c) H1) I X h fun c F' H' S' ρ' s I' qc=>k _ F' H' S' ρ' s I' qc,fun I X _ h k=>h.elim⟩
 | .call f as=>.of_e (fun _ _ _=>rfl) (fun _ _ _ _=>rfl) (fun _=>rfl) fun {E EK F H S ρ σ Q R} I X h k=>jRu g (jBB g as) I X h k
 | .isi a c=>by
  have key:∀{E:XE}{EK:XK}{F H:Hp}{S:Ft}{ρ:PSt}{σ:St}{Q:Bool->PSt->Prop}{R:VK},Rl K F H S ρ σ->XOk K F H S ρ E EK->(pe Ψ (.isi a c) E).t ρ Q->jFJ K F H S ρ σ Q (fun b=>R (.bl b))->(wp K Γ (.isi a c) EK).e σ H R:=by
   intro E EK F H S ρ σ Q R I X h k;refine(jBB g a).e (Q:=fun x _ ρ1=>jWf c x.er fun b=>Q b ρ1) I X h fun v F' H' S' ρ' x n Z s I' r q=>?_;cases c with
   |bty z n =>
    obtain⟨b,h1,h2,q⟩:=q;exact jTw (r.tr.rep I'.fh) h1 h2 (k b F' H' S' ρ' s I' q)
   |_=>exact q.elim
  refine⟨fun I X h k=>key I X h fun b F' H' S' ρ' s I' q=>jBT.d k s I' (.bl b) q,fun {E EK F H S ρ σ Q R} I X h k=>?_,fun I X _ h k=>h.elim⟩;exact key (R:=fun v H1=>jGX K v H1 R) I X h fun b F' H' S' ρ' s I' q=>k b F' H' S' ρ' s I' q
 | .bi f as=>.of_e (fun _ _ _=>rfl) (fun _ _ _ _=>rfl) (fun _=>rfl) fun {E EK F H S ρ σ Q R} I X h k =>
  jMr (P:=fun xs ρ1=>biT f (jDK xs) fun z k=>Q z k ρ1) (RR:=fun vs H1=>biR K f vs H1 R) (jBB g as) I X h fun vs F' H' S' ρ' xs Y s I' X' tn _ q=>by
   rw[jGb _ rfl]at q;exact jUn s I' tn q k
 | .mt m o as=>.of_e (fun _ _ _=>rfl) (fun _ _ _ _=>rfl) (fun _=>rfl) (jYY (jBB g o) (jBB g as))
 | .idx a b=>by
  have he:jSC K Γ Ψ (.idx a b):=fun {E EK F H S ρ σ Q R} I X h k =>
   jPz (P:=fun x n y m ρ2=>(jM2 (jAU x n).vw (jAU y m).vw fun z=>Q z false ρ2)∨(jPW (jAU x n).vw y.er fun z=>Q z false ρ2)) (RR:=fun x y H2=>jR7 K x y H2 R) (jBB g a) (jBB g b) I X h fun v w F' H' S' ρ' x n y m Za Zb s I' X' ra za rb q=>by
    rcases q with q|q
    ·exact jT0 s I' ra za rb q k
    ·exact jUG s I' ra za (by have:=rb.rep I'.fh;rwa [jMR]at this) q k
  exact⟨he,fun I X h k=>jKl he I X h k,fun I X _ h k=>h.elim⟩
 | .slc a lo hi=>.of_0 (fun _=>rfl) (fun _=>rfl) fun {E EK F H S ρ σ Q R} I X h k=>by
  have part:∀(p:PX),PSnd K Γ Ψ p->∀{F H:Hp}{S:Ft}{ρ:PSt}{x:T}{P:Option Int->PSt->Prop}{RP:Option Int->Hp->Prop},Rl K F H S ρ σ->XOk K F H S ρ E EK ->
    sq (α:=Option Int) x ρ (if isNop p=true then fun ρ (R:Option Int->PSt->Prop)=>R none ρ else fun ρ R=>(pe Ψ p E).e ρ fun l _ ρ2=>jJ6 l.er fun o=>R o ρ2) P ->
    (∀o F' H' S' ρ',Ste F H S ρ F' H' S' ρ'->Rl K F' H' S' ρ' σ->(∀st v Zx,Tr K F H st v x Zx->Tr K F' H' st v x Zx)->P o ρ'->RP o H') ->
    (if isNop p=true then fun(R:Option Int->Hp->Prop)=>R none H else fun R=>(wp K Γ p EK).e σ H fun l H2=>jHw l H2 R) RP:=by
   intro p ip F H S ρ x P RP I X h k;cases hn:isNop p with
   |true =>
    simp only[hn,if_true]at h ⊢;refine k none F H S ρ .refl I (fun _ _ _ r=>r) ?_;unfold sq at h;split at h<;>exact h
   |false =>
    simp only[hn,qO,if_false]at h ⊢;have h2:sq x ρ (cu (pe Ψ p E).e) fun y ρ'=>jJ6 y.1.er fun o=>P o ρ':=by
     unfold sq at h ⊢;exact h
    refine jXH ip I X h2 fun w F' H' S' ρ' y m Z s I' kp _ r q=>jQk (r.tr.rep I'.fh) q fun o qo=>k o F' H' S' ρ' s I' kp qo
  refine jCy (jBB g a) I X h fun v F1 H1 S1 ρ1 x n Za s1 I1 X1 r1 _ z1 h1=>?_;refine part lo (jBB g lo) I1 X1 h1 fun l F2 H2 S2 ρ2 s2 I2 k2 h2=>?_;refine part hi (jBB g hi) I2 (X1.from s2.toStp) h2 fun u F3 H3 S3 ρ3 s3 I3 k3 h3=>?_;exact jSX (s1.trans (s2.trans s3)) I3 (k3 _ _ _ (k2 _ _ _ r1)) h3 k
 | .nop=>⟨fun I X h k=>h.elim,fun I X h k=>h.elim,fun I X _ h k=>h.elim⟩
 | .lst as=>.of_0 (fun _=>rfl) (fun _=>rfl) fun {E EK F H S ρ σ Q R} I X h k=>by
  refine(jBB g as).a (md:=[]) (R:=fun xs H1=>xs.length<=sizeLine/\∀p,H1 p=none->R (.ref p) (upd H1 p (.lst xs))) I X (fun j hj=>by cases as<;>cases hj) h fun vs F' H' S' ρ' xs W Y s I' r _ q=>?_;exact⟨by rw[r.av.length];exact q.2.1,fun p hp=>jBT.list k s I' hp (r.av.trs jWT q.1) r.fr r.held q.2.2⟩
 | .tup as=>.of_0 (fun _=>rfl) (fun _=>rfl) fun {E EK F H S ρ σ Q R} I X h k=>by
  refine(jBB g as).a (md:=[]) (R:=fun xs H1=>xs.length<=sizeLine/\∀p,H1 p=none->R (.ref p) (upd H1 p (.tup xs))) I X (fun j hj=>by cases as<;>cases hj) h fun vs F' H' S' ρ' xs W Y s I' r _ q=>?_;exact⟨by rw[r.av.length];exact q.2.1,fun p hp=>jBT.tup k s I' hp (r.av.trs jWT q.1) r.fr r.held q.2.2⟩
 | .comp mask tgs tg ik its cond elt=>.of_0 (fun _=>rfl) (fun _=>rfl) fun {E EK F H S ρ σ Q R} I X h k=>by
  refine jMr (RR:=fun vs H1=>jBm K ik vs H1 fun xs st H2=>jOe K xs st tg (if isNop cond=true then fun _ H Q=>Q true H else(wp K Γ cond (fun _ _ _=>False)).t) (wp K Γ elt (fun _ _ _=>False)).e (jJW tgs.length mask σ) H2 R) (jBB g its) I X h fun vs F1 H1 S1 ρ1 xs Y s1 I1 X1 tn tm q1=>?_;rw[jGb _ rfl]at q1;refine jEg I1.fh tn q1 fun xs ys st pr hst hc=>?_;refine jOP (us:=vrs elt) ?_ ?_ s1 I1 pr (fun b hb=>?_) hst hc k
  ·intro F H S ρ σ Q R I h k
   cases hn:isNop cond with
   |true =>
    simp only[hn,if_true]at h ⊢;exact k true F H S ρ .refl I h
   |false =>
    simp only[hn,qO,if_false]at h ⊢;exact(jBB g cond).t I XOk.never h k
  ·intro F H S ρ σ Q R I h k
   exact(jBB g elt).e I XOk.never h k
  ·obtain⟨i,sl,_,h2,h3⟩:=tm b hb
   exact I1.dom h2 h3
 | .lset a=>.of_0 (fun _=>rfl) (fun _=>rfl) fun {E EK F H S ρ σ Q R} I X h k =>
  jCy (P:=fun x n ρ1=>jN1 (jAU x n).vw fun z k=>Q z k ρ1) (RR:=fun x H1=>jQK K x H1 R) (jBB g a) I X h fun v F' H' S' ρ' x n Z s I' _ r _ _ ⟨us,ss,e,hb,l,q⟩=>by
   obtain⟨p,xs,_,rfl,hp,rp,_⟩:=r.ls I'.fh e;obtain rfl:=jBk (rp.un hb).1;exact⟨p,ss,rfl,hp,l,fun zs nd m=>k.d s I' (.int _) (q zs nd m)⟩
 | .sset a=>.of_0 (fun _=>rfl) (fun _=>rfl) fun {E EK F H S ρ σ Q R} I X h k =>
  jCy (P:=fun x n ρ1=>jNI (jAU x n).vw fun z k=>Q z k ρ1) (RR:=fun x H1=>jQJ K x H1 R) (jBB g a) I X h fun v F' H' S' ρ' x n Z s I' _ r _ _ ⟨us,ss,e,hb,l,q⟩=>by
   obtain⟨p,xs,_,rfl,hp,rp,_⟩:=r.ls I'.fh e;obtain rfl:=jBk (rp.un hb).1;exact⟨p,ss,rfl,hp,l,fun a zs hl nd m so=>k.listD s I' hl (jEM zs) (q zs nd m so)⟩
 | .dnew b=>.of_0 (fun _=>rfl) (fun _=>rfl) fun {E EK F H S ρ σ Q R} I X h k=>by
  intro p hp;have hh:=jJQ I hp (.dT 0 []);have e:=jBT.dct (o:=.dT 0 []) (b:=b) (ks:=[]) (vs:=[]) (ts:=[]) (W:=fun _=>False) k (Ste.refl.new hp (.dT 0 [])) (I.new hp _) hp (I.fh.free hp) hh ?_ (.nil fun _ z=>z) (fun _ z=>z.elim) .none (fun z=>z) h
  ·rw[jPy]at e
   exact e
  ·cases b with
   |true=>exact⟨0,[],rfl,rfl,rfl,fun _ z=>(nomatch z),Q7⟩
   |false=>exact .inr ⟨0,rfl,rfl,rfl⟩
 | .dsp a b=>.of_0 (fun _=>rfl) (fun _=>rfl) fun {E EK F H S ρ σ Q R} I X h k=>by
  intro p hp;have hh:=jJQ I hp (.dT 0 []);have s0:Ste F H S ρ F (upd H p (.dT 0 [])) S ρ:=Ste.refl.new hp _;refine jCy (jBB g a) (I.new hp _) (X.from s0.toStp) h fun y F1 H1 S1 ρ1 x n Z s1 I1 X1 _ er _ ⟨he,q1⟩=>?_;have hh1:=hh.step s1.toStp I1;have ry:=er he;refine(jBB g b).e I1 X1 q1 fun v F2 H2 S2 ρ2 t m Zb s2 I2 r2 q2=>?_;have hh2:=hh1.step s2.toStp I2;obtain⟨he2,hk,q2⟩:=q2;obtain⟨W,rw,hw,frw⟩:=(r2.from s1.toStp).strict he2;have hp2:H2 p=some (.dT 0 []):=s2.hh p _ (s1.hh p _ jAM (hh.nu p rfl)) (hh1.nu p rfl);have np:¬ W p:=fun z=>by
   rcases frw p z with q|q
   ·rw[jAM]at q;cases q
   ·exact hh.nu p rfl q
  have ry2:=ry.mono s2.ff;refine⟨hp2,?_⟩;generalize x.er=d at hk ry2 q2;obtain⟨ks,rfl⟩:=hk;cases ry2 with
  |@tup c _ _ hq rq =>
   cases jCw rq;refine⟨c,ks,rfl,I2.fh.tupl hq,fun ep=>?_⟩;exact jBT.dct (o:=.dT ep [(ks,c,v)]) (b:=true) (vs:=[v]) (ts:=[t]) k (s0.trans (s1.trans s2)) I2 hp (hh2.dom p rfl).2 hh2 ⟨ep,_,rfl,rfl,rfl,fun z hz=>by rw[QJ.mp hz];exact hq,by simp⟩ (Trs.one rw) (fun b hb=>by
    rcases frw b hb with q|q
    ·exact .inl (jA2 b q)
    ·exact .inr q) hw np q2
 | .anil=>⟨fun I X h k=>h.elim,fun I X h k=>h.elim,fun {E EK F H S ρ σ md Q R} I X _ h k=>k [] F H S ρ [] (fun _=>False) (fun _=>False) .refl I ⟨.nil fun _ z=>z,fun _ z=>z.elim,fun _ z=>z.elim,fun _ _ _ _ z=>z.elim⟩ (by cases md with|nil=>rfl|cons m r=>cases m<;>rfl) h⟩
 | .acons a as=>⟨fun I X h k=>h.elim,fun I X h k=>h.elim,fun {E EK F H S ρ σ md Q R} I X hm h k=>by
  show(wp K Γ a EK).e σ H fun x H1=>(wp K Γ as EK).a σ H1 fun xs H2=>R (x::xs) H2;have vr2:∀i∈vrs as,i∈vrs (.acons a as):=fun i hi=>QV _ hi;cases hmd:(md.headD .fro).isMut with
  |true =>
   have h2:jRV a=true/\(pe Ψ as E).a md.tail ρ fun xs ρ1=>Q ((.d .none,true)::xs) ρ1:=by
    have h3:(if(md.headD .fro).isMut=true then _ else _):=h;rw[hmd,if_pos rfl]at h3;exact h3
   obtain⟨m,md',rfl⟩:∃m md',md=m::md':=by
    cases md with
    |nil=>cases hmd
    |cons m md'=>exact⟨m,md',rfl⟩
   have em:m=.chg:=by
    have hmd:m.isMut=true:=hmd;cases m<;>first|rfl|cases hmd
   subst em;cases a with
   |var j =>
    obtain⟨v,hv⟩:=hm j (show j∈j::jAC md' as from QF);show(match σ[j]? with|some (some v)=>_|_=>False);rw[hv];refine(jBB g as).a I X (fun i hi=>hm i (QE _ hi)) h2.2 fun vs F' H' S' ρ' xs W Y s I' r mv q=>?_;refine k (v::vs) F' H' S' ρ' _ W Y s I' ⟨.chg hmd r.av,r.fr,(r.vars vr2).tm,r.nw⟩ ?_ q;show(some (some v))::(jA0 md' vs).map _=σ[j]?::(jAC md' as).map _;have mv:(jA0 md' vs).map (fun v=>some (some v))=(jAC md' as).map (fun j=>σ[j]?):=mv;rw[hv,mv]
   |_=>exact absurd h2.1 (by simp[jRV])
  |false =>
   have h2:(pe Ψ a E).e ρ fun x n ρ1=>sq (α:=List (T×Bool)) (if n=true then .d .none else x) ρ1 ((pe Ψ as E).a md.tail) fun xs ρ2=>Q ((x,n)::xs) ρ2:=by
    have h3:(if(md.headD .fro).isMut=true then _ else _):=h;rw[hmd,if_neg (by simp)]at h3;exact h3
   have hroots:jAC md (.acons a as)=jAC md.tail as:=by
    cases md with
    |nil=>cases as<;>rfl
    |cons m md' =>
     have hmd:m.isMut=false:=hmd;cases m<;>first|rfl|cases hmd
   have hmv:∀v vs,jA0 md (v::vs)=jA0 md.tail vs:=fun v vs=>by
    unfold jA0;generalize md.headD .fro=m at hmd;cases m<;>first | (cases vs<;>rfl)|cases hmd
   refine(jBB g a).e I X h2 fun v F1 H1 S1 ρ1 x n Z s1 I1 r1 q1=>?_;refine jXI (jBB g as) I1 (X.from s1.toStp) (fun i hi=>hm i (by rw[hroots];exact hi)) q1 fun vs F2 H2 S2 ρ2 xs W Y s2 I2 kp hs r2 mv q2=>?_;have s12:=s1.trans s2;have r2':=(r2.from s1.toStp).vars vr2;have mv':(jA0 md (v::vs)).map (fun v=>some (some v))=(jAC md (.acons a as)).map (fun j=>σ[j]?):=by rw[hroots,hmv];exact mv
   cases n with
   |true =>
    have hd:=r1.held;have hd2:=hd.step s2.toStp I2;refine k (v::vs) F2 H2 S2 ρ2 _ (fun b=>Z b∨W b) Y s12 I2 ⟨.new hmd (s2.toStp.keep r1.tr hd.nu) r2.av (fun b hb hw=>?_) fun b=>WY,fun b hb=>?_,r2'.tm,fun i sl e b hb=>?_⟩ mv' q2
    ·rcases r2.fr b hw with q|q
     ·exact(hd.dom b hb).1 q
     ·exact hd.nu b hb q
    ·rcases hb with hb|hb
     ·exact r1.fr rfl b hb
     ·exact r2'.fr b hb
    ·rcases hb with hb|hb
     ·exact hd2.nw i sl e b hb
     ·exact r2.nw i sl e b hb
   |false =>
    have za:∀b,Z b->∃(i:Nat) (s:Sl),i∈vrs a/\ρ2[i]?=some (some s)/\S2 i b:=by
     cases hd:x.isD with
     |true =>
      intro b hb;exfalso;have tr:=r1.tr;cases x with
      |d x=>cases tr with|d r n=>exact n b hb
      |_=>cases hd
     |false =>
      obtain⟨e1,e2⟩:=hs hd;rw[e1,e2];exact r1.tm rfl
    refine k (v::vs) F2 H2 S2 ρ2 _ W (fun b=>Z b∨Y b) s12 I2 ⟨.tmp hmd (kp _ _ _ r1.tr) (fun b hb=>.inl hb) (r2.av.sub fun b hb=>.inr hb),r2'.fr,fun b hb=>?_,r2.nw⟩ mv' q2;rcases hb with hb|hb
    ·obtain⟨i,sl,h1,h2⟩:=za b hb
     exact⟨i,sl,Qk _ h1,h2⟩
    ·exact r2'.tm b hb⟩
end
structure Sts(C J:List Nat)(F H:Hp)(S:Ft)(ρ:PSt)(σ:St)(F' H':Hp)(S':Ft)(ρ':PSt)(σ':St):Prop where
 ff:Same F F'
 hh:∀b u,H b=some u->¬ U ρ S b->H' b=some u
 dm:∀b,H' b=none->H b=none
 fn:∀b,F b=none->F' b≠none->U ρ S b∨H b=none
 uu:∀b,U ρ' S' b->U ρ S b∨H b=none
 bo:∀(j:Nat) t,j∉J->ρ'[j]?=some (some (.bor t))->t.isD=false->ρ[j]?=some (some (.bor t))/\S' j=S j/\σ'[j]?=σ[j]?
 sg:∀j∈C,σ'[j]?=σ[j]?
structure Stc(C:List Nat)(F H:Hp)(S:Ft)(ρ:PSt)(σ:St)(F' H':Hp)(S':Ft)(ρ':PSt)(σ':St):Prop where
 ff:Same F F'
 hh:∀b u,H b=some u->¬ U ρ S b->H' b=some u
 dm:∀b,H' b=none->H b=none
 fn:∀b,F b=none->F' b≠none->U ρ S b∨H b=none
 uu:∀b,U ρ' S' b->U ρ S b∨H b=none
 sg:∀j∈C,σ'[j]?=σ[j]?
section
variable{K:QD}{Γ:Ev}{Ψ:PEv}{E:XE}{EK:XK}{F H F1 H1 F2 H2:Hp}{S S1 S2:Ft}{ρ ρ1 ρ2:PSt}{σ σ1 σ2:St}{C J:List Nat}
theorem Stp.sts(s:Stp F H S ρ F1 H1 S1 ρ1):Sts C J F H S ρ σ F1 H1 S1 ρ1 σ:=⟨s.ff,s.hh,s.dm,s.fn,s.uu,fun j t _ e h=>let⟨h1,h2⟩:=s.bo j t e h;⟨h1,h2,rfl⟩,fun _ _=>rfl⟩
theorem Sts.refl:Sts C J F H S ρ σ F H S ρ σ:=Stp.refl.sts
theorem Sts.trans(a:Sts C J F H S ρ σ F1 H1 S1 ρ1 σ1)(b:Sts C [] F1 H1 S1 ρ1 σ1 F2 H2 S2 ρ2 σ2):Sts C J F H S ρ σ F2 H2 S2 ρ2 σ2 where
 ff:=a.ff.trans b.ff
 hh:=fun x u h n=>b.hh x u (a.hh x u h n) fun z=>by
  rcases a.uu x z with q|q
  ·exact n q
  ·rw[q]at h;cases h
 dm:=fun x h=>a.dm x (b.dm x h)
 fn:=fun x h z=>by
  by_cases q:F1 x=none
  ·rcases b.fn x q z with w|w
   ·exact a.uu x w
   ·exact .inr (a.dm x w)
  ·exact a.fn x h q
 uu:=fun x h=>by
  rcases b.uu x h with w|w
  ·exact a.uu x w
  ·exact .inr (a.dm x w)
 bo:=fun j t hj h n=>by
  obtain⟨h1,h2,h3⟩:=b.bo j t (by simp) h n;obtain⟨h4,h5,h6⟩:=a.bo j t hj h1 n;exact⟨h4,h2.trans h5,h3.trans h6⟩
 sg:=fun j hj=>(b.sg j hj).trans (a.sg j hj)
theorem Sts.c(s:Sts C J F H S ρ σ F1 H1 S1 ρ1 σ1):Stc C F H S ρ σ F1 H1 S1 ρ1 σ1:=⟨s.ff,s.hh,s.dm,s.fn,s.uu,s.sg⟩
theorem Stc.trans(a:Stc C F H S ρ σ F1 H1 S1 ρ1 σ1)(b:Stc C F1 H1 S1 ρ1 σ1 F2 H2 S2 ρ2 σ2):Stc C F H S ρ σ F2 H2 S2 ρ2 σ2 where
 ff:=a.ff.trans b.ff
 hh:=fun x u h n=>b.hh x u (a.hh x u h n) fun z=>by
  rcases a.uu x z with q|q
  ·exact n q
  ·rw[q]at h;cases h
 dm:=fun x h=>a.dm x (b.dm x h)
 fn:=fun x h z=>by
  by_cases q:F1 x=none
  ·rcases b.fn x q z with w|w
   ·exact a.uu x w
   ·exact .inr (a.dm x w)
  ·exact a.fn x h q
 uu:=fun x h=>by
  rcases b.uu x h with w|w
  ·exact a.uu x w
  ·exact .inr (a.dm x w)
 sg:=fun j hj=>(b.sg j hj).trans (a.sg j hj)
theorem XOk.fromS(h:XOk K F H S ρ E EK)(s:Sts C J F H S ρ σ F1 H1 S1 ρ1 σ1):XOk K F1 H1 S1 ρ1 E EK:=fun x dx F2 H2 S2 ρ2 s2 f r q =>
 h x dx F2 H2 (fun _ _=>False) [] ⟨s.ff.trans s2.ff,fun b u e n=>s2.hh b u (s.hh b u e n) (fun z=>(s.uu b z).elim n fun w=>(by rw[w]at e;cases e)),fun b e=>s.dm b (s2.dm b e),fun b e z=>by
  by_cases q:F1 b=none
  ·rcases s2.fn b q z with w|w
   ·exact s.uu b w
   ·exact .inr (s.dm b w)
  ·exact s.fn b e q,fun b ⟨i,t,e,_⟩=>by simp at e,fun j t e=>by simp at e⟩ f r q
structure EndsOk(K:QD)(C:List Nat)(F H:Hp)(S:Ft)(ρ:PSt)(σ:St)(Z:PEnds)(Dn:Ends):Prop where
 nx:∀F' H' S' ρ' σ',Sts C [] F H S ρ σ F' H' S' ρ' σ'->Rl K F' H' S' ρ' σ'->Z.nx ρ'->Dn.nx σ' H'
 rt:∀v t W F' H' S' ρ' σ',Stc C F H S ρ σ F' H' S' ρ' σ'->Rl K F' H' S' ρ' σ'->Tr K F' H' true v t W->Held F' H' S' ρ' W->(∀b,W b->H b=none∨U ρ S b)->Z.rt t ρ'->Dn.rt v H'
 bk:∀F' H' S' ρ' σ',Sts C [] F H S ρ σ F' H' S' ρ' σ'->Rl K F' H' S' ρ' σ'->Z.bk ρ'->Dn.bk σ' H'
 ct:∀F' H' S' ρ' σ',Sts C [] F H S ρ σ F' H' S' ρ' σ'->Rl K F' H' S' ρ' σ'->Z.ct ρ'->Dn.ct σ' H'
theorem frS(s:Sts C J F H S ρ σ F1 H1 S1 ρ1 σ1){W:AdP}(fr:∀b,W b->H1 b=none∨U ρ1 S1 b):∀b,W b->H b=none∨U ρ S b:=fun b hb=>by
 rcases fr b hb with q|q
 ·exact .inl (s.dm b q)
 ·exact(s.uu b q).symm
theorem EndsOk.from{Z:PEnds}{Dn:Ends}(ok:EndsOk K C F H S ρ σ Z Dn)(s:Sts C [] F H S ρ σ F1 H1 S1 ρ1 σ1):EndsOk K C F1 H1 S1 ρ1 σ1 Z Dn :=
 ⟨fun F' H' S' ρ' σ' s' I q=>ok.nx F' H' S' ρ' σ' (s.trans s') I q,fun v t W F' H' S' ρ' σ' s' I r h fr q=>ok.rt v t W F' H' S' ρ' σ' (s.c.trans s') I r h (frS s fr) q,
  fun F' H' S' ρ' σ' s' I q=>ok.bk F' H' S' ρ' σ' (s.trans s') I q,fun F' H' S' ρ' σ' s' I q=>ok.ct F' H' S' ρ' σ' (s.trans s') I q⟩
theorem Sts.setD(s:Sts C J F H S ρ σ F1 H1 S1 ρ1 σ1)(i:Nat)(hi:i∉C)(v:V){t:T}(ht:t.isD=true)(Z:AdP):Sts C J F H S ρ σ F1 H1 (jHk S1 i Z) (ρ1.set i (some (.bor t))) (σ1.set i (some v)) :=
 ⟨s.ff,s.hh,s.dm,s.fn,fun b ⟨j,u,h1,h2⟩=>by
  rcases jAB h1 with⟨_,e,_⟩| ⟨n,h1⟩
  ·cases e
  ·rw[jAJ (Q2 n)]at h2
   exact s.uu b ⟨j,u,h1,h2⟩,
 fun j u hj e hd=>by
  rcases jAB e with⟨_,e,_⟩| ⟨n,e⟩
  ·injection e with e
   injection e with e
   subst e;rw[ht]at hd;cases hd
  ·rw[jAJ (Q2 n),jCX n]
   exact s.bo j u hj e hd,
 fun j hj=>by
  have n:i≠j:=fun e=>hi (e▸hj);rw[jCX n];exact s.sg j hj⟩
theorem Rl.setD(I:Rl K F H S ρ σ)(i:Nat){v:V}{x:D}(r:Rep K F v x):Rl K F H (jHk S i fun _=>False) (ρ.set i (some (.bor (.d x)))) (σ.set i (some v)) :=
 I.setB i (.d r fun _ z=>z) fun _ _ _ _ _ z=>z.elim
theorem Rl.setN(I:Rl K F H S ρ σ)(i:Nat){v:V}{t:T}{Z:AdP}(r:Tr K F H true v t Z)(hz:∀(j:Nat) s,j≠i->ρ[j]?=some (some s)->∀b,Z b->¬ S j b):Rl K F H (jHk S i Z) (ρ.set i (some (.own t))) (σ.set i (some v)) where
 fh:=I.fh
 len:=by simpa using I.len
 sl:=fun j s h=>by
  rcases jAB h with⟨rfl,e,hl⟩| ⟨hn,h⟩
  ·cases e
   exact⟨v,jKw (by rw[<- I.len];exact hl),by rw[jAW];exact r⟩
  ·rw[jCX hn,jAJ (Q2 hn)]
   exact I.sl j s h
 dj:=fun j k t' s n h1 h2 b hb hk=>by
  rcases jAB h1 with⟨e,_,_⟩| ⟨n1,h1⟩
  ·subst e
   rw[jAW]at hb;rcases jAB h2 with⟨e,_,_⟩| ⟨n2,h2⟩
   ·exact n e
   ·rw[jAJ (Q2 n2)]at hk
    exact hz k s (Q2 n2) h2 b hb hk
  ·rw[jAJ (Q2 n1)]at hb
   rcases jAB h2 with⟨e,_,_⟩| ⟨n2,h2⟩
   ·subst e
    rw[jAW]at hk;exact hz j _ n h1 b hk hb
   ·rw[jAJ (Q2 n2)]at hk
    exact I.dj j k t' s n h1 h2 b hb hk
theorem Sts.setN(s:Sts C J F H S ρ σ F1 H1 S1 ρ1 σ1)(i:Nat)(hi:i∉C)(v:V)(t:T){Z:AdP}(fr:∀b,Z b->H b=none∨U ρ S b):Sts C J F H S ρ σ F1 H1 (jHk S1 i Z) (ρ1.set i (some (.own t))) (σ1.set i (some v)) :=
 ⟨s.ff,s.hh,s.dm,s.fn,fun b ⟨j,u,h1,h2⟩=>by
  rcases jAB h1 with⟨rfl,_,_⟩| ⟨n,h1⟩
  ·rw[jAW]at h2
   exact(fr b h2).symm
  ·rw[jAJ (Q2 n)]at h2
   exact s.uu b ⟨j,u,h1,h2⟩,
 fun j u hj e hd=>by
  rcases jAB e with⟨_,e,_⟩| ⟨n,e⟩
  ·cases e
  ·rw[jAJ (Q2 n),jCX n]
   exact s.bo j u hj e hd,
 fun j hj=>by
  have n:i≠j:=fun e=>hi (e▸hj);rw[jCX n];exact s.sg j hj⟩
theorem jGl:∀(is:List Nat) (ds:List D) {ρ ρ':PSt},jAq is (ds.map T.d) ρ=some ρ'->∀(j:Nat) t,ρ'[j]?=some (some (.bor t))->t.isD=false->j∉is/\ρ[j]?=some (some (.bor t))
 |[],[],ρ,ρ',h,j,t,e,hd=>by simp only[w8,jAq,Qh]at h;subst h;exact⟨(by simp),e⟩
 |[],_::_,_,_,h,_,_,_,_=>by simp[jAq]at h
 |_::_,[],_,_,h,_,_,_,_=>by simp[jAq]at h
 |i::is,d::ds,ρ,ρ',h,j,t,e,hd=>by
  simp only[QR,jAq]at h;obtain⟨h1,h2⟩:=jGl is ds h j t e hd;rcases jAB h2 with⟨_,q,_⟩| ⟨n,q⟩
  ·injection q with q;injection q with q;subst q;cases hd
  ·exact⟨fun m=>(QK.mp m).elim (fun z=>n z.symm) h1,q⟩
theorem Rl.frz1(I:Rl K F H S ρ σ){i:Nat}{t:T}(hi:ρ[i]?=some (some (.own t))):Rl K (jJS F H (S i)) H (jHk S i fun _=>False) (ρ.set i (some (.bor (.d t.er)))) σ/\Sts C [] F H S ρ σ (jJS F H (S i)) H (jHk S i fun _=>False) (ρ.set i (some (.bor (.d t.er)))) σ:=by
 obtain⟨v,hv,r⟩:=I.sl i _ hi;have ff:=jDa (H:=H) fun b (hb:S i b)=>(r.dom b hb).2;have I0:Rl K F H S (ρ.set i none) σ:=I.drop (by simp) fun j s e=>by
  rcases jAB e with⟨_,z,_⟩| ⟨_,e⟩
  ·cases z
  ·exact e
 have hw:Held F H S (ρ.set i none) (S i):=⟨r.dom,fun j s e b hb z=>by
  rcases jAB e with⟨_,q,_⟩| ⟨n,e⟩
  ·cases q
  ·exact I.dj i j t s n hi e b hb z⟩
 have I1:=I0.frz hw;have kp:Rep K (jJS F H (S i)) v t.er:=Tr.kept ff r fun b u hb e=>by rw[jEi hb];exact e
 have I2:=I1.setD i kp;have e1:(ρ.set i none).set i (some (.bor (.d t.er)))=ρ.set i (some (.bor (.d t.er))):=by simp
 have e2:σ.set i (some v)=σ:=by
  apply we;intro j;rw[wG];split
  ·rename_i e;subst e
   split
   ·exact hv.symm
   ·rename_i n;rw[qH (by omega)]
  ·rfl
 rw[e1,e2]at I2;refine⟨I2,⟨ff,fun b u e _=>e,fun b e=>e,fun b e z=>.inl ?_,fun b ⟨j,u,h1,h2⟩=>.inl ?_,fun j u _ e hd=>?_,fun _ _=>rfl⟩⟩
 ·by_cases hb:S i b
  ·exact⟨i,t,hi,hb⟩
  ·rw[jBK hb]at z;exact absurd e z
 ·rcases jAB h1 with⟨_,q,_⟩| ⟨n,h1⟩
  ·cases q
  ·rw[jAJ (Q2 n)]at h2
   exact⟨j,u,h1,h2⟩
 ·rcases jAB e with⟨_,q,_⟩| ⟨n,e⟩
  ·injection q with q;injection q with q;subst q;cases hd
  ·exact⟨e,jAJ (Q2 n),rfl⟩
theorem jLx{f:Option Sl->Option Sl}{i:Nat}:ρ.modify i f=match ρ[i]? with|some o=>ρ.set i (f o)|none=>ρ:=by
 apply we;intro j;rw[Ww];cases h:ρ[i]? with
 |none =>
  simp only;by_cases e:i=j
  ·subst e;simp[h]
  ·simp[e]
 |some o =>
  simp only;rw[wG];by_cases e:i=j
  ·subst e
   obtain⟨hl,rfl⟩:=Qa.mp h;simp[hl]
  ·simp[e]
theorem jIp{α:Type}{l:List α}{i:Nat}{o:α}(h:l[i]?=some o):l.set i o=l:=by
 apply we;intro j;rw[wG];split
 ·rename_i e;subst e
  rw[if_pos (Qa.mp h).1,h]
 ·rfl
theorem Rl.frzAt:∀(is:List Nat) {F:Hp}{S:Ft}{ρ:PSt},Rl K F H S ρ σ->∃F' S',Rl K F' H S' (frzAt is ρ) σ/\Sts C [] F H S ρ σ F' H S' (frzAt is ρ) σ
 |[],F,S,ρ,I=>⟨F,S,I,.refl⟩
 |i::is,F,S,ρ,I=>by
  have one:∃F1 S1,Rl K F1 H S1 (ρ.modify i jRe) σ/\Sts C [] F H S ρ σ F1 H S1 (ρ.modify i jRe) σ:=by
   rw[jLx];cases h:ρ[i]? with
   |none=>exact⟨F,S,I,.refl⟩
   |some o =>
    cases o with
    |none =>
     have e:ρ.set i (jRe none)=ρ:=jIp h;simp only[e];exact⟨F,S,I,.refl⟩
    |some sl =>
     cases sl with
     |bor t =>
      have e:ρ.set i (jRe (some (.bor t)))=ρ:=jIp h;simp only[e];exact⟨F,S,I,.refl⟩
     |own t=>exact⟨_,_,I.frz1 h⟩
  obtain⟨F1,S1,I1,s1⟩:=one;obtain⟨F2,S2,I2,s2⟩:=Rl.frzAt is I1;exact⟨F2,S2,I2,s1.trans s2⟩
end
noncomputable def jKU(C:List Nat):PT->Bool
 | .seq s r=>jKU C s&&jKU C r
 | .set i _=>!C.contains i
 | .own i _=>!C.contains i
 | .ife _ a b=>jKU C a&&jKU C b
 | .for_ tg _ _ body=>tg.ix.all (fun i=>!C.contains i)&&jKU C body
 | .nil=>true
 | .expr _=>true
 | .ret _=>true
 | .tset is _=>is.all fun i=>!C.contains i
 | .six _ _ _=>true
 | .sdf _ _=>true
 | .whl _ body=>jKU C body
 | .frz _ s=>jKU C s
section
variable{K:QD}{Γ:Ev}{Ψ:PEv}{E:XE}{EK:XK}{F H F1 H1 F2 H2:Hp}{S S1 S2:Ft}{ρ ρ1 ρ2:PSt}{σ σ1 σ2:St}{C J:List Nat}
theorem Sts.bind{L:List Nat}(s:Sts C J F H S ρ σ F1 H1 S1 ρ1 σ1)(b:Bd L F1 H1 S1 ρ1 σ1 F2 H2 S2 ρ2 σ2)(hL:∀j∈L,j∈J)(hC:∀j∈L,j∉C):Sts C J F H S ρ σ F2 H2 S2 ρ2 σ2 :=
 ⟨s.ff.trans b.ff,fun x u e n=>b.hh x u (s.hh x u e n),fun x e=>s.dm x (b.dm x e),fun x e z=>by
  by_cases q:F1 x=none
  ·exact .inr (s.dm x (b.fn x q z))
  ·exact s.fn x e q,fun x u=>s.uu x (b.U u),fun j t hj e hd=>by
  obtain⟨e1,e2,e3⟩:=b.out j fun z=>hj (hL j z);rw[e1]at e;obtain⟨g1,g2,g3⟩:=s.bo j t hj e hd;exact⟨g1,e2.trans g2,e3.trans g3⟩,fun j hj=>(b.out j fun z=>hC j z hj).2.2.trans (s.sg j hj)⟩
theorem jMS{tg:Tg}{body:PEnds->PSt->Prop}{tb:TS}{Z:PEnds}{Dn:Ends}{xs:List Item}{ys:List T}{st:Hp->Prop}{Y:AdP}
  (ib:∀{F H:Hp}{S:Ft}{ρ:PSt}{σ:St}{Z:PEnds}{Dn:Ends},Rl K F H S ρ σ->XOk K F H S ρ E EK->body Z ρ->EndsOk K C F H S ρ σ Z Dn->tb Dn σ H)
  (I:Rl K F H S ρ σ) (X:XOk K F H S ρ E EK) (hC:∀j∈tg.ix,j∉C) (pr:Paired (ItV K F H Y) xs ys) (hy:∀b,Y b->¬ U ρ S b/\H b≠none/\F b=none) (hst:∀F' H',Same F F'->Same F' H'->(∀b,Y b->H' b=H b)->st H') (h:jIF body tg Z ys ρ)
  (onx:∀F' H' S' ρ' σ',Sts C tg.ix F H S ρ σ F' H' S' ρ' σ'->Rl K F' H' S' ρ' σ'->Z.nx ρ'->Dn.nx σ' H')
  (ort:∀v t W F' H' S' ρ' σ',Stc C F H S ρ σ F' H' S' ρ' σ'->Rl K F' H' S' ρ' σ'->Tr K F' H' true v t W->Held F' H' S' ρ' W->(∀b,W b->H b=none∨U ρ S b)->Z.rt t ρ'->Dn.rt v H'):jWz K xs st tg tb Dn σ H:=by
 intro J hJ;have len:=qS pr;have yk:∀{F1 H1:Hp}{S1:Ft}{ρ1:PSt}{σ1:St},Sts C tg.ix F H S ρ σ F1 H1 S1 ρ1 σ1->∀b,Y b->H1 b=H b/\F1 b=none:=fun {F1 H1 S1 ρ1 σ1} s b hb=>by
  obtain⟨n,d1,d2⟩:=hy b hb;refine⟨?_,?_⟩
  ·cases e:H b with
   |none=>exact absurd e d1
   |some u=>exact s.hh b u e n
  ·by_cases q:F1 b=none
   ·exact q
   ·exact((s.fn b d2 q).elim n d1).elim
 refine⟨fun i m σ' H'=>i<=xs.length/\m=xs.length - i/\∃ρ' F' S',Sts C tg.ix F H S ρ σ F' H' S' ρ' σ'/\Rl K F' H' S' ρ' σ'/\jIF body tg Z (ys.drop i) ρ',⟨_,qG _,rfl,ρ,F,S,.refl,I,by simpa using h⟩,?_⟩;rintro i m σ1 H1 ⟨hi,rfl,ρ1,F1,S1,s1,I1,h1⟩;have hs:=hst F1 H1 s1.ff I1.fh fun b hb=>(yk s1 b hb).1;rcases QAv i xs.length with hlt|hge
 ·refine .inr ⟨hJ.go i H1 hs hlt,fun σ' H'=>i+1<=xs.length/\∃ρ' F' S',Sts C tg.ix F H S ρ σ F' H' S' ρ' σ'/\Rl K F' H' S' ρ' σ'/\jIF body tg Z (ys.drop (i+1)) ρ',fun σ' H' ⟨a,b⟩=>⟨_,by omega,a,rfl,b⟩,fun x H2 hyl=>?_⟩
  obtain⟨it,hx,hm⟩:=hJ.yld i H1 x H2 hs hlt hyl;obtain⟨y,hd,ry⟩:=Paired.get_of pr hx;rw[hd]at h1;unfold jIF at h1;have key:L3.bindI K tg it σ1 H1 fun σ2 H2=>tb { Dn with nx:=fun σ' H'=>i+1<=xs.length/\∃ρ' F' S',Sts C tg.ix F H S ρ σ F' H' S' ρ' σ'/\Rl K F' H' S' ρ' σ'/\jIF body tg Z (ys.drop (i+1)) ρ',ct:=fun σ' H'=>i+1<=xs.length/\∃ρ' F' S',Sts C tg.ix F H S ρ σ F' H' S' ρ' σ'/\Rl K F' H' S' ρ' σ'/\jIF body tg Z (ys.drop (i+1)) ρ',bk:=Dn.nx } σ2 H2:=by
   refine jGS I1 (fun b hb u=>?_) (ry.mono s1.ff (yk s1)) h1 fun ρ2 σ2 F2 H3 S2 bd I2 h2=>?_
   ·rcases s1.uu b u with q|q
    ·exact(hy b hb).1 q
    ·exact(hy b hb).2.1 q
   ·have s2:=s1.bind bd (fun j hj=>hj) hC
    exact ib I2 (X.fromS s2) h2 ⟨fun F' H' S' ρ' σ' s' I' q=>⟨hlt,ρ',F',S',s2.trans s',I',q⟩,fun v t W F' H' S' ρ' σ' s' I' r hw fr q=>ort v t W F' H' S' ρ' σ' (s2.c.trans s') I' r hw (frS s2 fr) q,
     fun F' H' S' ρ' σ' s' I' q=>onx F' H' S' ρ' σ' (s2.trans s') I' q,fun F' H' S' ρ' σ' s' I' q=>⟨hlt,ρ',F',S',s2.trans s',I',q⟩⟩
  exact jFk hm key
 ·have e:ys.drop i=[]:=Wc (by omega)
  rw[e]at h1;exact .inl ⟨hJ.stop i H1 hs hge,onx F1 H1 S1 ρ1 σ1 s1 I1 h1⟩
theorem jC5:∀(J:List Nat) (ρ:PSt) (i:Nat) s,(kill J ρ)[i]?=some (some s)->ρ[i]?=some (some s)/\(i∈J->∀t,s=.bor t->t.isD=true)
 |[],ρ,i,s,h=>⟨h,fun z=>by simp at z⟩
 |j::J,ρ,i,s,h=>by
  unfold kill at h;obtain⟨h1,h2⟩:=jC5 J _ i s h;rw[Ww]at h1;by_cases e:j=i
  ·subst e
   simp only[reduceIte]at h1;cases q:ρ[j]? with
   |none=>rw[q]at h1;cases h1
   |some o =>
    rw[q]at h1;have h1:jD6 o=some s:=by simpa using h1
    cases o with
    |none=>cases h1
    |some sl =>
     cases sl with
     |own t=>cases h1;exact⟨rfl,fun _ t' z=>by cases z⟩
     |bor t =>
      have h1:(if t.isD=true then some (Sl.bor t) else none)=some s:=h1;cases hd:t.isD with
      |true =>
       rw[hd,if_pos rfl]at h1;cases h1;exact⟨rfl,fun _ t' z=>by cases z;exact hd⟩
      |false=>rw[hd]at h1;simp at h1
  ·simp only[e,if_false]at h1
   refine⟨by simpa using h1,fun m=>h2 ((QK.mp m).elim (fun z=>absurd z.symm e) id)⟩
theorem jGB:∀(J:List Nat) (ρ:PSt),(kill J ρ).length=ρ.length
 |[],_=>rfl
 |j::J,ρ=>by unfold kill;rw[jGB J];simp
theorem Sts.kill(s:Sts C J F H S ρ σ F1 H1 S1 ρ1 σ1):Sts C [] F H S ρ σ F1 H1 S1 (L3.kill J ρ1) σ1 :=
 ⟨s.ff,s.hh,s.dm,s.fn,fun b ⟨i,t,h1,h2⟩=>s.uu b ⟨i,t,(jC5 J ρ1 i _ h1).1,h2⟩,fun j t _ e hd=>by
  obtain⟨h1,h2⟩:=jC5 J ρ1 j _ e;by_cases hj:j∈J
  ·rw[h2 hj t rfl]at hd;cases hd
  ·exact s.bo j t hj h1 hd,s.sg⟩
theorem jJB:∀(L:List Nat) (ρ:PSt) (j:Nat),(lock L ρ)[j]?=if j∈L then ρ[j]?.map jEc else ρ[j]?
 |[],ρ,j=>by simp[lock]
 |i::L,ρ,j=>by
  have l2:∀o,jEc (jEc o)=jEc o:=fun o=>by
   match o with
   |none=>rfl
   |some (.own _)=>rfl
   |some (.bor _)=>rfl
  unfold lock;rw[jJB L,Ww];by_cases e:i=j
  ·subst e
   cases h:ρ[i]? with
   |none=>simp
   |some o=>simp[l2]
  ·have e':¬ j=i:=fun z=>e z.symm
   simp[e,e']
theorem jJA:∀(L:List Nat) (ρ:PSt),(lock L ρ).length=ρ.length
 |[],_=>rfl
 |i::L,ρ=>by unfold lock;rw[jJA L];simp
theorem jFN:∀(L:List Nat) (ρ0 ρ:PSt) (j:Nat),(∀i∈L,i<ρ.length)->(jBd L ρ0 ρ)[j]?=if j∈L then some (ρ0[j]?.getD none) else ρ[j]?
 |[],ρ0,ρ,j,_=>by simp[jBd]
 |i::L,ρ0,ρ,j,h=>by
  unfold jBd;rw[jFN L ρ0 _ j (fun k hk=>by simpa using h k (QE _ hk)),wG];by_cases e:i=j
  ·subst e
   simp[h i QF]
  ·have e':¬ j=i:=fun z=>e z.symm
   simp[e,e']
theorem jFM:∀(L:List Nat) (ρ0 ρ:PSt),(jBd L ρ0 ρ).length=ρ.length
 |[],_,_=>rfl
 |i::L,ρ0,ρ=>by unfold jBd;rw[jFM L];simp
theorem jDV{ρ:PSt}:∀(is:List Nat),∀i∈jBZ ρ is,∃t,ρ[i]?=some (some (.own t))
 |[],i,h=>by simp[jBZ]at h
 |j::is,i,h=>by
  unfold jBZ at h;split at h
  ·rename_i ho
   rcases QK.mp h with e|e
   ·subst e
    unfold jLT at ho;split at ho
    ·rename_i t e;exact⟨t,e⟩
    all_goals cases ho
   ·exact jDV is i e
  ·exact jDV is i h
theorem jFX{ρ:PSt}{i:Nat}{t:T}(h:ρ[i]?=some (some (.own t))):∀(is:List Nat),i∈is->i∈jBZ ρ is
 |[],hi=>by simp at hi
 |j::is,hi=>by
  unfold jBZ;rcases QK.mp hi with e|e
  ·subst e
   have:jLT ρ[i]?=true:=by rw[h];rfl
   rw[if_pos this];exact QF
  ·have:=jFX h is e
   split
   ·exact QE _ this
   ·exact this
section
variable{L:List Nat}(hL:∀i∈L,∃t,ρ[i]?=some (some (.own t)))
include hL
theorem jG7{i:Nat}{s:Sl}(h:(lock L ρ)[i]?=some (some s)):(i∈L/\∃t,ρ[i]?=some (some (.own t))/\s=.bor t)∨(i∉L/\ρ[i]?=some (some s)):=by
 rw[jJB]at h;by_cases hi:i∈L
 ·rw[if_pos hi]at h
  obtain⟨t,e⟩:=hL i hi;rw[e]at h;injection h with h
  injection h with h
  exact .inl ⟨hi,t,e,h.symm⟩
 ·rw[if_neg hi]at h
  exact .inr ⟨hi,h⟩
theorem jC3{b:Addr}(h:U (lock L ρ) S b):U ρ S b:=by
 obtain⟨i,t,h1,h2⟩:=h;rcases jG7 hL h1 with⟨_,t',_,e⟩| ⟨_,h1⟩
 ·cases e
 ·exact⟨i,t,h1,h2⟩
theorem Rl.lock(I:Rl K F H S ρ σ):Rl K F H S (L3.lock L ρ) σ where
 fh:=I.fh
 len:=by rw[jJA];exact I.len
 sl:=fun i s e=>by
  rcases jG7 hL e with⟨_,t,h,rfl⟩| ⟨_,h⟩
  ·obtain⟨v,h1,h2⟩:=I.sl i _ h
   exact⟨v,h1,h2.weak⟩
  ·exact I.sl i s h
 dj:=fun i j t s n e1 e2=>by
  rcases jG7 hL e1 with⟨_,_,_,z⟩| ⟨_,h1⟩
  ·cases z
  ·rcases jG7 hL e2 with⟨_,t',h2,_⟩| ⟨_,h2⟩
   ·exact I.dj i j t _ n h1 h2
   ·exact I.dj i j t s n h1 h2
theorem Rl.lockU(I:Rl K F H S ρ σ){i:Nat}(hi:i∈L){b:Addr}(hb:S i b):¬ U (L3.lock L ρ) S b:=fun⟨j,t,h1,h2⟩=>by
 obtain⟨t',e⟩:=hL i hi;rcases jG7 hL h1 with⟨_,_,_,z⟩| ⟨hj,h1⟩
 ·cases z
 ·exact I.dj j i t _ (fun z=>hj (z▸hi)) h1 e b h2 hb
theorem jKe(I:Rl K F H S ρ σ)(s:Sts C [] F H S (lock L ρ) σ F1 H1 S1 ρ1 σ1)(I1:Rl K F1 H1 S1 ρ1 σ1)(hl:∀i∈L,ρ1[i]?=ρ[i]?.map jEc) :
  ∃S2,Rl K F1 H1 S2 (jBd L ρ ρ1) σ1/\Sts C [] F H S ρ σ F1 H1 S2 (jBd L ρ ρ1) σ1:=by
 classical
 have l1:∀i∈L,∃t,ρ[i]?=some (some (.own t))/\ρ1[i]?=some (some (.bor t)):=fun i hi=>by
  obtain⟨t,e⟩:=hL i hi;have:=hl i hi;rw[e]at this;exact⟨t,e,this⟩
 have hlt:∀i∈L,i<ρ1.length:=fun i hi=>by
  obtain⟨t,_,e⟩:=l1 i hi;exact(Qa.mp e).1
 let S2:Ft:=fun i=>if i∈L then S i else S1 i
 have s2i:∀i∈L,S2 i=S i:=fun i hi=>if_pos hi;have s2o:∀i,i∉L->S2 i=S1 i:=fun i hi=>if_neg hi;have get:∀i sl,(jBd L ρ ρ1)[i]?=some (some sl)->(i∈L/\∃t,ρ[i]?=some (some (.own t))/\ρ1[i]?=some (some (.bor t))/\sl=.own t)∨(i∉L/\ρ1[i]?=some (some sl)):=fun i sl e=>by
  rw[jFN L ρ ρ1 i hlt]at e;by_cases hi:i∈L
  ·rw[if_pos hi]at e
   obtain⟨t,e1,e2⟩:=l1 i hi;rw[e1]at e;injection e with e
   have e:some (Sl.own t)=some sl:=e;injection e with e
   exact .inl ⟨hi,t,e1,e2,e.symm⟩
  ·rw[if_neg hi]at e
   exact .inr ⟨hi,e⟩
 have far:∀i∈L,∀k sl,k∉L->ρ1[k]?=some (some sl)->∀b,S i b->¬ S1 k b:=fun i hi k sl hk e b hb z=>by
  obtain⟨t,e1,_⟩:=l1 i hi;cases sl with
  |own u =>
   rcases s.uu b ⟨k,u,e,z⟩ with q|q
   ·exact I.lockU hL hi hb q
   ·exact(I.dom e1 hb).1 q
  |bor u =>
   cases hd:u.isD with
   |true=>exact I1.isD e hd z
   |false =>
    obtain⟨g1,g2,_⟩:=s.bo k u (by simp) e hd;rw[g2]at z;rcases jG7 hL g1 with⟨q,_⟩| ⟨_,g1⟩
    ·exact hk q
    ·exact I.dj i k t _ (fun q=>hk (q▸hi)) e1 g1 b hb z
 refine⟨S2,⟨I1.fh,by rw[jFM];exact I1.len,fun i sl e=>?_,fun i k t sl n e1 e2 b hb hk=>?_⟩,⟨s.ff,fun b u e n=>s.hh b u e fun z=>n (jC3 hL z),s.dm,fun b e z=>(s.fn b e z).imp (jC3 hL) id,fun b ⟨i,t,h1,h2⟩=>?_,fun j t _ e hd=>?_,s.sg⟩⟩
 ·rcases get i sl e with⟨hi,t,e1,e2,rfl⟩| ⟨hi,e1⟩
  ·rw[s2i i hi]
   obtain⟨v,g1,g2⟩:=I.sl i _ e1;cases hd:t.isD with
   |true =>
    obtain⟨v',g3,g4⟩:=I1.sl i _ e2;refine⟨v',g3,?_⟩;have nb:∀b,¬ S i b:=fun b=>I.isD e1 hd;cases t with
    |d x =>
     have g4:Tr K F1 H1 false v' (.d x) (S1 i):=g4;cases g4 with
     |d r _=>exact .d r nb
    |_=>cases hd
   |false =>
    obtain⟨_,_,g5⟩:=s.bo i t (by simp) e2 hd;refine⟨v,g5.trans g1,?_⟩;have g2:Tr K F H true v t (S i):=g2;refine g2.mono s.ff fun b hb=>?_;obtain⟨d1,d2⟩:=g2.dom b hb;have nu:=I.lockU hL hi hb;refine⟨?_,?_⟩
    ·cases eb:H b with
     |none=>exact absurd eb d1
     |some u=>exact s.hh b u eb nu
    ·by_cases q:F1 b=none
     ·exact q
     ·exact((s.fn b d2 q).elim nu d1).elim
  ·rw[s2o i hi]
   exact I1.sl i sl e1
 ·rcases get i _ e1 with⟨hi,t',a1,a2,_⟩| ⟨hi,a1⟩
  ·rw[s2i i hi]at hb
   rcases get k sl e2 with⟨hk',t2,b1,b2,_⟩| ⟨hk',b1⟩
   ·rw[s2i k hk']at hk
    exact I.dj i k t' _ n a1 b1 b hb hk
   ·rw[s2o k hk']at hk
    exact far i hi k sl hk' b1 b hb hk
  ·rw[s2o i hi]at hb
   rcases get k sl e2 with⟨hk',t2,b1,b2,_⟩| ⟨hk',b1⟩
   ·rw[s2i k hk']at hk
    exact far k hk' i _ hi a1 b hk hb
   ·rw[s2o k hk']at hk
    exact I1.dj i k t sl n a1 b1 b hb hk
 ·rcases get i _ h1 with⟨hi,t',a1,a2,_⟩| ⟨hi,a1⟩
  ·rw[s2i i hi]at h2
   exact .inl ⟨i,t',a1,h2⟩
  ·rw[s2o i hi]at h2
   exact(s.uu b ⟨i,t,a1,h2⟩).imp (jC3 hL) id
 ·rcases get j _ e with⟨_,_,_,_,z⟩| ⟨hj,e1⟩
  ·cases z
  ·obtain⟨g1,g2,g3⟩:=s.bo j t (by simp) e1 hd
   rcases jG7 hL g1 with⟨q,_⟩| ⟨_,g1⟩
   ·exact absurd q hj
   ·exact⟨g1,(s2o j hj).trans g2,g3⟩
end
theorem jH0{i:Nat}(h:(!C.contains i)=true):i∉C:=fun z=>by
 have:C.contains i=true:=Qm.mpr z;rw[this]at h;cases h
theorem jI6{is:List Nat}(h:(is.all fun i=>!C.contains i)=true):∀i∈is,i∉C:=fun i hi=>jH0 (qM.mp h i hi)
theorem jMu:∀{xs:List (T×Bool)},jOb xs=true->∀t∈jM4 xs,t.isD=true
 |[],_,t,h=>by simp[jM4]at h
 |p::r,h,t,ht=>by
  simp only[jOb,Qb]at h;simp only[jM4,QK]at ht;rcases ht with rfl|ht
  ·obtain⟨x,n⟩:=p
   cases n with
   |true=>rfl
   |false =>
    have h1:=h.1;cases x with
    |d x=>rfl
    |_=>cases h1
  ·exact jMu h.2 t ht
theorem Tn.bare{Y:AdP}{vs:List V}{ts:List T}(h:Tn K F H Y vs ts):(∀t∈ts,t.isD=true)->Tn K F H (fun _=>False) vs ts:=by
 induction h with
 |nil=>exact fun _=>.nil
 |@cons v t vs ts Z r z tl ih =>
  intro hd;refine .cons (Z:=fun _=>False) ?_ (fun _ z=>z) (ih fun u hu=>hd u (QE _ hu));have hd:=hd t QF;cases t with
  |d x=>cases r with|d q _=>exact .d q fun _ z=>z
  |_=>cases hd
theorem jO1{v:V}{t:T}{W:AdP}{Z:PEnds}{Dn:Ends}(ok:EndsOk K C F H S ρ σ Z Dn)(s:Ste F H S ρ F1 H1 S1 ρ1)(I:Rl K F1 H1 S1 ρ1 σ)(r:Tr K F1 H1 true v t W)(hw:Held F1 H1 S1 ρ1 W)(fr:∀b,W b->H b=none∨U ρ S b)(q:Z.rt t ρ1):Dn.rt v H1 :=
 ok.rt v t W F1 H1 S1 ρ1 σ (s.toStp.sts (J:=[])).c I r hw fr q
theorem jQH(g:GOk K Γ Ψ):∀(e:PX) {F H:Hp}{S:Ft}{ρ:PSt}{σ:St}{Z:PEnds}{Dn:Ends},Rl K F H S ρ σ->XOk K F H S ρ E EK->jK7 Ψ E Z.rt e ρ->EndsOk K C F H S ρ σ Z Dn->(wp K Γ e EK).e σ H Dn.rt:=by
  intro e F H S ρ σ Z Dn I X h ok;have gen:∀e,(pe Ψ e E).e ρ (fun x n ρ1=>esc x n=true/\Z.rt x ρ1)->(wp K Γ e EK).e σ H Dn.rt:=fun e h=>by
   refine(jBB g e).e (Q:=fun x n ρ1=>esc x n=true/\Z.rt x ρ1) I X h fun v F' H' S' ρ' x n Za s J r ⟨he,q⟩=>?_;obtain⟨W,r2,hw,fr⟩:=r.strict he;exact jO1 ok s J r2 hw fr q
  cases e with
  |var i =>
   have h':rdR ρ i Z.rt ρ[i]?:=h;show(match σ[i]? with|some (some v)=>Dn.rt v _|_=>False)
   match hd:ρ[i]?,h' with
   |some (some (.own t)),h' =>
    obtain⟨v,h1,r⟩:=I.sl i _ hd;rw[h1];have I0:Rl K F H S (ρ.set i none) σ:=I.drop (by simp) fun j s e=>by
     rcases jAB e with⟨_,z,_⟩| ⟨_,e⟩
     ·cases z
     ·exact e
    refine ok.rt v t (S i) F H S (ρ.set i none) σ ⟨.refl _,fun b u e _=>e,fun b e=>e,fun b e z=>absurd e z,fun b ⟨j,u,h1,h2⟩=>.inl ?_,fun _ _=>rfl⟩ I0 r ⟨r.dom,fun j s e b hb z=>?_⟩ (fun b hb=>.inr ⟨i,t,hd,hb⟩) h'
    ·rcases jAB h1 with⟨_,z,_⟩| ⟨_,h1⟩
     ·cases z
     ·exact⟨j,u,h1,h2⟩
    ·rcases jAB e with⟨_,q,_⟩| ⟨n,e⟩
     ·cases q
     ·exact I.dj i j t s n hd e b hb z
   |some (some (.bor t)),h' =>
    obtain⟨v,h1,r⟩:=I.sl i _ hd;rw[h1];obtain⟨ht,h'⟩:=h';cases t with
    |d x =>
     have r:Tr K F H false v (.d x) (S i):=r;cases r with
     |d q n=>exact jO1 (W:=fun _=>False) ok .refl I (.d q fun _ z=>z) .none (fun _ z=>z.elim) h'
    |_=>cases ht
   |some none,h'=>exact h'.elim
   |none,h'=>exact h'.elim
  |_=>exact gen _ h
theorem jF1(g:GOk K Γ Ψ):∀(p:PT) {F H:Hp}{S:Ft}{ρ:PSt}{σ:St}{Z:PEnds}{Dn:Ends},jKU C p=true->Rl K F H S ρ σ->XOk K F H S ρ E EK->pws Ψ E p Z ρ->EndsOk K C F H S ρ σ Z Dn->wps K Γ EK p Dn σ H
 | .nil,_,_,_,_,_,_,_,c,I,X,h,ok=>ok.nx _ _ _ _ _ .refl I h
 | .seq s r,_,_,_,_,_,_,_,c,I,X,h,ok=>by
  obtain⟨c1,c2⟩:=jAE c;exact jF1 g s c1 I X h ⟨fun F' H' S' ρ' σ' s' J q=>jF1 g r c2 J (X.fromS s') q (ok.from s'),ok.rt,ok.bk,ok.ct⟩
 | .set i e,F,H,S,ρ,σ,Z,Dn,c,I,X,h,ok=>by
  have hi:=jH0 c;refine jCy (RR:=fun x H1=>Dn.nx (σ.set i (some x)) H1) (jBB g e) I X h fun v F' H' S' ρ' x n Za s J X' r er _ ⟨he,q⟩=>?_;exact ok.nx _ _ _ _ _ (s.toStp.sts.setD i hi v rfl _) (J.setD i (er he)) q
 | .expr e,F,H,S,ρ,σ,Z,Dn,c,I,X,h,ok=>(jBB g e).e I X h fun v F' H' S' ρ' x n Za s J r q=>ok.nx _ _ _ _ _ s.toStp.sts J q
 | .ret e,F,H,S,ρ,σ,Z,Dn,c,I,X,h,ok=>jQH g e I X h ok
 | .ife t a b,F,H,S,ρ,σ,Z,Dn,c,I,X,h,ok=>by
  obtain⟨c1,c2⟩:=jAE c;refine(jBB g t).t I X h fun k F' H' S' ρ' s J q=>?_;cases k with
  |true=>exact jF1 g a c1 J (X.from s.toStp) q (ok.from s.toStp.sts)
  |false=>exact jF1 g b c2 J (X.from s.toStp) q (ok.from s.toStp.sts)
 | .for_ tg ik its body,F,H,S,ρ,σ,Z,Dn,c,I,X,h,ok=>by
  obtain⟨c1,c2⟩:=jAE c;have hC:=jI6 c1;refine jMr (RR:=fun vs H1=>jBm K ik vs H1 fun xs st H2=>jWz K xs st tg (wps K Γ EK body) Dn σ H2) (jBB g its) I X h fun vs F1 H1 S1 ρ1 xs Y s1 I1 X1 tn tm q=>?_;rw[jGb _ rfl]at q;have ok1:=ok.from s1.toStp.sts
  cases ha:jOb xs with
  |true =>
   have tn':=tn.bare (jMu ha);refine jEg I1.fh tn' q fun its ys st pr hst hc=>?_;rw[ha,if_pos rfl]at hc;refine jMS (fun I X h ok=>jF1 g body c2 I X h ok) I1 X1 hC pr (fun b z=>z.elim) hst hc ?_ ?_
   ·exact fun F' H' S' ρ' σ' s' I' q=>ok1.nx _ _ _ _ _ s'.kill (I'.drop (jGB _ _) fun i sl e=>(jC5 _ _ i sl e).1) q
   ·exact fun v t W F' H' S' ρ' σ' s' I' r hw fr q=>ok1.rt v t W F' H' S' ρ' σ' s' I' r hw fr q
  |false =>
   refine jEg I1.fh tn q fun its' ys st pr hst hc=>?_;rw[ha,if_neg (by simp)]at hc;have hL:=jDV (ρ:=ρ1) (vrs its);have IL:=I1.lock hL;have sL:Sts C [] F1 H1 S1 ρ1 σ F1 H1 (fun _ _=>False) [] σ:=⟨.refl _,fun b u e _=>e,fun b e=>e,fun b e z=>absurd e z,fun b ⟨i,t,e,_⟩=>by simp at e,fun j t _ e=>by simp at e,fun _ _=>rfl⟩
   have XL:XOk K F1 H1 S1 (lock (jBZ ρ1 (vrs its)) ρ1) E EK:=fun x dx F2 H2 S2 ρ2 s2 f r q =>
    X1 x dx F2 H2 (fun _ _=>False) [] ⟨s2.ff,fun b u e n=>s2.hh b u e fun z=>n (jC3 hL z),s2.dm,fun b e z=>(s2.fn b e z).imp (jC3 hL) id,fun b ⟨i,t,e,_⟩=>by simp at e,fun j t e=>by simp at e⟩ f r q
   refine jMS (fun I X h ok=>jF1 g body c2 I X h ok) IL XL hC pr (fun b hb=>?_) hst hc ?_ ?_
   ·obtain⟨i,sl,h1,h2,h3⟩:=tm b hb
    refine⟨fun u=>?_,I1.dom h2 h3⟩;cases sl with
    |own t=>exact I1.lockU hL (jFX h2 _ h1) h3 u
    |bor t =>
     obtain⟨j,t',e1,e2⟩:=u;rcases jG7 hL e1 with⟨_,_,_,z⟩| ⟨_,e1⟩
     ·cases z
     ·exact I1.dj j i t' _ (fun z=>by subst z;rw[h2]at e1;cases e1) e1 h2 b e2 h3
   ·intro F' H' S' ρ' σ' s' I' ⟨q1,q2⟩
    have sk:=s'.kill;have Ik:=I'.drop (jGB tg.ix ρ') fun i sl e=>(jC5 _ _ i sl e).1;obtain⟨S2,I2,s2⟩:=jKe hL I1 sk Ik fun i hi=>(q1 i hi).2;exact ok1.nx _ _ _ _ _ s2 I2 q2
   ·intro v t W F' H' S' ρ' σ' s' I' r hw fr q
    exact ok1.rt v t W F' H' S' ρ' σ' ⟨s'.ff,fun b u e n=>s'.hh b u e fun z=>n (jC3 hL z),s'.dm,fun b e z=>(s'.fn b e z).imp (jC3 hL) id,fun b u=>(s'.uu b u).imp (jC3 hL) id,s'.sg⟩ I' r hw (fun b hb=>(fr b hb).imp id (jC3 hL)) q
 | .own i e,F,H,S,ρ,σ,Z,Dn,c,I,X,h,ok=>by
  refine(jBB g e).e (Q:=fun x n ρ1=>esc x n=true/\Z.nx (ρ1.set i (some (.own x)))) I X h fun v F' H' S' ρ' x n Za s J r ⟨he,q⟩=>?_;obtain⟨W,r2,hw,fr⟩:=r.strict he;exact ok.nx _ _ _ _ _ (s.toStp.sts.setN i (jH0 c) v x fr) (J.setN i r2 fun j sl _ e b hb=>hw.nw j sl e b hb) q
 | .tset is e,F,H,S,ρ,σ,Z,Dn,c,I,X,h,ok=>by
  have hc:=jI6 c;refine jCy (RR:=fun x H1=>jDd K (.tp is) x σ H1 Dn.nx) (jBB g e) I X h fun v F' H' S' ρ' x n Za s J X' r er _ ⟨he,q⟩=>?_;have q2:jHT (.tp is) (.d x.er) ρ' fun ρ2=>Z.nx ρ2/\∀(j:Nat) t,ρ2[j]?=some (some (.bor t))->t.isD=false->j∉is:=by
   generalize x.er=d at q;cases d with
   |tuple ds =>
    obtain⟨ρ2,e,q⟩:=q;exact⟨ρ2,e,q,fun j t h1 h2=>(jGl is ds e j t h1 h2).1⟩
   |dict kvs =>
    have q:(match jA5 kvs with | .tp ts=>∃ρ2,jAq is ts ρ'=some ρ2/\Z.nx ρ2|_=>False):=q;unfold jA5 at q;cases ek:jCH kvs with
    |none=>rw[ek]at q;exact q.elim
    |some b=>rw[ek]at q;exact q.elim
   |_=>exact q.elim
  refine jGS (Y:=fun _=>False) (it:=.one v) J (fun b z=>z.elim) ⟨fun _=>False,.d (er he) fun _ z=>z,fun _ z=>z⟩ q2 fun ρ2 σ2 F2 H2 S2 bd J2 qn=>?_;have st:=(s.toStp.sts (σ:=σ) (C:=C) (J:=is)).bind bd (fun j hj=>hj) hc;exact ok.nx _ _ _ _ _ ⟨st.ff,st.hh,st.dm,st.fn,st.uu,fun j t _ e hd=>st.bo j t (qn.2 j t e hd) e hd,st.sg⟩ J2 qn.1
 | .six o i e,F,H,S,ρ,σ,Z,Dn,c,I,X,h,ok=>by
  have later:∀{j:Nat}{t:T}{v0:V},ρ[j]?=some (some (.own t))->Tr K F H true v0 t (S j)->∀{F' H':Hp}{S':Ft}{ρ':PSt},Ste F H S (ρ.set j (some (.bor t))) F' H' S' ρ'->Tr K F' H' true v0 t (S j)/\∀b,S j b->H' b=H b:=fun {j t v0} hj r0 {F' H' S' ρ'} s=>⟨s.toStp.keep r0 (I.lock1U hj),fun b hb=>by
   cases e:H b with
   |none=>exact absurd e (r0.dom b hb).1
   |some u=>exact s.hh b u e (I.lock1U hj b hb)⟩
  cases o with
  |var j =>
   have h:jEV ρ[j]? _:=h;unfold jEV at h;split at h
   ·rename_i t hj
    obtain⟨v0,hv,r0⟩:=I.sl j _ hj;have r0:Tr K F H true v0 t (S j):=r0;show(wp K Γ e EK).e σ H fun v H1=>(wp K Γ (.var j) EK).e σ H1 fun ov H2=>(wp K Γ i EK).e σ H2 fun iv H3=>jOx K ov iv v H3 fun H4=>Dn.nx σ H4;refine jCy (jBB g e) (I.lock1 hj) (X.lock1 hj) h fun xv F1 H1 S1 ρ1 x n Zx s1 I1 X1 _ er1 _ ⟨he,q1⟩=>?_;have rx:=er1 he;show(match σ[j]? with|some (some v)=>_|_=>False);rw[hv];refine jCy (jBB g i) I1 X1 q1 fun iv F2 H2 S2 ρ2 y m Zy s2 I2 X2 _ er2 _ ⟨he2,hj2,q2⟩=>?_;have s12:=s1.trans s2;refine jOp I2.fh (later hj r0 s12).1 (er2 he2) (rx.mono s2.ff) q2 fun t' H3 S3 hh dm rt sub q=>?_;obtain⟨st,I3,_⟩:=jEC (W:=fun _=>False) I hj hv s12 I2 hh dm rt (fun b hb=>.inl (sub b hb)) .none (fun _ z=>z.elim);exact ok.nx _ _ _ _ _ st.toStp.sts I3 q
   all_goals exact h.elim
  |idx a k =>
   cases a with
   |var j =>
    have h:jEV ρ[j]? _:=h;unfold jEV at h;split at h
    ·rename_i t hj
     obtain⟨v0,hv,r0⟩:=I.sl j _ hj;have r0:Tr K F H true v0 t (S j):=r0;show(wp K Γ e EK).e σ H fun v H1=>(wp K Γ (.var j) EK).e σ H1 fun ov H2=>(wp K Γ k EK).e σ H2 fun zv H3=>jR7 K ov zv H3 fun ow H4=>(wp K Γ i EK).e σ H4 fun iv H5=>jOx K ow iv v H5 fun H6=>Dn.nx σ H6;refine jCy (jBB g e) (I.lock1 hj) (X.lock1 hj) h fun xv F1 H1 S1 ρ1 x n Zx s1 I1 X1 _ er1 _ ⟨he,q1⟩=>?_;have rx:=er1 he;show(match σ[j]? with|some (some v)=>_|_=>False);rw[hv];refine jCy (jBB g k) I1 X1 q1 fun zv F2 H2 S2 ρ2 z l Zz s2 I2 X2 _ er2 _ ⟨hez,b,ks,ts,n,s,et,hk,hf,ht,q2⟩=>?_;have s12:=s1.trans s2;have rz:=er2 hez;subst et;obtain⟨r2,k2⟩:=later hj r0 s12;obtain⟨a,o,vs,ea,ho,dk,hw⟩:∃a o vs,v0=.ref a/\H2 a=some o/\DKo K F2 b o ks vs/\∃w,vs[n]?=some w/\S j a:=by
      cases r2 with
      |dct h1 dk h2 h3 h4 h5 =>
       obtain⟨w,_,g1,_⟩:=h3.get ht;exact⟨_,_,_,rfl,h1,dk,w,g1,(h5 _).mpr (.inl rfl)⟩
     obtain⟨w,hw,sa⟩:=hw;subst ea;have gd:=(dk.mono I2.fh).get ho (rz.mono I2.fh) hk;rw[hf]at gd;have gd:jOd K H2 a zv (vs[n]?):=gd;rw[hw]at gd;have fin:(wp K Γ i EK).e σ H2 fun iv H5=>jOx K w iv xv H5 fun H6=>Dn.nx σ H6:=by
      refine jCy (jBB g i) I2 X2 q2 fun iv F3 H3 S3 ρ3 y m Zy s3 I3 X3 _ er3 _ ⟨he3,hj3,q3⟩=>?_;have s13:=s12.trans s3;obtain⟨r3,k3⟩:=later hj r0 s13;have ho3:H3 a=some o:=by rw[k3 a sa,<- k2 a sa];exact ho
      refine jP3 I3.fh r3 ho3 dk hw ht (er3 he3) ((rx.mono s2.ff).mono s3.ff) q3 fun t' H4 S4 hh dm rt sub q=>?_;obtain⟨st,I4,_⟩:=jEC (W:=fun _=>False) I hj hv s13 I3 hh dm rt (fun b hb=>.inl (sub b hb)) .none (fun _ z=>z.elim);exact ok.nx _ _ _ _ _ st.toStp.sts I4 q
     cases zv with
     |str z=>exact⟨w,gd,fin⟩
     |ref c=>exact⟨w,gd,fin⟩
     |_=>exact gd.elim
    all_goals exact h.elim
   |_=>exact h.elim
  |_=>exact h.elim
 | .sdf j k,F,H,S,ρ,σ,Z,Dn,c,I,X,h,ok=>by
  have h:jEV ρ[j]? _:=h;unfold jEV at h;split at h
  ·rename_i t hj
   obtain⟨v0,hv,r0⟩:=I.sl j _ hj;have r0:Tr K F H true v0 t (S j):=r0;obtain⟨hd,h⟩:=h;show(match σ[j]? with|some (some v)=>tyV K "dict" v H/\(wp K Γ k EK).e σ H fun x H1=>∀p,H1 p=none->jFz K v [x,.ref p] (upd H1 p (.dT 0 [])) fun _ H2=>Dn.nx σ H2|_=>False);rw[hv];constructor
   ·cases r0 with
    |@dct _ b _ _ _ _ _ _ _ h1 dk _ _ _ _ =>
     cases b with
     |true=>obtain⟨ep,kvs,rfl,_⟩:=dk;exact .inr (.inr (.inl ⟨rfl,.inr ⟨ep,kvs,h1⟩⟩))
     |false=>cases hd
    |_=>cases hd
   ·refine jCy (jBB g k) (I.lock1 hj) (X.lock1 hj) h fun iv F1 H1 S1 ρ1 y m Zy s1 I1 X1 _ er _ ⟨he,hj1,q1⟩=>?_
    intro p hp;have r1:=s1.toStp.keep r0 (I.lock1U hj);refine jSc I1.fh hp r1 (er he) q1 fun t' H3 S3 hh dm rt sub q=>?_;obtain⟨st,I3,_⟩:=jEC (W:=fun _=>False) I hj hv s1 I1 hh dm rt (fun b hb=>(sub b hb).imp id fun(z:b=p)=>.inr (by rw[z];exact hp)) .none (fun _ z=>z.elim);exact ok.nx _ _ _ _ _ st.toStp.sts I3 q
  all_goals exact h.elim
 | .whl t body,F,H,S,ρ,σ,Z,Dn,c,I,X,h,ok=>by
  obtain⟨W,⟨m0,w0⟩,turn⟩:=h;refine⟨fun m σ' H'=>∃ρ' F' S',Sts C [] F H S ρ σ F' H' S' ρ' σ'/\Rl K F' H' S' ρ' σ'/\W m ρ',⟨m0,ρ,F,S,.refl,I,w0⟩,?_⟩;rintro m σ1 H1 ⟨ρ1,F1,S1,s1,I1,w1⟩;refine(jBB g t).t I1 (X.fromS s1) (turn m ρ1 w1) fun k F' H' S' ρ' s' J q=>?_;have s2:=s1.trans s'.toStp.sts;cases k with
  |false=>exact ok.nx _ _ _ _ _ s2 J q
  |true =>
   refine⟨fun σ' H'=>∃m',m' < m/\∃ρ' F' S',Sts C [] F H S ρ σ F' H' S' ρ' σ'/\Rl K F' H' S' ρ' σ'/\W m' ρ',fun _ _ z=>z,?_⟩;refine jF1 g body c J (X.fromS s2) q ⟨?_,?_,?_,?_⟩
   ·exact fun F' H' S' ρ' σ' s' I' ⟨m',hm,w⟩=>⟨m',hm,ρ',F',S',s2.trans s',I',w⟩
   ·exact fun v t W F' H' S' ρ' σ' s' I' r hw fr q=>ok.rt v t W F' H' S' ρ' σ' (s2.c.trans s') I' r hw (frS s2 fr) q
   ·exact fun F' H' S' ρ' σ' s' I' q=>ok.nx _ _ _ _ _ (s2.trans s') I' q
   ·exact fun F' H' S' ρ' σ' s' I' ⟨m',hm,w⟩=>⟨m',hm,ρ',F',S',s2.trans s',I',w⟩
 | .frz is s,F,H,S,ρ,σ,Z,Dn,c,I,X,h,ok=>by
  obtain⟨F',S',I',s'⟩:=I.frzAt (C:=C) is;exact jF1 g s c I' (X.fromS s') h (ok.from s')
end
noncomputable def tyB(x:Str)(n:String):Bool:=(x==("bool":Str)&&n == "bool")||(x==("int":Str)&&n == "int")||(x==("str":Str)&&n == "str")||(x==("list":Str)&&n == "list")||(x==("tuple":Str)&&n == "tuple")||(x==("ValueError":Str)&&n == "ValueError")
theorem jSQ{x:Str}{n:String}(h:tyB x n=true):bootBuiltins x=some (.type n):=by
 simp only[tyB,wM,Qb,beq_iff_eq]at h;rcases h with((((⟨rfl,rfl⟩| ⟨rfl,rfl⟩)|⟨rfl,rfl⟩)|⟨rfl,rfl⟩)|⟨rfl,rfl⟩)|⟨rfl,rfl⟩<;>kernel_rfl
structure Need where
 fn:List Str
 va:List Str
 no:List Str
noncomputable def ikB(n:Need):ItK->Bool
 | .val=>true
 | .rng1=>n.no.contains ("range":Str)
 | .enum=>n.no.contains ("enumerate":Str)
 | .itm=>true
noncomputable def jAr(n:Need):PX->Bool
 | .glo x=>n.va.contains x
 | .bty x t=>n.no.contains x&&tyB x t
 | .bin _ a b | .cmp _ a b | .and a b | .or a b | .idx a b | .acons a b | .dsp a b=>jAr n a&&jAr n b
 | .not a | .neg a | .lst a | .tup a=>jAr n a
 | .slc a b c=>jAr n a&&(jAr n b&&jAr n c)
 | .lset a=>n.no.contains "len" && (n.no.contains "set" && jAr n a)
 | .sset a=>n.no.contains "sorted" && (n.no.contains "set" && jAr n a)
 | .call f as=>n.fn.contains f&&jAr n as
 | .bi f as=>n.no.contains f.nm&&jAr n as
 | .isi a c=>n.no.contains ("isinstance":Str)&&(jAr n a&&jAr n c)
 | .mt _ o as=>jAr n o&&jAr n as
 | .comp _ _ _ ik its cond elt=>ikB n ik&&(jAr n its&&(jAr n cond&&jAr n elt))
 |_=>true
noncomputable def jC1(n:Need):PT->Bool
 | .seq s r=>jC1 n s&&jC1 n r
 | .set _ e=>jAr n e
 | .own _ e=>jAr n e
 | .expr e=>jAr n e
 | .ret e=>jAr n e
 | .ife c a b=>jAr n c&&(jC1 n a&&jC1 n b)
 | .for_ _ ik its body=>ikB n ik&&(jAr n its&&jC1 n body)
 | .tset _ e=>jAr n e
 | .six o i e=>jAr n o&&(jAr n i&&jAr n e)
 | .sdf i k=>jAr n (sdX i k)
 | .whl c b=>jAr n c&&jC1 n b
 | .frz _ s=>jC1 n s
 | .nil=>true
noncomputable def jJR(ev:Ev)(n:Need):Glob:=⟨ev,fun f=>f∈n.fn,fun x=>x∈n.va,fun x=>x∈n.no⟩
theorem jPQ{ev:Ev}{n:Need}{ik:ItK}(h:ikB n ik=true):ikN (jJR ev n) ik:=by
 cases ik with
 |val=>trivial
 |itm=>trivial
 |_=>exact Qm.mp h
theorem jBa{ev:Ev}{n:Need}:∀(p:PX),jAr n p=true->jAn (jJR ev n) p:=by
 intro p
 induction p with
 |glo x=>intro h;exact Qm.mp h
 |bty x t=>intro h;obtain⟨h1,h2⟩:=jAE h;exact⟨Qm.mp h1,jSQ h2⟩
 |bin _ a b ia ib|cmp _ a b ia ib|and a b ia ib|or a b ia ib|idx a b ia ib|acons a b ia ib|dsp a b ia ib=>intro h;obtain⟨h1,h2⟩:=jAE h;exact⟨ia h1,ib h2⟩
 |not a ia|neg a ia|lst a ia|tup a ia=>intro h;exact ia h
 |slc a b c ia ib ic=>intro h;obtain⟨h1,h23⟩:=jAE h;obtain⟨h2,h3⟩:=jAE h23;exact⟨ia h1,ib h2,ic h3⟩
 |call f as ia=>intro h;obtain⟨h1,h2⟩:=jAE h;exact⟨Qm.mp h1,ia h2⟩
 |lset a ia=>intro h;obtain⟨h1,h2⟩:=jAE h;obtain⟨h3,h4⟩:=jAE h2;exact⟨Qm.mp h1,Qm.mp h3,ia h4⟩
 |sset a ia=>intro h;obtain⟨h1,h2⟩:=jAE h;obtain⟨h3,h4⟩:=jAE h2;exact⟨Qm.mp h1,Qm.mp h3,ia h4⟩
 |bi f as ia=>intro h;obtain⟨h1,h2⟩:=jAE h;exact⟨Qm.mp h1,ia h2⟩
 |isi a c ia ic=>intro h;obtain⟨h1,h23⟩:=jAE h;obtain⟨h2,h3⟩:=jAE h23;exact⟨Qm.mp h1,ia h2,ic h3⟩
 |mt _ o as io ia=>intro h;obtain⟨h1,h2⟩:=jAE h;exact⟨io h1,ia h2⟩
 |comp _ _ _ ik its cond elt i1 i2 i3=>intro h;obtain⟨h1,h⟩:=jAE h;obtain⟨h2,h⟩:=jAE h;obtain⟨h3,h4⟩:=jAE h;exact⟨jPQ h1,i1 h2,i2 h3,i3 h4⟩
 |_=>intro _;trivial
theorem jLp{ev:Ev}{n:Need}:∀(p:PT),jC1 n p=true->jC0 (jJR ev n) p:=by
 intro p
 induction p with
 |seq s r is ir=>intro h;obtain⟨h1,h2⟩:=jAE h;exact⟨is h1,ir h2⟩
 |set _ e|own _ e|expr e|ret e|tset _ e=>intro h;exact jBa _ h
 |six o i e=>intro h;obtain⟨h1,h23⟩:=jAE h;obtain⟨h2,h3⟩:=jAE h23;exact⟨jBa _ h1,jBa _ h2,jBa _ h3⟩
 |sdf i k=>intro h;exact jBa _ h
 |frz _ s is=>intro h;exact is h
 |whl c b ib=>intro h;obtain⟨h1,h2⟩:=jAE h;exact⟨jBa _ h1,ib h2⟩
 |ife c a b ia ib=>intro h;obtain⟨h1,h23⟩:=jAE h;obtain⟨h2,h3⟩:=jAE h23;exact⟨jBa _ h1,ia h2,ib h3⟩
 |for_ _ ik its body ib=>intro h;obtain⟨h1,h23⟩:=jAE h;obtain⟨h2,h3⟩:=jAE h23;exact⟨jPQ h1,jBa _ h2,ib h3⟩
 |_=>intro _;trivial
noncomputable def jGD(N ps:List Str)(sc:Scope):Bool:=sc.kind==.function&&!sc.isCoroutine&&!sc.isGenerator&&jGx N&&N.take ps.length==ps &&
 ps.all (fun x=>sc.names.lookup x==some .local||sc.names.lookup x==some .cell)&&sc.names.all fun y=>y.2 != .free
theorem jIG{N ps:List Str}{sc:Scope}(h:jGD N ps sc=true):FnScope N ps sc:=by
 simp only[jGD,Qb,qM,wM,beq_iff_eq,Qs,bne_iff_ne,ne_eq]at h;obtain⟨⟨⟨⟨⟨⟨h1,h2⟩,h3⟩,h4⟩,h5⟩,h6⟩,h7⟩:=h;exact⟨h1,h2,h3,jEZ h4,h5,h6,h7⟩
noncomputable def jEq(n:Need)(b:PT)(N ps:List Str)(st:Stmt):Bool:=jGD N ps (jAZ st)&&jOS b ⟨N,jAZ st⟩ (jBh st)&&jC1 n b
noncomputable def jWM:Md->T->Sl
 | .chg,t=>.own t
 |_,t=>.bor t
noncomputable def jFG:List Md->List T->PSt
 |_,[]=>[]
 |md,t::ts=>some (jWM (md.headD .fro) t)::jFG md.tail ts
noncomputable def jAH(N:List Str)(md:List Md)(ts:List T):PSt:=jFG md ts++Qw (N.length - ts.length) none
noncomputable def jBV:Nat->List Md->Nat->List Nat
 |_,_,0=>[]
 |k,md,n+1=>match md.headD .fro with
  | .chg=>k::jBV (k+1) md.tail n
  |_=>jBV (k+1) md.tail n
noncomputable def jS9:Option (List T)->(List T->Prop)->Prop
 |some os,Q=>Q os
 |none,_=>False
noncomputable def jAx(P:PSp)(n:Nat)(Q:T->List T->Prop):PEnds where
 nx:=fun ρ=>jS9 (jAg (jBV 0 P.md n) ρ) (Q (.d .none))
 rt:=fun t ρ=>jS9 (jAg (jBV 0 P.md n) ρ) (Q t)
noncomputable def jPx(mg:Str->Option Value)(x:Str):V:=((mg x).bind jM7).getD .non
noncomputable def jXk(K:QD)(mg:Str->Option Value)(Ψ:PEv):Ev:=⟨fun f=>lift K (Ψ.sp f),jPx mg⟩
structure ValsOk(P:Program)(w:World)(K:QD)(mg:Str->Option Value)(Ψ:PEv)(va:List Str):Prop where
 rep:∀x d,Ψ.va x=some d->∀F,Rep K F (jPx mg x) d
 has:∀x∈va,∃u v,mg x=some u/\jM7 u=some v
theorem jLA{u:Value}{v:V}(h:jM7 u=some v):jAm v u:=by
 cases u<;>first | (obtain rfl:=Q9 h;first|rfl|exact⟨_,rfl⟩)|exact nomatch (show(none:Option V)=some v from h)
section
variable{P:Program}{w:World}{K:QD}{mg:Str->Option Value}{base:Heap}{Ψ:PEv}
def jDH(P:Program)(w:World)(K:QD)(mg:Str->Option Value)(base:Heap)(Ψ:PEv)(k:Nat)(f:Str):Prop :=
 ∃(a:Addr) (fd:FuncData) (ps:List Str),FnOk P w K mg base CX0 k a fd ps (lift K (Ψ.sp f))/\mg f=some (.ref a)/\wu K (.ref a)=true/\jGW K fd ps []
theorem jDH.mono{j k:Nat}{f:Str}(h:jDH P w K mg base Ψ j f)(hk:j<=k):jDH P w K mg base Ψ k f:=by
 obtain⟨a,fd,ps,h1,h2⟩:=h;exact⟨a,fd,ps,h1.mono hk,h2⟩
theorem ArgsR.length{F H:Hp}{Y:AdP}{md:List Md}{vs:List V}{ts:List T}(h:ArgsR K F H Y md vs ts):vs.length=ts.length:=by
 induction h with
 |nil=>rfl
 |chg _ _ e=>exact congrArg Nat.succ e
 |rd _ _ _ _ e=>exact congrArg Nat.succ e
theorem jED:∀(m:List Md) (ts:List T),(jFG m ts).length=ts.length
 |_,[]=>rfl
 |m,d::ds=>by unfold jFG;rw[QL,QL,jED]
theorem jNd{m:Md}(h:m≠.chg)(t:T):jWM m t=.bor t:=by cases m<;>first|rfl|exact absurd rfl h
theorem jDY(md:List Md)(v:V)(vs:List V):jA0 md (v::vs)=match md.headD .fro with | .chg=>v::jA0 md.tail vs|_=>jA0 md.tail vs:=by first | (rw[jA0];done) | (rw[jA0];cases md.headD .fro<;>rfl)
theorem jFb(md:List Md)(v:T)(vs:List T):jBO md (v::vs)=match md.headD .fro with | .chg=>v::jBO md.tail vs|_=>jBO md.tail vs:=by first | (rw[jBO];done) | (rw[jBO];cases md.headD .fro<;>rfl)
theorem jGr(md:List Md)(t:T)(ts:List T):jFG md (t::ts)=some (jWM (md.headD .fro) t)::jFG md.tail ts:=by rw[jFG]
theorem jR0{F H:Hp}{Y:AdP}{md:List Md}{vs:List V}{ts:List T}{M:AdP}(h:ArgsR K F H Y md vs ts)(r:Trs K F H true (jA0 md vs) (jBO md ts) M) :
  ∃Z:Ft,(∀(i:Nat) s,(jFG md ts)[i]?=some (some s)->∃v,vs[i]?=some v/\Tr K F H s.st v s.t (Z i))/\(∀(i:Nat) t,(jFG md ts)[i]?=some (some (.own t))->∀b,Z i b->M b)/\(∀(i:Nat) t,(jFG md ts)[i]?=some (some (.bor t))->∀b,Z i b->Y b) /\
   ∀(i j:Nat) t u,i≠j->(jFG md ts)[i]?=some (some (.own t))->(jFG md ts)[j]?=some (some (.own u))->∀b,Z i b->¬ Z j b:=by
 induction h generalizing M with
 |nil=>exact⟨fun _ _=>False,fun i s e=>by simp[jFG]at e,fun i t e=>by simp[jFG]at e,fun i t e=>by simp[jFG]at e,fun i j t u _ e=>by simp[jFG]at e⟩
 |@chg md v vs t ts hm tl ih =>
  have e1:jA0 md (v::vs)=v::jA0 md.tail vs:=by rw[jDY,hm]
  have e2:jBO md (t::ts)=t::jBO md.tail ts:=by rw[jFb,hm]
  rw[e1,e2]at r;cases r with
  |@cons _ _ _ _ _ _ Z1 Z2 r1 r2 n q =>
   obtain⟨Z,h1,h2,h3,h4⟩:=ih r2;have ep:jFG md (t::ts)=some (.own t)::jFG md.tail ts:=by rw[jGr,hm];rfl
   rw[ep];refine⟨fun i=>match i with|0=>Z1|i+1=>Z i,fun i s e=>?_,fun i u e b hb=>?_,fun i u e b hb=>?_,fun i j u w ne e e' b hb hb'=>?_⟩
   ·cases i with
    |zero=>simp at e;subst e;exact⟨v,rfl,r1⟩
    |succ i=>exact h1 i s (by simpa using e)
   ·cases i with
    |zero=>exact(q b).mpr (.inl hb)
    |succ i=>exact(q b).mpr (.inr (h2 i u (by simpa using e) b hb))
   ·cases i with
    |zero=>simp at e
    |succ i=>exact h3 i u (by simpa using e) b hb
   ·cases i with
    |zero =>
     cases j with
     |zero=>exact ne rfl
     |succ j=>exact n b hb (h2 j w (by simpa using e') b hb')
    |succ i =>
     cases j with
     |zero=>exact n b hb' (h2 i u (by simpa using e) b hb)
     |succ j=>exact h4 i j u w (fun z=>ne (by rw[z])) (by simpa using e) (by simpa using e') b hb hb'
 |@rd md v vs t ts Z1 hm r1 hz tl ih =>
  have e1:jA0 md (v::vs)=jA0 md.tail vs:=by
   rw[jDY];cases e:md.headD .fro<;>first|exact absurd e hm|rfl
  have e2:jBO md (t::ts)=jBO md.tail ts:=by
   rw[jFb];cases e:md.headD .fro<;>first|exact absurd e hm|rfl
  rw[e1,e2]at r;obtain⟨Z,h1,h2,h3,h4⟩:=ih r;have ep:jFG md (t::ts)=some (.bor t)::jFG md.tail ts:=by rw[jGr,jNd hm]
  rw[ep];refine⟨fun i=>match i with|0=>Z1|i+1=>Z i,fun i s e=>?_,fun i u e b hb=>?_,fun i u e b hb=>?_,fun i j u w ne e e' b hb hb'=>?_⟩
  ·cases i with
   |zero=>simp at e;subst e;exact⟨v,rfl,r1⟩
   |succ i=>exact h1 i s (by simpa using e)
  ·cases i with
   |zero=>simp at e
   |succ i=>exact h2 i u (by simpa using e) b hb
  ·cases i with
   |zero=>exact hz b hb
   |succ i=>exact h3 i u (by simpa using e) b hb
  ·cases i with
   |zero=>simp at e
   |succ i =>
    cases j with
    |zero=>simp at e'
    |succ j=>exact h4 i j u w (fun z=>ne (by rw[z])) (by simpa using e) (by simpa using e') b hb hb'
theorem jNH{F H:Hp}{N:List Str}{Y M:AdP}{md:List Md}{vs:List V}{ts:List T}(f:Same F H)(h:ArgsR K F H Y md vs ts)(hm:Trs K F H true (jA0 md vs) (jBO md ts) M)(dj:∀b,Y b->¬ M b) :
  ∃S,Rl K F H S (jAH N md ts) (jCt N vs)/\∀b,U (jAH N md ts) S b->M b:=by
 obtain⟨Z,h1,h2,h3,h4⟩:=jR0 h hm;have hl:=h.length;have get:∀(i:Nat) s,(jAH N md ts)[i]?=some (some s)->(jFG md ts)[i]?=some (some s):=fun i s e=>by
  unfold jAH at e;rcases QAv i ts.length with z|z
  ·rwa [Qr (by rw[jED];exact z)]at e
  ·rw[Qy (by rw[jED];exact z),wm]at e
   split at e<;>cases e
 refine⟨Z,⟨f,?_,fun i s e=>?_,fun i j t s n e1 e2 b hb hb'=>?_⟩,fun b ⟨i,t,e,hb⟩=>h2 i t (get i _ e) b hb⟩
 ·unfold jAH jCt
  rw[QM,QM,jED,QG,qZ,qZ,hl]
 ·obtain⟨v,g1,g2⟩:=h1 i s (get i s e)
  refine⟨v,?_,g2⟩;unfold jCt;rw[Qr (by rw[QG];exact(Qa.mp g1).1),QY,g1]
  rfl
 ·cases s with
  |own u=>exact h4 i j t u n (get i _ e1) (get j _ e2) b hb hb'
  |bor u=>exact dj b (h3 j u (get j _ e2) b hb') (h2 i t (get i _ e1) b hb)
theorem jHM:∀{md:List Md}{k n:Nat}{vs:List V}{σ:St},vs.length=n->(∀(i:Nat) v,vs[i]?=some v->σ[k+i]?=some (some v))->(jA0 md vs).map (fun v=>some (some v))=(jBV k md n).map fun j=>σ[j]?
 |md,k,0,vs,σ,h,g=>by
  cases vs with
  |nil=>rfl
  |cons _ _=>cases h
 |md,k,n+1,vs,σ,h,g=>by
  cases vs with
  |nil=>cases h
  |cons v vs =>
   have ih:=jHM (md:=md.tail) (k:=k+1) (n:=n) (vs:=vs) (σ:=σ) (by simpa using h) fun i w hw=>by
    have:=g (i+1) w (by simpa using hw);rw[show k+1+i=k+(i+1) by omega];exact this
   have g0:=g 0 v rfl;rw[jDY];unfold jBV;cases e:md.headD .fro with
   |chg =>
    simp only[QR,ih];rw[show σ[k]?=some (some v) from g0]
   |_=>exact ih
theorem jGL:∀{md:List Md}{k n j:Nat},j∈jBV k md n->k<=j
 |md,k,0,j,h=>by simp[jBV]at h
 |md,k,n+1,j,h=>by
  unfold jBV at h;cases e:md.headD .fro with
  |chg =>
   rw[e]at h;rcases QK.mp h with z|z
   ·omega
   ·have:=jGL z;omega
  |_=>rw[e]at h;have:=jGL h;omega
theorem jJc:∀(md:List Md) (k n:Nat),(jBV k md n).Nodup
 |md,k,0=>Q7
 |md,k,n+1=>by
  have ih:=jJc md.tail (k+1) n;unfold jBV;cases e:md.headD .fro with
  |chg=>exact Qf.mpr ⟨fun z=>by have:=jGL z;omega,ih⟩
  |_=>exact ih
theorem jPS{R:PSp}{x qual:Str}{st:Stmt}{f:Addr}{fd:FuncData}{N ps:List Str}{k:Nat}{b:PT}{n:Need}(F:Fun K x qual st f fd)(chk:jEq n b N ps st=true)(hc:jKU (jBV 0 R.md ps.length) b=true)
  (fns:∀g∈n.fn,jDH P w K mg base Ψ k g) (vals:ValsOk P w K mg Ψ n.va) (nos:∀y∈n.no,mg y=none)
  (body:∀ts Q E,R.run ts Q E->ts.length=ps.length/\pws Ψ (fun _=>False) b (jAx R ps.length Q) (jAH N R.md ts)):FnOk P w K mg base CX0 (k+1) f fd ps (lift K R):=by
 obtain⟨c12,c3⟩:=jAE chk;obtain⟨c1,c2⟩:=jAE c12;have S:=jIG c1;refine F.ok S (fun vs H Q E h=>?_) (fun cdv A outer s H vs Q E hr h=>?_)
 ·obtain⟨F',ts,M,Y,h1,h2,h3,h4,h5⟩:=h
  rw[h2.length];exact(body ts _ _ h5).1
 ·obtain⟨F',ts,M,Y,h1,h2,h3,h4,h5⟩:=h
  have q:=(body ts _ _ h5).2;have hlen:=(body ts _ _ h5).1;have ok:OkS ((jRl CX0 P w K mg base N qual (jAZ st) f cdv A outer s H E).nox) ⟨N,jAZ st⟩ (jJR (jXk K mg Ψ) n) E0:={
   N:=rfl
   sc:=rfl
   calm:=rfl
   un:=by have:=hr.un;show(A.deeper _).units+66<cLine;omega
   fn:=fun g hg=>by
    obtain⟨a,gd,gps,g1,g2,g3,g4⟩:=fns g hg;exact⟨CX0,k,a,gd,gps,g1,hr,g2,g3,g4,jWL,fun _ _ _ _ _ z=>z⟩
   val:=fun y hy=>by
    obtain⟨u,v,e1,e2⟩:=vals.has y hy;refine⟨u,e1,?_⟩;show jAm (jPx mg y) u;unfold jPx;rw[e1];show jAm ((jM7 u).getD .non) u;rw[e2];exact jLA e2
   no:=fun y hy=>nos y hy
   po:=PassesOwn.never
   nd:=S.nd
   cel:=fun _=>rfl }
  refine⟨_,(jYN b ok c2 (jLp b c3)).1,?_⟩;obtain⟨S0,I,hU⟩:=jNH (N:=N) h1 h2 h3 h4;have g:GOk K (jXk K mg Ψ) Ψ:=⟨fun _ _ _ _ _ h=>h,fun y d e F=>vals.rep y d e F⟩
  have hvl:vs.length=ps.length:=h2.length.trans hlen;have fin:∀v t W F2 H2 S2 ρ2 σ2,Stc (jBV 0 R.md ps.length) F' H S0 (jAH N R.md ts) (jCt N vs) F2 H2 S2 ρ2 σ2->Rl K F2 H2 S2 ρ2 σ2->Tr K F2 H2 true v t W->Held F2 H2 S2 ρ2 W->(∀b,W b->H b=none∨U (jAH N R.md ts) S0 b) ->
    jS9 (jAg (jBV 0 R.md ps.length) ρ2) (fun os=>∀v F3 H3 Z M',Frm M F' H F3 H3->Tr K F3 H3 true v t Z->Trs K F3 H3 true (jA0 R.md vs) os M'->(∀b,Z b->¬ M' b)->(∀b,Z b∨M' b->M b∨H b=none)->Q v H3)->Q v H2:=by
   intro v t W F2 H2 S2 ρ2 σ2 s I2 r hw fr q;cases eo:jAg (jBV 0 R.md ps.length) ρ2 with
   |none=>rw[eo]at q;exact q.elim
   |some os =>
    rw[eo]at q;have hv:(jA0 R.md vs).map (fun v=>some (some v))=(jBV 0 R.md ps.length).map fun j=>σ2[j]?:=by
     rw[jHM (md:=R.md) (k:=0) (n:=ps.length) (vs:=vs) (σ:=jCt N vs) hvl fun i w hw=>?_]
     ·exact WQ fun j hj=>(s.sg j hj).symm
     ·unfold jCt
      rw[QAD,Qr (by rw[QG];exact(Qa.mp hw).1),QY,hw]
      rfl
    have trs:=I2.trs (jJc _ _ _) eo hv;have own:∀j∈jBV 0 R.md ps.length,∃t,ρ2[j]?=some (some (.own t)):=fun j hj=>by
     obtain⟨i,hi⟩:=Wn.mp hj;obtain⟨t,_,e⟩:=(jBx eo).2 i j hi;exact⟨t,e⟩
    have lk:∀b,U (jAH N R.md ts) S0 b∨H b=none->M b∨H b=none:=fun b hb=>hb.imp (hU b) id;refine q v F2 H2 W _ ⟨s.ff,I2.fh,fun b u e n=>s.hh b u e fun z=>n (hU b z),s.dm,fun b e z=>lk b (s.fn b e z)⟩ r trs (fun b hb ⟨j,hj,z⟩=>?_) fun b hb=>?_
    ·obtain⟨t',e⟩:=own j hj
     exact hw.nw j _ e b hb z
    ·rcases hb with hb|⟨j,hj,z⟩
     ·exact lk b (fr b hb).symm
     ·obtain⟨t',e⟩:=own j hj
      exact lk b (s.uu b ⟨j,t',e,z⟩)
  refine jF1 g b hc I (fun _ _ _ _ _ _ _ _ _ z=>z.elim) q ⟨?_,?_,fun _ _ _ _ _ _ _ z=>z.elim,fun _ _ _ _ _ _ _ z=>z.elim⟩
  ·intro F2 H2 S2 ρ2 σ2 s I2 q
   exact fin .non (.d .none) (fun _=>False) F2 H2 S2 ρ2 σ2 s.c I2 (.d .non fun _ z=>z) .none (fun _ z=>z.elim) q
  ·intro v t W F2 H2 S2 ρ2 σ2 s I2 r hw fr q
   exact fin v t W F2 H2 S2 ρ2 σ2 s I2 r hw fr q
theorem jOF{R:PSp}{Ψ':PEv}{x qual:Str}{st:Stmt}{f:Addr}{fd:FuncData}{N ps:List Str}{k:Nat}{b:PT}{n:Need}(F:Fun K x qual st f fd)(hm:mg x=some (.ref f))(hb:jGW K fd ps [])(chk:jEq n b N ps st=true)(hc:jKU (jBV 0 R.md ps.length) b=true)
  (fns:∀g∈n.fn,jDH P w K mg base Ψ k g) (vals:ValsOk P w K mg Ψ n.va) (nos:∀y∈n.no,mg y=none)
  (body:∀ts Q E,R.run ts Q E->ts.length=ps.length/\pws Ψ (fun _=>False) b (jAx R ps.length Q) (jAH N R.md ts)) (hR:Ψ'.sp x=R):jDH P w K mg base Ψ' (k+1) x :=
 ⟨f,fd,ps,by rw[hR];exact jPS F chk hc fns vals nos body,hm,F.kp,hb⟩
end
noncomputable def jLS:PSp where
 md:=[.shal]
 run:=fun ts Q _=>∃ns:List Int,ns.length<=63/\(∀n∈ns,W8 n<=1048576)/\ts=[.lst ((ns.map PyData.int).map T.d)]/\Q (.d (.bool true)) []
 mono:=fun h _ ⟨ns,h1,h2,h3,q⟩=>⟨ns,h1,h2,h3,h _ _ q⟩
noncomputable def pNo:PSp:=⟨[],fun _ _ _=>False,fun _ _ h=>h⟩
theorem jGo{K:QD}{F:Hp}:∀(ns:List Int),Reps K F (ns.map V.int) (ns.map PyData.int)
 |[]=>.nil
 |n::r=>.cons (.int n) (jGo r)
theorem jFT{K:QD}{F:Hp}:∀(ns:List Str),Reps K F (ns.map V.str) (ns.map PyData.str)
 |[]=>.nil
 |n::r=>.cons (.str n) (jFT r)
theorem jTk(K:QD)(H:Hp)(a:Addr)(ns:List Int)(hl:ns.length<=63)(hw:∀n∈ns,W8 n<=1048576)(hS:SqL K H a (ns.map V.int)):lift K jLS [.ref a] H (fun v _=>v=.bl true) fun _ _ _=>False:=by
 refine⟨H,[.lst ((ns.map PyData.int).map T.d)],fun _=>False,fun _=>False,.refl _,.rd (Z:=fun _=>False) (by simp[jLS]) (.lstF hS (jGo ns) fun _ z=>z) (fun _ z=>z) .nil,.nil fun _ z=>z,fun _ z=>z.elim,ns,hl,hw,rfl,fun v F' H' Z M' _ r _ _ _=>?_⟩;cases r with
 |d r _=>cases r;rfl
theorem jJv{ns:List Int}:∀n∈ns,Wx (.int n)<=wn (ns.map W0.int):=by
 induction ns with
 |nil=>intro n hn;cases hn
 |cons m ns ih =>
  intro n hn;show _<=Wx (.int m)+1+wn (ns.map W0.int);rcases QK.mp hn with rfl|hn
  ·omega
  ·have:=ih n hn
   omega
theorem jRy{ns:List Int}(h:W0.layableAll [.list (ns.map .int)]=true):∀n∈ns,W8 n<=1048576:=by
 intro n hn;have h1:=(PySem.W.layableW_iff.mp (PySem.W.layableW_arg h _ QF)).2.2;have h2:wn (ns.map W0.int)<=2 ^ 20:=h1;have h3:=jJv n hn;have h4:Wx (.int n)=if n==0 then 0 else n.natAbs.log2+1:=rfl
 rw[PySem.intBits_le_iff];by_cases hz:n=0
 ·subst hz
  exact Nat.pow_pos (by decide)
 ·have:(n==0)=false:=by simpa using hz
  rw[h4,this]at h3;have h5:n.natAbs.log2+1<=1048576:=by
   have:n.natAbs.log2+1<=wn (ns.map W0.int):=h3
   omega
  exact(Nat.log2_lt (show n.natAbs≠0 by omega)).mp (by omega)
theorem walk_bits{l:PySem.W.OpenLaw}{k:Nat}{q:Program}{loose:List Str}{XP:(Str->Option Value)->Heap->Prop}{YP:World->Heap->Prop}{d:DefRec}{K:Params->QD}{x:Str}
  (hn:l.most=some 63) (hdf:d.params.defaults=[]) (hr:Room k callerA) (hY:∀(w:World) (h:Heap),YP w h->(K w.params).In h)
  (F:∀(w:World) (mg:Str->Option Value) (fa:Addr) (h:Heap),(K w.params).In h->h.Ns mainGlobals mg->mg d.name=some (.ref fa) ->
   ∃fd:FuncData,(∀(s:Shared) (u:Value),BindsTo s fd ⟨[u],[]⟩ [(x,u)]) /\
    ∀base:Heap,(K w.params).In base->base.Ns mainGlobals mg->FnOk l.prog w (K w.params) mg base CX0 k fa fd [x] (lift (K w.params) jLS)) :
  PySem.W.WalkO q loose XP YP l.row.toRowW d [] (fun f vs=>PySem.call f vs):=by
 intro w s₀ s₁ mg mb G Y fa o pm cd doc dV kV ho hd hcd hD hmg hg args vals as hpre hlay hrd hwl hlo;obtain rfl:dV=.none:=PySem.W.Dflts.none hD hdf;obtain rfl:kV=.none:=PySem.W.Dflts.noKw hD;obtain⟨a,vs,ns,rfl,rfl,hobj,hints,hlen⟩:=Att.script_of hn hpre hwl;have KX:=hY w _ Y;obtain⟨fd,hb,hF⟩:=F w mg fa _ KX G.T.g hmg;refine PySem.W.enter_call (QAG (jN4 KX G.T.g G.T.b G.T.builtins G.T.nolimit hg hobj hints (QX hlen (by decide)) hr hF hb (fun H hO hS=>jTk _ H a ns hlen (jRy hlay) hS) fun H e s'=>fun z=>z) fun r s' hq=>?_);obtain⟨rfl,h2,h3,h4⟩:=hq;exact⟨.inl ⟨.bool true,.bool true,[],rfl,fun _=>rfl,.bool true,Att.post_true l _,fun _=>⟨List.Pairwise.nil,fun _ hm=>(nomatch hm)⟩⟩,h2,h3,h4⟩
def jBS(K:QD)(x:Str)(st:Stmt):Prop:=∃f fd,qB K mainGlobals x=some (some (.ref f))/\Fun K x x st f fd
theorem def_at{K:QD}{x:Str}{st:Stmt}{f:Addr}{oc:Value}{od an:Option Addr}{osl:Array (Option Value)}{kV doc pm cdv ct:Value}(a:qB K mainGlobals x=some (some (.ref f)))
  (l:K.lookup f=some ⟨oc,od,.func (wQ x x (jCJ st) (jBh st) (jAZ st) .none kV doc pm an cdv ct),osl⟩) (c:QAM K cdv x=true) (k:wu K (.ref f)=true):jBS K x st :=
 ⟨f,_,a,jT3 l c k⟩
def jGV(K:QD)(x:Str)(d:D):Prop:=∃u v,qB K mainGlobals x=some (some u)/\jM7 u=some v/\∀F,Rep K F v d
theorem jPw{K:QD}{x:Str}{i:Int}{t:Tok}(a:qB K mainGlobals x=some (some (.int i t))):jGV K x (.int i):=⟨_,_,a,rfl,fun _=>.int i⟩
theorem val_int'{K:QD}{x:Str}{i j:Int}{t:Tok}(a:qB K mainGlobals x=some (some (.int i t)))(e:i=j):jGV K x (.int j):=e▸jPw a
theorem val_strs{K:QD}{x:Str}{f:Addr}{xs:List Str}{od:Option Addr}{its:List Value}{n:Nat}{sl:Array (Option Value)}(a:qB K mainGlobals x=some (some (.ref f)))
  (l:K.lookup f=some ⟨.type "tuple",od,.seq its.toArray n,sl⟩) (h:its.map jM7=xs.map fun y=>some (.str y)) (hz:xs.length<=sizeLine):jGV K x (.tuple (xs.map PyData.str)):=by
 refine⟨_,_,a,rfl,fun F=>.tup (.inr ⟨_,its.toArray,n,l,rfl,rfl,?_,?_⟩) (jFT xs)⟩
 ·have:=congrArg qz h
  simp at this;simp
  omega
 ·have key:∀(its:List Value) (xs:List Str),its.map jM7=xs.map (fun y=>some (.str y))->jAQ (xs.map V.str) its:=by
   intro its
   induction its with
   |nil =>
    intro xs h;cases xs with
    |nil=>exact .nil
    |cons _ _=>simp at h
   |cons u its ih =>
    intro xs h;cases xs with
    |nil=>simp at h
    |cons y xs =>
     simp only[QR,W7]at h;exact .cons (jLA h.1) (ih xs h.2)
  simpa using key its xs h
section
variable{P:Program}{w:World}{K:QD}{mg:Str->Option Value}{base h:Heap}{Ψ:PEv}
theorem jGV.inMg(X:K.In h)(G:h.Ns mainGlobals mg){x:Str}{d:D}(v:jGV K x d):(∀F,Rep K F (jPx mg x) d)/\∃u v,mg x=some u/\jM7 u=some v:=by
 obtain⟨u,v,h1,h2,h3⟩:=v;have e:=QBa X G h1;refine⟨fun F=>?_,u,v,e,h2⟩;have:jPx mg x=v:=by
  unfold jPx;rw[e];show(jM7 u).getD .non=v;rw[h2]
  rfl
 rw[this];exact h3 F
theorem jOG{R:PSp}{Ψ':PEv}{x:Str}{st:Stmt}{N ps:List Str}{k:Nat}{b:PT}{n:Need}(X:K.In h)(G:h.Ns mainGlobals mg)(D:jBS K x st)(chk:jEq n b N ps st=true)(hc:jKU (jBV 0 R.md ps.length) b=true)
  (hb:∀(kV doc pm:Value) (an:Option Addr) (cdv ct:Value) (us:List Value),us.length=ps.length->bindArgs (wQ x x (jCJ st) (jBh st) (jAZ st) .none kV doc pm an cdv ct) ⟨us,[]⟩=pure (ps.zip us))
  (fns:∀g∈n.fn,jDH P w K mg base Ψ k g) (vals:ValsOk P w K mg Ψ n.va) (nos:∀y∈n.no,qB K mainGlobals y=some none)
  (body:∀ts Q E,R.run ts Q E->ts.length=ps.length/\pws Ψ (fun _=>False) b (jAx R ps.length Q) (jAH N R.md ts)) (hR:Ψ'.sp x=R):jDH P w K mg base Ψ' (k+1) x:=by
 obtain⟨f,fd,a,F⟩:=D;exact jOF F (QBa X G a) (F.binds hb) chk hc fns vals (fun y hy=>QBb X G (nos y hy)) body hR
theorem jAd{x:Str}{st:Stmt}{N ps:List Str}{k:Nat}{b:PT}{n:Need}(X:K.In h)(G:h.Ns mainGlobals mg)(D:jBS K x st)(chk:jEq n b N ps st=true)(hc:jKU (jBV 0 (Ψ.sp x).md ps.length) b=true)
  (hb:∀(kV doc pm:Value) (an:Option Addr) (cdv ct:Value) (us:List Value),us.length=ps.length->bindArgs (wQ x x (jCJ st) (jBh st) (jAZ st) .none kV doc pm an cdv ct) ⟨us,[]⟩=pure (ps.zip us))
  (fns:∀g∈n.fn,jDH P w K mg base Ψ k g) (vals:ValsOk P w K mg Ψ n.va) (nos:∀y∈n.no,qB K mainGlobals y=some none)
  (body:∀ts Q E,(Ψ.sp x).run ts Q E->ts.length=ps.length/\pws Ψ (fun _=>False) b (jAx (Ψ.sp x) ps.length Q) (jAH N (Ψ.sp x).md ts)):jDH P w K mg base Ψ (k+1) x :=
 jOG X G D chk hc hb fns vals nos body rfl
theorem jTl{x:Str}{st:Stmt}{ps:List Str}{k:Nat}{fa:Addr}(X:K.In h)(G:h.Ns mainGlobals mg)(D:jBS K "law" st)(hp:ps=[x])(hfa:mg "law"=some (.ref fa))(hs:Ψ.sp "law"=jLS)
  (hb:∀(kV doc pm:Value) (an:Option Addr) (cdv ct:Value) (us:List Value),us.length=ps.length->bindArgs (wQ "law" "law" (jCJ st) (jBh st) (jAZ st) .none kV doc pm an cdv ct) ⟨us,[]⟩=pure (ps.zip us))
  (H:∀base:Heap,K.In base->base.Ns mainGlobals mg->∀f fd,Fun K "law" "law" st f fd->mg "law"=some (.ref f)->FnOk P w K mg base CX0 k f fd ps (lift K (Ψ.sp "law"))) :
  ∃fd:FuncData,(∀(s:Shared) (u:Value),BindsTo s fd ⟨[u],[]⟩ [(x,u)])/\∀base:Heap,K.In base->base.Ns mainGlobals mg->FnOk P w K mg base CX0 k fa fd [x] (lift K jLS):=by
 obtain⟨f,fd,a,F⟩:=D;have e:=hfa.symm.trans (QBa X G a);cases e;subst hp;refine⟨fd,fun s u=>?_,fun base kb nb=>?_⟩
 ·obtain⟨oc,od,kV,doc,pm,an,cdv,ct,osl,rfl,lk,hcd⟩:=F.ex
  exact .of_eq (hb kV doc pm an cdv ct [u] rfl)
 ·rw[<- hs]
  exact H base kb nb fa fd F hfa
end
theorem jBp{α:Type}{body:T->(Option T->Prop)->Prop}(g f:α->T):∀(l:List α) (acc:List T) (Q:List T->Prop),(∀x∈l,∀R:Option T->Prop,R (some (f x))->body (g x) R)->acc.length+l.length<=sizeLine->Q (acc++l.map f)->jCm body (l.map g) acc Q
 |[],acc,Q,_,hl,q=>by
  simp only[w8,jCm];exact⟨by simpa using hl,by simpa using q⟩
 |x::r,acc,Q,hb,hl,q=>by
  simp only[QR,jCm];refine hb x QF _ ?_;simp only[QL]at hl;refine⟨by omega,jBp g f r _ Q (fun y hy=>hb y (QE _ hy)) (by simp;omega) (by simpa using q)⟩
theorem jAi{α:Type}{body:T->(Option T->Prop)->Prop}(g f:α->T)(p:α->Bool):∀(l:List α) (acc:List T) (Q:List T->Prop),(∀x∈l,∀R:Option T->Prop,R (if p x=true then some (f x) else none)->body (g x) R)->acc.length+l.length<=sizeLine->Q (acc++(l.filter p).map f)->jCm body (l.map g) acc Q
 |[],acc,Q,_,hl,q=>by
  simp only[w8,jCm];exact⟨by simpa using hl,by simpa using q⟩
 |x::r,acc,Q,hb,hl,q=>by
  simp only[QR,jCm];refine hb x QF _ ?_;simp only[QL]at hl;cases hp:p x with
  |true =>
   refine⟨by omega,jAi g f p r _ Q (fun y hy=>hb y (QE _ hy)) (by simp;omega) ?_⟩;rw[WN,if_pos hp]at q;simpa using q
  |false =>
   refine jAi g f p r _ Q (fun y hy=>hb y (QE _ hy)) (by omega) ?_;rw[WN,if_neg (by rw[hp];simp)]at q;exact q
theorem jMp{α:Type}{xs:List α}{i:Int}(h0:0<=i)(h1:i<xs.length):∃v,atI xs i=some v/\xs[i.toNat]?=some v:=by
 have h:i.toNat<xs.length:=by omega
 have e:((i.toNat:Nat):Int)=i:=by omega
 have q:=jDg (Qx h);rw[e]at q;exact⟨xs[i.toNat],q,Qx h⟩
theorem jIW{α β:Type}(f:α->β)(xs:List α)(i:Int):atI (xs.map f) i=(atI xs i).map f:=by
 unfold atI;rw[QG];cases ixN xs.length i with
 |none=>rfl
 |some j=>exact QY
theorem jAw{Ψ:PEv}{E:XE}{α:Type}{body:PT}{tg:Tg}{Z:PEnds}(g:α->T)(W:List α->PSt->Prop)(h0:∀ρ,W [] ρ->Z.nx ρ)
  (hs:∀x xs ρ (N:PSt->Prop),(∀ρ',W xs ρ'->N ρ')->W (x::xs) ρ->jHT tg (g x) ρ fun ρ1=>pws Ψ E body { Z with nx:=N,ct:=N,bk:=Z.nx } ρ1):∀(xs:List α) (ρ:PSt),W xs ρ->jIF (pws Ψ E body) tg Z (xs.map g) ρ
 |[],ρ,w=>h0 ρ w
 |x::xs,ρ,w=>hs x xs ρ (fun ρ2=>jIF (pws Ψ E body) tg Z (xs.map g) ρ2) (fun ρ2 w2=>jAw g W h0 hs xs ρ2 w2) w
noncomputable def jSR(sp:List (Str×PSp))(va:List (Str×D)):PEv:=⟨fun f=>(sp.lookup f).getD pNo,fun x=>va.lookup x⟩
theorem jAX{P:Program}{w:World}{K:QD}{mg:Str->Option Value}{h:Heap}{sp:List (Str×PSp)}{tbl:List (Str×D)}{va:List Str}(X:K.In h)(G:h.Ns mainGlobals mg)(ht:∀p∈tbl,jGV K p.1 p.2)
  (hva:(va.all fun x=>(tbl.map wo).contains x)=true):ValsOk P w K mg (jSR sp tbl) va:=by
 refine⟨fun x d e F=>((ht (x,d) (qR e)).inMg X G).1 F,fun x hx=>?_⟩;have:=qM.mp hva x hx;obtain⟨p,hp,e⟩:=Qg.mp (Qm.mp this);rw[<- e];exact((ht p hp).inMg X G).2
theorem jAu{α:Type}[BEq α][LawfulBEq α]{l m:List α}(h:(l.all fun x=>m.contains x)=true):∀x∈l,x∈m:=fun x hx=>Qm.mp (qM.mp h x hx)
section
variable{a b c:PX}{i:Nat}{n:Int}{x:Str}{m:Mt}{f:Str}{g:Bi}{op:Operator}{cp:CmpOp}{is:List Bool}{tgs:List Str}{tg:Tg}{ik:ItK}{y:String}
theorem jKb:vrs (.var i)=[i]:=rfl
theorem jGc:vrs (.acons a b)=vrs a++vrs b:=rfl
theorem jIe:vrs .anil=[]:=rfl
end
def jDq{α:Type}(o:Option α)(K:α->Prop):Prop:=∃a,o=some a/\K a
theorem jDq.mk{α:Type}{o:Option α}{a:α}{K:α->Prop}(e:o=some a)(k:K a):jDq o K:=⟨a,e,k⟩
theorem jB5{α:Type}{a:α}{K:α->Prop}:jDq (some a) K=K a:=propext ⟨fun⟨_,e,k⟩=>by cases e;exact k,fun k=>⟨a,rfl,k⟩⟩
theorem jIz{α:Type}{o:Option α}{a:α}{K:α->Prop}(h:o=some a):jDq o K=K a:=by rw[h];exact jB5
theorem jDp{α β:Type}{o:Option α}{f:α->β}{K:β->Prop}:jDq (o.map f) K=jDq o fun a=>K (f a):=by
 cases o with
 |none=>exact propext ⟨fun⟨_,e,_⟩=>(by cases e),fun⟨_,e,_⟩=>(by cases e)⟩
 |some a=>rw[Q8,jB5,jB5]
def peE(Ψ:PEv)(e:PX)(E:XE)(ρ:PSt)(K:TK):Prop:=(pe Ψ e E).e ρ K
def peT(Ψ:PEv)(e:PX)(E:XE)(ρ:PSt)(K:Bool->PSt->Prop):Prop:=(pe Ψ e E).t ρ K
def peA(Ψ:PEv)(e:PX)(E:XE)(md:List Md)(ρ:PSt)(K:List (T×Bool)->PSt->Prop):Prop:=(pe Ψ e E).a md ρ K
def jFF(p:PSp)(ts:List T)(K:T->List T->Prop)(E:XE):Prop:=p.run ts K E
def sqE(x:T)(n:Bool)(Ψ:PEv)(b:PX)(E:XE)(ρ:PSt)(K:TK):Prop:=sq (jAU x n) ρ (cu (pe Ψ b E).e) fun y ρ2=>K y.1 y.2 ρ2
def sqA(x:T)(n:Bool)(Ψ:PEv)(b:PX)(E:XE)(md:List Md)(ρ:PSt)(K:List (T×Bool)->PSt->Prop):Prop:=sq (if n=true then .d .none else x) ρ ((pe Ψ b E).a md) K
def sqM(x:T)(n:Bool)(Ψ:PEv)(b:PX)(E:XE)(ρ:PSt)(K:List (T×Bool)->PSt->Prop):Prop:=sq (jAU x n) ρ ((pe Ψ b E).a []) K
def jKV(i:Nat)(σ ρ:PSt)(K:TK):Prop:=rdV σ[i]? fun t=>K t false ρ
def jSh(i:Nat)(σ:PSt)(ρ:PSt)(j:Nat)(R:T->PSt->Prop):Prop:=rdR ρ j R σ[i]?
def jNN(Ψ:PEv)(E:XE)(r:PT)(Z:PEnds)(i:Nat)(x:T)(n:Bool)(ρ:PSt):Prop:=esc x n=true/\pws Ψ E r Z (ρ.set i (some (.bor (.d x.er))))
def jXY(Ψ:PEv)(E:XE)(r:PT)(Z:PEnds)(i:Nat)(x:T)(n:Bool)(ρ:PSt):Prop:=esc x n=true/\pws Ψ E r Z (ρ.set i (some (.own x)))
def jFE(x:T)(n:Bool)(P:Prop):Prop:=esc x n=true/\P
def jGY(op:Operator)(x:T)(n:Bool)(y:T)(m:Bool)(Q:T->Bool->Prop):Prop:=binT op (jAU x n).vw (jAU y m).vw Q
def jDz(op:CmpOp)(x y:T)(Q:Bool->Prop):Prop:=jVo op x.er y Q
def jXC(x:T)(Q:Bool->Prop):Prop:=jIi x.er Q
def asV(x:T)(Q:Bool->Prop):Prop:=asD x.er Q
def jVk(c:PX)(x:T)(Q:Bool->Prop):Prop:=jWf c x.er Q
def biV(f:Bi)(xs:List (T×Bool))(Q:T->Bool->Prop):Prop:=biT f (jDK xs) Q
def jFD(x:T)(n:Bool)(y:T)(m:Bool)(Q:T->Prop):Prop:=jM2 (jAU x n).vw (jAU y m).vw Q∨jPW (jAU x n).vw y.er Q
def jW8(Ψ:PEv)(E:XE)(c:PX)(q:PT)(Z:PEnds)(ρ:PSt):Prop:=pws Ψ E (.whl c q) Z ρ
def stV(t y x:T)(Q:T->Prop):Prop:=stT t y.er x.er Q
def jXE(z t:T)(Q:T->(T->T)->Prop):Prop:=jXF z.er t Q
def jXJ(y t:T)(Q:T->Prop):Prop:=jWD y.er t Q
def jWC(x:T)(n:Bool)(l u:Option Int)(Q:T->Bool->Prop):Prop:=jOt (jAU x n).vw l u Q
def jN0(xs:List (T×Bool))(C:List T->Prop):Prop:=jGI xs=true/\C (jGf xs)
def itV(ik:ItK)(xs:List (T×Bool))(R:List T->Prop):Prop:=jBP ik (jDK xs) R
def mtV(m:Mt)(x:T)(n:Bool)(xs:List (T×Bool))(Q:T->Bool->Prop):Prop:=mtT m (jAU x n).vw (jDK xs) Q
def jBU(md:List Md)(xs:List (T×Bool))(C:List T->Prop):Prop:=jDq (jAb md xs []) C
noncomputable def jKH(Ψ:PEv)(E:XE)(mask:List Bool)(tgs:List Str)(tg:Tg)(cond elt:PX)(ρ:PSt):T->(Option T->Prop)->Prop:=jDB tg (jM5 tgs.length mask (lockA ρ)) (if isNop cond=true then fun ρ R=>R true ρ else(pe Ψ cond E).t) (pe Ψ elt E).e
def jOZ(tg:Tg)(x:T)(ρ:PSt)(K:PSt->Prop):Prop:=jHT tg x ρ K
section
variable{Ψ:PEv}{E:XE}{ρ:PSt}{K:TK}{L:Bool->PSt->Prop}{M:List (T×Bool)->PSt->Prop}{a b c as its elt cond:PX}{Rt:T->PSt->Prop}
theorem jVR{i:Nat}:peE Ψ (.var i) E ρ K=jKV i ρ ρ K:=rfl
theorem jVY{i:Int}:peE Ψ (.int i) E ρ K=K (.d (.int i)) false ρ:=rfl
theorem jVT{x:Str}:peE Ψ (.str x) E ρ K=K (.d (.str x)) false ρ:=rfl
theorem jX9{x:Bool}:peE Ψ (.bl x) E ρ K=K (.d (.bool x)) false ρ:=rfl
theorem jVW:peE Ψ .non E ρ K=K (.d .none) false ρ:=rfl
theorem jFK{x:Str}{d:D}(h:Ψ.va x=some d):peE Ψ (.glo x) E ρ K=K (.d d) false ρ:=by
 show(match Ψ.va x with|some d=>K (.d d) false ρ|none=>False)=_;rw[h]
theorem jVc{op:Operator}:peE Ψ (.bin op a b) E ρ K=peE Ψ a E ρ fun x n ρ1=>sqE x n Ψ b E ρ1 fun y m ρ2=>jGY op x n y m fun z k=>K z k ρ2:=rfl
theorem jU6{op:CmpOp}:peT Ψ (.cmp op a b) E ρ L=peE Ψ a E ρ fun x n ρ1=>sqE x n Ψ b E ρ1 fun y m ρ2=>jDz op x (jAU y m) fun k=>L k ρ2:=rfl
theorem jVb{op:CmpOp}:peE Ψ (.cmp op a b) E ρ K=peT Ψ (.cmp op a b) E ρ fun k ρ1=>K (.d (.bool k)) false ρ1:=rfl
theorem jVd:peE Ψ (.and a b) E ρ K=peE Ψ a E ρ fun x _ ρ1=>asV x fun c=>if c=true then peE Ψ b E ρ1 K else K (.d (.bool false)) false ρ1:=rfl
theorem jU7:peT Ψ (.and a b) E ρ L=peT Ψ a E ρ fun c ρ1=>if c=true then peT Ψ b E ρ1 L else L false ρ1:=rfl
theorem jR3:peT Ψ (.or a b) E ρ L=peT Ψ a E ρ fun c ρ1=>if c=true then L true ρ1 else peT Ψ b E ρ1 L:=rfl
theorem jU4:peT Ψ (.not a) E ρ L=peT Ψ a E ρ fun c ρ1=>L (!c) ρ1:=rfl
theorem jAS{f:Str}{p:PSp}{md:List Md}(h:Ψ.sp f=p)(hm:p.md=md)(hn:(md.all fun m=>!m.isMut)=true):peE Ψ (.call f as) E ρ K=peA Ψ as E md ρ fun xs ρ1=>jBU md xs fun ts=>jFF p ts (fun r os=>os=[]/\K r true ρ1) E:=by
 have mr:∀(md:List Md) (as:PX),(md.all fun m=>!m.isMut)=true->jAC md as=[]:=by
  intro md
  induction md with
  |nil=>intro as _;cases as<;>rfl
  |cons m md ih =>
   intro as h;rw[qf,Qb]at h;cases m with
   |chg=>cases h.1
   |_=>cases as with
    |acons a as=>exact ih as h.2
    |_=>rfl
 show(∃os,jAg (jAC (Ψ.sp f).md as) ρ=some os/\(jAC (Ψ.sp f).md as).Nodup/\(pe Ψ as E).a (Ψ.sp f).md (clear (jAC (Ψ.sp f).md as) ρ) fun xs ρ1=>∃ts,jAb (Ψ.sp f).md xs os=some ts/\(Ψ.sp f).run ts (fun r os'=>∃ρ2,jBL (jAC (Ψ.sp f).md as) os' ρ1=some ρ2/\K r true ρ2) E)=_;rw[h,hm,mr md as hn];have po:∀(r:T) (os:List T) (ρ1:PSt),(∃ρ2,jBL [] os ρ1=some ρ2/\K r true ρ2)=(os=[]/\K r true ρ1):=by
  intro r os ρ1;cases os with
  |nil=>exact propext ⟨fun⟨_,e,k⟩=>by cases e;exact⟨rfl,k⟩,fun k=>⟨_,rfl,k.2⟩⟩
  |cons _ _=>exact propext ⟨fun⟨_,e,k⟩=>(by cases e),fun k=>(by cases k.1)⟩
 have:=fun(ρ1:PSt)=>funext fun r=>funext fun os=>po r os ρ1;simp only[this];exact propext ⟨fun⟨_,e,_,k⟩=>by cases e;exact k,fun k=>⟨_,rfl,Q7,k⟩⟩
theorem jPc{f:Str}:peT Ψ (.call f as) E ρ L=peE Ψ (.call f as) E ρ fun t _ ρ1=>jXC t fun b=>L b ρ1:=rfl
theorem jU5:peT Ψ (.isi a c) E ρ L=peE Ψ a E ρ fun x _ ρ1=>jVk c x fun b=>L b ρ1:=rfl
theorem jW1:peE Ψ (.isi a c) E ρ K=peT Ψ (.isi a c) E ρ fun k ρ1=>K (.d (.bool k)) false ρ1:=rfl
theorem jYA{f:Bi}:peE Ψ (.bi f as) E ρ K=peA Ψ as E [] ρ fun xs ρ1=>biV f xs fun z k=>K z k ρ1:=rfl
theorem jTa{m:Mt}{z:Str}{n:Bool}(h:isMut m=false):jRG m (jAU (.d (.str z)) n).vw=true:=by cases n<;>cases m<;>first|rfl|cases h
theorem jPj:peE Ψ (.mt .join a as) E ρ K=peE Ψ a E ρ fun x n ρ1=>jRG .join (jAU x n).vw=true/\sqM x n Ψ as E ρ1 fun xs ρ2=>mtV .join x n xs fun z k=>K z k ρ2:=rfl
theorem jVV{j:Nat}:peE Ψ (.mt .pop (.var j) as) E ρ K=jEV ρ[j]? fun t=>jG3 .pop t=true/\peA Ψ as E [] (ρ.set j (some (.bor t))) fun xs ρ2=>jGI xs=true/\ρ2[j]?=some (some (.bor t))/\jNy .pop t (jGf xs) fun r s'=>K r true (ρ2.set j (some (.own s'))):=rfl
theorem jPk{x:Bool}:peE Ψ (.dnew x) E ρ K=K (.dct x [] []) true ρ:=rfl
theorem jVa:peE Ψ (.dsp a b) E ρ K=peE Ψ a E ρ fun y m ρ1=>jFE y m (peE Ψ b E ρ1 fun x n ρ2=>jFE x n (jFH true y.er/\K (.dct true [y.er] [x]) true ρ2)):=rfl
theorem jDi{f:Str}{p:PSp}{md:List Md}{j:Nat}(h:Ψ.sp f=p)(hm:p.md=.chg::md)(hn:(md.all fun m=>!m.isMut)=true):peE Ψ (.call f (.acons (.var j) as)) E ρ K=jEV ρ[j]? fun t=>peA Ψ as E md (ρ.set j none) fun xs ρ1=>jBU md xs fun ts=>jFF p (t::ts) (fun r os=>∃t',os=[t']/\K r true (ρ1.set j (some (.own t')))) E:=by
 have mr:∀(md:List Md) (as:PX),(md.all fun m=>!m.isMut)=true->jAC md as=[]:=by
  intro md
  induction md with
  |nil=>intro as _;cases as<;>rfl
  |cons m md ih =>
   intro as h;rw[qf,Qb]at h;cases m with
   |chg=>cases h.1
   |_=>cases as with
    |acons a as=>exact ih as h.2
    |_=>rfl
 show(∃os,jAg (jAC (Ψ.sp f).md (.acons (.var j) as)) ρ=some os/\(jAC (Ψ.sp f).md (.acons (.var j) as)).Nodup/\(pe Ψ (.acons (.var j) as) E).a (Ψ.sp f).md (clear (jAC (Ψ.sp f).md (.acons (.var j) as)) ρ) fun xs ρ1=>∃ts,jAb (Ψ.sp f).md xs os=some ts/\(Ψ.sp f).run ts (fun r os'=>∃ρ2,jBL (jAC (Ψ.sp f).md (.acons (.var j) as)) os' ρ1=some ρ2/\K r true ρ2) E)=_;rw[h,hm];have e1:jAC (.chg::md) (.acons (.var j) as)=[j]:=by
  show j::jAC md as=[j]
  rw[mr md as hn]
 rw[e1];have po:∀(r:T) (os:List T) (ρ1:PSt),(∃ρ2,jBL [j] os ρ1=some ρ2/\K r true ρ2)=(∃t',os=[t']/\K r true (ρ1.set j (some (.own t')))):=by
  intro r os ρ1
  match os with
  |[]=>exact propext ⟨fun⟨_,e,k⟩=>(by cases e),fun⟨_,e,k⟩=>(by cases e)⟩
  |[t]=>exact propext ⟨fun⟨_,e,k⟩=>by cases e;exact⟨t,rfl,k⟩,fun⟨_,e,k⟩=>by cases e;exact⟨_,rfl,k⟩⟩
  |_::_::_=>exact propext ⟨fun⟨_,e,k⟩=>(by cases e),fun⟨_,e,k⟩=>(by cases e)⟩
 have pf:=fun(ρ1:PSt)=>funext fun r=>funext fun os=>po r os ρ1;simp only[pf];have pa:∀(t:T) (xs:List (T×Bool)) (G:List T->Prop),(∃ts,jAb (.chg::md) ((.d .none,true)::xs) [t]=some ts/\G ts)=jBU md xs fun ts=>G (t::ts):=by
  intro t xs G;show(∃ts,(jAb md xs []).map (t::·)=some ts/\G ts)=jDq (jAb md xs []) fun ts=>G (t::ts);cases jAb md xs []with
  |none=>exact propext ⟨fun⟨_,e,_⟩=>(by cases e),fun⟨_,e,_⟩=>(by cases e)⟩
  |some ts=>exact propext ⟨fun⟨_,e,k⟩=>by cases e;exact⟨_,rfl,k⟩,fun⟨_,e,k⟩=>by cases e;exact⟨_,rfl,k⟩⟩
 have oa:∀t,ρ[j]?=some (some (.own t))->jAg [j] ρ=some [t]:=fun t e=>by
  unfold jAg;rw[e]
  rfl
 have ac:∀(os:List T),((pe Ψ (.acons (.var j) as) E).a (.chg::md) (clear [j] ρ) fun xs ρ1=>∃ts,jAb (.chg::md) xs os=some ts/\p.run ts (fun r os'=>∃t',os'=[t']/\K r true (ρ1.set j (some (.own t')))) E)=(peA Ψ as E md (ρ.set j none) fun xs ρ1=>∃ts,jAb (.chg::md) ((.d .none,true)::xs) os=some ts/\p.run ts (fun r os'=>∃t',os'=[t']/\K r true (ρ1.set j (some (.own t')))) E):=fun os=>propext ⟨fun h=>h.2,fun h=>⟨rfl,h⟩⟩;simp only[ac]
 match e:ρ[j]? with
 |some (some (.own t)) =>
  show _=(peA Ψ as E md (ρ.set j none) fun xs ρ1=>jBU md xs fun ts=>jFF p (t::ts) (fun r os=>∃t',os=[t']/\K r true (ρ1.set j (some (.own t')))) E)
  rw[oa t e];have:=fun xs (ρ1:PSt)=>pa t xs fun ts=>p.run ts (fun r os'=>∃t',os'=[t']/\K r true (ρ1.set j (some (.own t')))) E;refine propext ⟨fun⟨_,e,_,k⟩=>?_,fun k=>⟨_,rfl,by simp,?_⟩⟩
  ·cases e
   simp only[this]at k;exact k
  ·simp only[this]
   exact k
 |some (some (.bor t))=>exact propext ⟨fun⟨_,z,_⟩=>(by unfold jAg at z;rw[e]at z;cases z),fun k=>k.elim⟩
 |some none=>exact propext ⟨fun⟨_,z,_⟩=>(by unfold jAg at z;rw[e]at z;cases z),fun k=>k.elim⟩
 |none=>exact propext ⟨fun⟨_,z,_⟩=>(by unfold jAg at z;rw[e]at z;cases z),fun k=>k.elim⟩
theorem jJr{j:Nat}:peE Ψ (.mt .append (.var j) as) E ρ K=jEV ρ[j]? fun t=>jG3 .append t=true/\peA Ψ as E [] (ρ.set j (some (.bor t))) fun xs ρ2=>jGI xs=true/\ρ2[j]?=some (some (.bor t))/\jNy .append t (jGf xs) fun r s'=>K r true (ρ2.set j (some (.own s'))):=rfl
theorem jVZ:peE Ψ (.idx a b) E ρ K=peE Ψ a E ρ fun x n ρ1=>sqE x n Ψ b E ρ1 fun y m ρ2=>jFD x n y m fun z=>K z false ρ2:=rfl
theorem jJq{i:Int}:peE Ψ (.slc a .nop (.int i)) E ρ K=peE Ψ a E ρ fun x n ρ1=>jWC x n none (some i) fun z k=>K z k ρ1:=by
 show(pe Ψ a E).e ρ (fun x n ρ1=>sq (jAU x n) ρ1 (fun ρ (R:Option Int->PSt->Prop)=>R none ρ) fun l ρ2=>sq (jAU x n) ρ2 (fun ρ (R:Option Int->PSt->Prop)=>R (some i) ρ) fun u ρ3=>jOt (jAU x n).vw l u fun z k=>K z k ρ3)=_;have:∀x n ρ1,(sq (jAU x n) ρ1 (fun ρ (R:Option Int->PSt->Prop)=>R none ρ) fun l ρ2=>sq (jAU x n) ρ2 (fun ρ (R:Option Int->PSt->Prop)=>R (some i) ρ) fun u ρ3=>jOt (jAU x n).vw l u fun z k=>K z k ρ3)=jOt (jAU x n).vw none (some i) fun z k=>K z k ρ1:=by
  intro x n ρ1;unfold sq;split<;>rfl
 simp only[this]
 rfl
theorem jVX:peE Ψ (.lst as) E ρ K=peA Ψ as E [] ρ fun xs ρ1=>xs.length<=sizeLine/\jN0 xs fun ts=>K (.lst ts) true ρ1:=by
 have:∀(xs:List (T×Bool)) ρ1,(xs.length<=sizeLine/\jN0 xs fun ts=>K (.lst ts) true ρ1)=(jGI xs=true/\xs.length<=sizeLine/\K (.lst (jGf xs)) true ρ1):=fun xs ρ1=>propext ⟨fun h=>⟨h.2.1,h.1,h.2.2⟩,fun h=>⟨h.2.1,h.1,h.2.2⟩⟩;simp only[this]
 rfl
theorem jVS:peE Ψ (.tup as) E ρ K=peA Ψ as E [] ρ fun xs ρ1=>xs.length<=sizeLine/\jN0 xs fun ts=>K (jF9 ts) true ρ1:=by
 have:∀(xs:List (T×Bool)) ρ1,(xs.length<=sizeLine/\jN0 xs fun ts=>K (jF9 ts) true ρ1)=(jGI xs=true/\xs.length<=sizeLine/\K (jF9 (jGf xs)) true ρ1):=fun xs ρ1=>propext ⟨fun h=>⟨h.2.1,h.1,h.2.2⟩,fun h=>⟨h.2.1,h.1,h.2.2⟩⟩;simp only[this]
 rfl
theorem jPl{mask:List Bool}{tgs:List Str}{tg:Tg}{ik:ItK}:peE Ψ (.comp mask tgs tg ik its cond elt) E ρ K=peA Ψ its E [] ρ fun xs ρ1=>itV ik xs fun items =>
   jCm (jKH Ψ (fun _=>False) mask tgs tg cond elt ρ1) items [] fun ys=>K (.lst ys) true ρ1:=rfl
theorem jUu{t:Str}{x:T}{R:Option T->Prop}:jKH Ψ E [] [t] (.nm 0) .nop elt ρ x R=peE Ψ elt E (some (.bor x)::lockA ρ) fun y n _=>jFE y n (R (some y)):=rfl
theorem jXx{b:Bool}{m:List Bool}{t:Str}{x:T}{R:Option T->Prop}:jKH Ψ E (b::m) [t] (.nm 0) .nop elt ρ x R=peE Ψ elt E (some (.bor x)::jCl (b::m) (lockA ρ)) fun y n _=>jFE y n (R (some y)):=rfl
theorem jXw{b:Bool}{m:List Bool}{t u:Str}{x y:D}{R:Option T->Prop}:jKH Ψ E (b::m) [t,u] (.tp [0,1]) .nop elt ρ (.d (.tuple [x,y])) R=peE Ψ elt E (some (.bor (.d x))::some (.bor (.d y))::jCl (b::m) (lockA ρ)) fun y n _=>jFE y n (R (some y)):=jB5
theorem jUv{t:Str}{x:T}{R:Option T->Prop}{op:CmpOp}:jKH Ψ E [] [t] (.nm 0) (.cmp op a b) elt ρ x R=peT Ψ (.cmp op a b) E (some (.bor x)::lockA ρ) fun k ρ2=>if k=true then peE Ψ elt E ρ2 fun y n _=>jFE y n (R (some y)) else R none:=rfl
theorem jVf{md:List Md}:peA Ψ .anil E md ρ M=M [] ρ:=rfl
theorem jPm:peA Ψ (.acons a as) E [] ρ M=peE Ψ a E ρ fun x n ρ1=>sqA x n Ψ as E [] ρ1 fun xs ρ2=>M ((x,n)::xs) ρ2:=rfl
theorem jJt{md:List Md}:peA Ψ (.acons a as) E (.shal::md) ρ M=peE Ψ a E ρ fun x n ρ1=>sqA x n Ψ as E md ρ1 fun xs ρ2=>M ((x,n)::xs) ρ2:=rfl
theorem jJu{md:List Md}:peA Ψ (.acons a as) E (.bor::md) ρ M=peE Ψ a E ρ fun x n ρ1=>sqA x n Ψ as E md ρ1 fun xs ρ2=>M ((x,n)::xs) ρ2:=rfl
theorem jVH{i:Nat}:jK7 Ψ E Rt (.var i) ρ=jSh i ρ ρ i Rt:=rfl
theorem jX0{x:Bool}:jK7 Ψ E Rt (.bl x) ρ=Rt (.d (.bool x)) ρ:=propext ⟨fun h=>h.2,fun h=>⟨rfl,h⟩⟩
theorem jVL{op:Operator}:jK7 Ψ E Rt (.bin op a b) ρ=peE Ψ (.bin op a b) E ρ fun x n ρ1=>jFE x n (Rt x ρ1):=rfl
theorem jVK{op:CmpOp}:jK7 Ψ E Rt (.cmp op a b) ρ=peE Ψ (.cmp op a b) E ρ fun x n ρ1=>jFE x n (Rt x ρ1):=rfl
theorem jX1{f:Bi}:jK7 Ψ E Rt (.bi f as) ρ=peE Ψ (.bi f as) E ρ fun x n ρ1=>jFE x n (Rt x ρ1):=rfl
theorem jVJ:jK7 Ψ E Rt (.idx a b) ρ=peE Ψ (.idx a b) E ρ fun x n ρ1=>jFE x n (Rt x ρ1):=rfl
theorem jVI:jK7 Ψ E Rt (.tup as) ρ=peE Ψ (.tup as) E ρ fun x n ρ1=>jFE x n (Rt x ρ1):=rfl
theorem jPh{mask:List Bool}{tgs:List Str}{tg:Tg}{ik:ItK}:jK7 Ψ E Rt (.comp mask tgs tg ik its cond elt) ρ=peE Ψ (.comp mask tgs tg ik its cond elt) E ρ fun x n ρ1=>jFE x n (Rt x ρ1):=rfl
theorem G_s{i:Nat}{s:Option Sl}{σ:PSt}:jKV (i+1) (s::σ) ρ K=jKV i σ ρ K:=rfl
theorem G_b{t:T}{σ:PSt}:jKV 0 (some (.bor t)::σ) ρ K=K t false ρ:=rfl
theorem G_o{t:T}{σ:PSt}:jKV 0 (some (.own t)::σ) ρ K=K t false ρ:=rfl
theorem G_l{i:Nat}{σ:PSt}:jKV i (lockA σ) ρ K=jKV i σ ρ K:=by
 unfold jKV lockA;rw[QY];cases σ[i]? with
 |none=>rfl
 |some s=>cases s with
  |none=>rfl
  |some s=>cases s<;>rfl
theorem G_m{i:Nat}{b:Bool}{m:List Bool}{s:Option Sl}{σ:PSt}:jKV (i+1) (jCl (b::m) (lockA (s::σ))) ρ K=jKV i (jCl m (lockA σ)) ρ K:=rfl
theorem jX7{m:List Bool}{s:Option Sl}{σ:PSt}:jKV 0 (jCl (false::m) (lockA (s::σ))) ρ K=jKV 0 (lockA (s::σ)) ρ K:=rfl
theorem H_s{i j:Nat}{s:Option Sl}{σ:PSt}:jSh (i+1) (s::σ) ρ j Rt=jSh i σ ρ j Rt:=rfl
theorem H_b{x:D}{j:Nat}{σ:PSt}:jSh 0 (some (.bor (.d x))::σ) ρ j Rt=Rt (.d x) ρ:=propext ⟨fun h=>h.2,fun h=>⟨rfl,h⟩⟩
theorem H_o{t:T}{j:Nat}{σ:PSt}:jSh 0 (some (.own t)::σ) ρ j Rt=Rt t (ρ.set j none):=rfl
theorem Q_d{x:D}{n:Bool}:sqE (.d x) n Ψ b E ρ K=peE Ψ b E ρ K:=by cases n<;>rfl
theorem Q_n{x:T}:sqE x true Ψ b E ρ K=peE Ψ b E ρ K:=rfl
theorem Q_l{ts:List T}:sqE (.lst ts) false Ψ b E ρ K=peE Ψ b E (lockA ρ) fun y m _=>K y m ρ:=rfl
theorem J_d{x:D}{n:Bool}{md:List Md}:sqA (.d x) n Ψ b E md ρ M=peA Ψ b E md ρ M:=by cases n<;>rfl
theorem J_n{x:T}{md:List Md}:sqA x true Ψ b E md ρ M=peA Ψ b E md ρ M:=rfl
theorem J_l{ts:List T}{md:List Md}:sqA (.lst ts) false Ψ b E md ρ M=peA Ψ b E md (lockA ρ) fun xs _=>M xs ρ:=rfl
theorem M_d{x:D}{n:Bool}:sqM (.d x) n Ψ b E ρ M=peA Ψ b E [] ρ M:=by cases n<;>rfl
end
section
variable{Ψ:PEv}{E:XE}{ρ σ:PSt}{Z:PEnds}{s r q:PT}{i:Nat}{e c its:PX}{o:Option Sl}{n:Bool}{v:D}{P:Prop}{ds:List D}{x:T}
theorem jAF:pws Ψ E .nil Z ρ=Z.nx ρ:=rfl
theorem jVA:pws Ψ E (.seq (.set i e) r) Z (o::σ)=peE Ψ e E (o::σ) fun x n ρ1=>jNN Ψ E r Z i x n ρ1:=rfl
theorem jVD:pws Ψ E (.seq (.own i e) r) Z (o::σ)=peE Ψ e E (o::σ) fun x n ρ1=>jXY Ψ E r Z i x n ρ1:=rfl
theorem jPf:pws Ψ E (.seq (.expr e) r) Z (o::σ)=peE Ψ e E (o::σ) fun _ _ ρ1=>pws Ψ E r Z ρ1:=rfl
theorem jVC:pws Ψ E (.seq (.ret e) r) Z (o::σ)=jK7 Ψ E Z.rt e (o::σ):=rfl
theorem jVE:pws Ψ E (.seq (.ife c s .nil) r) Z (o::σ)=peT Ψ c E (o::σ) fun k ρ1=>if k=true then pws Ψ E s { Z with nx:=fun ρ'=>pws Ψ E r Z ρ' } ρ1 else pws Ψ E r Z ρ1:=rfl
theorem jVG{tg:Tg}{ik:ItK}:pws Ψ E (.seq (.for_ tg ik its q) r) Z (o::σ)=peA Ψ its E [] (o::σ) fun xs ρ1=>itV ik xs fun items =>
   if jOb xs=true then jIF (pws Ψ E q) tg { Z with nx:=fun ρ2=>pws Ψ E r Z (kill tg.ix ρ2) } items ρ1
   else jIF (pws Ψ E q) tg { Z with nx:=fun ρ2=>jKf tg.ix (jBZ ρ1 (vrs its)) ρ1 (fun ρ'=>pws Ψ E r Z ρ') (kill tg.ix ρ2) } items (lock (jBZ ρ1 (vrs its)) ρ1):=rfl
theorem jU9{j:Nat}{a:PX}:pws Ψ E (.seq (.six (.var j) a e) r) Z (o::σ)=jEV (o::σ)[j]? fun t=>peE Ψ e E ((o::σ).set j (some (.bor t))) fun x n ρ1=>jFE x n (peE Ψ a E ρ1 fun y m ρ2=>jFE y m (ρ2[j]?=some (some (.bor t))/\stV t y x fun t'=>pws Ψ E r Z (ρ2.set j (some (.own t'))))):=rfl
theorem jPe{j:Nat}{a k:PX}:pws Ψ E (.seq (.six (.idx (.var j) k) a e) r) Z (o::σ)=jEV (o::σ)[j]? fun t=>peE Ψ e E ((o::σ).set j (some (.bor t))) fun x n ρ1=>jFE x n (peE Ψ k E ρ1 fun z l ρ2=>jFE z l (jXE z t fun s put=>peE Ψ a E ρ2 fun y m ρ3=>jFE y m (ρ3[j]?=some (some (.bor t))/\stV s y x fun s'=>pws Ψ E r Z (ρ3.set j (some (.own (put s'))))))):=rfl
theorem jVB{j:Nat}{k:PX}:pws Ψ E (.seq (.sdf j k) r) Z (o::σ)=jEV (o::σ)[j]? fun t=>jVn t=true/\peE Ψ k E ((o::σ).set j (some (.bor t))) fun y m ρ1=>jFE y m (ρ1[j]?=some (some (.bor t))/\jXJ y t fun t'=>pws Ψ E r Z (ρ1.set j (some (.own t')))):=rfl
theorem jPd{is:List Nat}:pws Ψ E (.seq (.tset is e) r) Z (o::σ)=peE Ψ e E (o::σ) fun x n ρ1=>jFE x n (jOZ (.tp is) (.d x.er) ρ1 fun ρ2=>pws Ψ E r Z ρ2):=rfl
theorem jVF{is:List Nat}:pws Ψ E (.seq (.frz is s) r) Z (o::σ)=pws Ψ E (.seq s r) Z (frzAt is (o::σ)):=rfl
theorem jU8:pws Ψ E (.seq (.whl c q) r) Z (o::σ)=jW8 Ψ E c q { Z with nx:=fun ρ'=>pws Ψ E r Z ρ' } (o::σ):=rfl
theorem K_d:jNN Ψ E r Z i (.d v) n ρ=pws Ψ E r Z (ρ.set i (some (.bor (.d v)))):=propext ⟨fun h=>h.2,fun h=>⟨by cases n<;>rfl,h⟩⟩
theorem K_l:jNN Ψ E r Z i (.lst (ds.map T.d)) true ρ=pws Ψ E r Z (ρ.set i (some (.bor (.d (.list ds))))):=by
 unfold jNN T.er;rw[jAe];exact propext ⟨fun h=>h.2,fun h=>⟨rfl,h⟩⟩
theorem O_n:jXY Ψ E r Z i x true ρ=pws Ψ E r Z (ρ.set i (some (.own x))):=propext ⟨fun h=>h.2,fun h=>⟨rfl,h⟩⟩
theorem C_d:jFE (.d v) n P=P:=propext ⟨fun h=>h.2,fun h=>⟨by cases n<;>rfl,h⟩⟩
theorem C_n:jFE x true P=P:=propext ⟨fun h=>h.2,fun h=>⟨rfl,h⟩⟩
theorem jLm:(([]:List T)=[]/\P)=P:=propext ⟨fun h=>h.2,fun h=>⟨rfl,h⟩⟩
theorem jXh{A B:Prop}:(if(true:Bool)=true then A else B)=A:=rfl
theorem jXi{A B:Prop}:(if(false:Bool)=true then A else B)=B:=rfl
theorem N_0{v a0:Option Sl}:pws Ψ E r Z (WZ (a0::σ) 0 v)=pws Ψ E r Z (v::σ):=rfl
theorem N_1{v a0 a1:Option Sl}:pws Ψ E r Z (WZ (a0::a1::σ) 1 v)=pws Ψ E r Z (a0::v::σ):=rfl
theorem N_2{v a0 a1 a2:Option Sl}:pws Ψ E r Z (WZ (a0::a1::a2::σ) 2 v)=pws Ψ E r Z (a0::a1::v::σ):=rfl
theorem N_3{v a0 a1 a2 a3:Option Sl}:pws Ψ E r Z (WZ (a0::a1::a2::a3::σ) 3 v)=pws Ψ E r Z (a0::a1::a2::v::σ):=rfl
theorem N_4{v a0 a1 a2 a3 a4:Option Sl}:pws Ψ E r Z (WZ (a0::a1::a2::a3::a4::σ) 4 v)=pws Ψ E r Z (a0::a1::a2::a3::v::σ):=rfl
theorem N_5{v a0 a1 a2 a3 a4 a5:Option Sl}:pws Ψ E r Z (WZ (a0::a1::a2::a3::a4::a5::σ) 5 v)=pws Ψ E r Z (a0::a1::a2::a3::a4::v::σ):=rfl
theorem N_6{v a0 a1 a2 a3 a4 a5 a6:Option Sl}:pws Ψ E r Z (WZ (a0::a1::a2::a3::a4::a5::a6::σ) 6 v)=pws Ψ E r Z (a0::a1::a2::a3::a4::a5::v::σ):=rfl
theorem N_7{v a0 a1 a2 a3 a4 a5 a6 a7:Option Sl}:pws Ψ E r Z (WZ (a0::a1::a2::a3::a4::a5::a6::a7::σ) 7 v)=pws Ψ E r Z (a0::a1::a2::a3::a4::a5::a6::v::σ):=rfl
theorem N_9{v a0 a1 a2 a3 a4 a5 a6 a7 a8 a9:Option Sl}:pws Ψ E r Z (WZ (a0::a1::a2::a3::a4::a5::a6::a7::a8::a9::σ) 9 v)=pws Ψ E r Z (a0::a1::a2::a3::a4::a5::a6::a7::a8::v::σ):=rfl
theorem jX6{v a0 a1 a2 a3 a4 a5 a6 a7 a8 a9 a10:Option Sl}:pws Ψ E r Z (WZ (a0::a1::a2::a3::a4::a5::a6::a7::a8::a9::a10::σ) 10 v)=pws Ψ E r Z (a0::a1::a2::a3::a4::a5::a6::a7::a8::a9::v::σ):=rfl
theorem jX5{v a0 a1 a2 a3 a4 a5 a6 a7 a8 a9 a10 a11:Option Sl}:pws Ψ E r Z (WZ (a0::a1::a2::a3::a4::a5::a6::a7::a8::a9::a10::a11::σ) 11 v)=pws Ψ E r Z (a0::a1::a2::a3::a4::a5::a6::a7::a8::a9::a10::v::σ):=rfl
theorem jX4{v a0 a1 a2 a3 a4 a5 a6 a7 a8 a9 a10 a11 a12:Option Sl}:pws Ψ E r Z (WZ (a0::a1::a2::a3::a4::a5::a6::a7::a8::a9::a10::a11::a12::σ) 12 v)=pws Ψ E r Z (a0::a1::a2::a3::a4::a5::a6::a7::a8::a9::a10::a11::v::σ):=rfl
end
section
variable{d:D}{n m:Bool}{i j:Int}{z y:Str}{b:Bool}{xs:List (T×Bool)}{ts:List T}{ds es:List D}{md:List Md}{t:T}{C:List T->Prop}{Q:T->Bool->Prop}{L:Bool->Prop}{R:T->Prop}{W:List T->Prop}
theorem jXG{i:Int}{x:D}{Q:T->Prop}(h0:0<=i)(h1:i<ds.length)(q:Q (.lst ((ds.set i.toNat x).map T.d))):stV (.lst (ds.map T.d)) (.d (.int i)) (.d x) Q:=by
 have h:i.toNat<ds.length:=by omega
 refine⟨i.toNat,?_,by rw[<- QBu];exact q⟩;unfold ixN;rw[QG];rw[if_pos h0,if_pos h1]
theorem jUq{l:List Nat}{i:Int}{K:Nat->Prop}(h0:0<=i)(h1:i<l.length)(k:∀v,v∈l->K v):jDq (atI l i) K:=by
 obtain⟨v,h2,h3⟩:=jMp h0 h1;exact⟨v,h2,k v (qC h3)⟩
theorem jPa{i:Int}{K:D->Prop}(h0:0<=i)(h1:i<ds.length)(k:∀v,v∈ds->K v):jDq (atI ds i) K:=by
 obtain⟨v,h2,h3⟩:=jMp h0 h1;exact⟨v,h2,k v (qC h3)⟩
theorem jU3{J:List Nat}{ρ0 ρ:PSt}{N:PSt->Prop}:jKf J [] ρ0 N ρ=N ρ:=propext ⟨fun h=>h.2,fun h=>⟨fun _ z=>(nomatch z),h⟩⟩
theorem jBH{α:Type}(f:α->D)(l:List α):l.map (fun c=>T.d (f c))=(l.map f).map T.d:=by rw[Qq];rfl
theorem jCF:(jAU (.lst (ds.map T.d)) n).vw=.ls (ds.map T.d):=by
 cases n
 ·rfl
 ·show Vw.ls ((jC8 (ds.map T.d)).map T.d)=_
  rw[jAe]
theorem jVN:jBU md [] C=C []:=jB5
theorem P_d:jBU [] ((.d d,n)::xs) C=jBU [] xs fun ts=>C (.d d::ts):=by
 have e:jAb [] ((.d d,n)::xs) []=(jAb [] xs []).map (.d d::·):=by cases n<;>rfl
 unfold jBU;rw[e,jDp]
theorem P_l:jBU [] ((.lst (ds.map T.d),true)::xs) C=jBU [] xs fun ts=>C (.d (.list ds)::ts):=by
 have e:jAb [] ((.lst (ds.map T.d),true)::xs) []=(jAb [] xs []).map (.d (.list (jC8 (ds.map T.d)))::·):=rfl;unfold jBU;rw[e,jDp,jAe]
theorem P_b:jBU (.bor::md) ((t,false)::xs) C=jBU md xs fun ts=>C (t::ts):=by
 have e:jAb (.bor::md) ((t,false)::xs) []=(jAb md xs []).map (t::·):=rfl;unfold jBU;rw[e,jDp]
theorem jSb:jEP (.lst (ds.map T.d))=some (.lst (ds.map T.d)):=by simp only[jEP,T.vw,jAN,Q8]
theorem P_s{u:T}(h:jEP (jAU t n)=some u):jBU (.shal::md) ((t,n)::xs) C=jBU md xs fun ts=>C (u::ts):=by
 have e:jAb (.shal::md) ((t,n)::xs) []=(jAb md xs []).map (u::·):=by
  show(match jEP (jAU t n) with|some t=>(jAb md xs []).map (t::·)|none=>none)=_;rw[h]
 unfold jBU;rw[e,jDp]
theorem jX2:jBU (.shal::md) ((.lst (ds.map T.d),n)::xs) C=jBU md xs fun ts=>C (.lst (ds.map T.d)::ts):=P_s (by
 cases n
 ·exact jSb
 ·show jEP (.d (.list (jC8 (ds.map T.d))))=_
  rw[jAe];simp only[jEP,T.vw,jAN,Q8])
theorem jVP:jN0 [] C=C []:=propext ⟨fun h=>h.2,fun h=>⟨rfl,h⟩⟩
theorem L_l:jN0 ((.lst (ds.map T.d),true)::xs) C=jN0 xs fun ts=>C (.lst (ds.map T.d)::ts):=by
 show((esc (.lst (ds.map T.d)) true&&jGI xs)=true/\C (.lst (ds.map T.d)::jGf xs))=(jGI xs=true/\C (.lst (ds.map T.d)::jGf xs))
 rw[show esc (.lst (ds.map T.d)) true=true from rfl,QAa]
theorem L_d:jN0 ((.d d,n)::xs) C=jN0 xs fun ts=>C (.d d::ts):=by
 show((esc (.d d) n&&jGI xs)=true/\C (.d d::jGf xs))=(jGI xs=true/\C (.d d::jGf xs))
 rw[show esc (.d d) n=true by cases n<;>rfl,QAa]
theorem jVe{i j:Nat}{x y:D}{ρ:PSt}{P:PSt->Prop}:jOZ (.tp [i,j]) (.d (.tuple [x,y])) ρ P=P ((ρ.set i (some (.bor (.d x)))).set j (some (.bor (.d y)))):=jB5
theorem jYB{i:Nat}{ρ:PSt}{P:PSt->Prop}:jOZ (.nm i) t ρ P=P (ρ.set i (some (.bor t))):=rfl
theorem jXr{tg:Tg}{ρ:PSt}{P:PSt->Prop}:jHT tg t ρ P=jOZ tg t ρ P:=rfl
theorem jU2:jGY .Add (.d (.int i)) n (.d (.int j)) m Q=Q (.d (.int (i+j))) false:=by unfold jGY;rw[jAK,jAK];exact jUm i j
theorem jUx:jGY .Sub (.d (.int i)) n (.d (.int j)) m Q=Q (.d (.int (i - j))) false:=by unfold jGY;rw[jAK,jAK];exact jUk i j
theorem jUz:jGY .Mult (.d (.int i)) n (.d (.int j)) m Q=(IntMulOk i j/\Q (.d (.int (i * j))) false):=by unfold jGY;rw[jAK,jAK];exact jUj i j
theorem jUy:jGY .Mult (.d (.str z)) n (.d (.int j)) m Q=((-(2 ^ 31)<=j/\j<2 ^ 31/\z.length * j.toNat<=sizeLine)/\Q (.d (.str (jIt z j))) false):=by unfold jGY;rw[jAK,jAK];exact jUi z j
theorem jU1:jGY .FloorDiv (.d (.int i)) n (.d (.int j)) m Q=((0<j/\j<2 ^ 200)/\Q (.d (.int (i / j))) false):=by unfold jGY;rw[jAK,jAK];exact jUh i j
theorem jU0:jGY .Mod (.d (.int i)) n (.d (.int j)) m Q=(0<j/\Q (.d (.int (i % j))) false):=by unfold jGY;rw[jAK,jAK];exact jUg i j
theorem jXz:jGY .Add (.lst (ds.map T.d)) n (.lst (es.map T.d)) m Q=(ds.length+es.length<=sizeLine/\Q (.lst ((ds++es).map T.d)) true):=by
 unfold jGY;rw[jCF,jCF,jUl,jAN,jAN];exact propext ⟨fun⟨_,_,e1,e2,k⟩=>by cases e1;cases e2;exact k,fun k=>⟨_,_,rfl,rfl,k⟩⟩
theorem jXe{e:D}:jF9 [.d d,.d e]=.d (.tuple [d,e]):=rfl
theorem jXd{e f g:D}:jF9 [.d d,.d e,.d f,.d g]=.d (.tuple [d,e,f,g]):=rfl
theorem jUa:jDz .Eq (.d (.int i)) (.d (.int j)) L=L (decide (i=j)):=rfl
theorem jUZ:jDz .Eq (.d (.str z)) (.d (.str y)) L=L (decide (z=y)):=rfl
theorem jUV:jDz .NotEq (.d (.int i)) (.d (.int j)) L=L (!decide (i=j)):=rfl
theorem jUT:jDz .NotEq (.d (.str z)) (.d (.str y)) L=L (!decide (z=y)):=rfl
theorem jXl:jDz .Lt (.d (.int i)) (.d (.int j)) L=L (decide (i<j)):=rfl
theorem jXm:jDz .Gt (.d (.int i)) (.d (.int j)) L=L (decide (j<i)):=rfl
theorem jXo{op:CmpOp}:jDz op t (jAU (.lst (ds.map T.d)) true) L=jDz op t (.d (.list ds)) L:=by
 show jDz op t (.d (.list (jC8 (ds.map T.d)))) L=_;rw[jAe]
theorem jXn{op:CmpOp}{u:T}:jDz op t (jAU u false) L=jDz op t u L:=rfl
theorem jUW:jDz .In (.d (.str z)) (.d (.list ds)) L=(((jBo (.str z)=true/\ds.all jBo=true)∨(okD (.str z)/\okD (.list ds)))/\L (ds.any fun y=>Q5 y (.str z))):=rfl
theorem jPZ:jDz .NotIn (.d (.str z)) (.d (.list ds)) L=(((jBo (.str z)=true/\ds.all jBo=true)∨(okD (.str z)/\okD (.list ds)))/\L (!(ds.any fun y=>Q5 y (.str z)))):=rfl
theorem jUU:jDz .NotEq (.d (.list ds)) (.d (.list es)) L=(okD (.list ds)/\okD (.list es)/\L (!PyData.eqv (.list ds) (.list es))):=rfl
theorem jRv{ks:List D}:jDz .In (.d d) (.dct b ks ts) L=(jFH b d/\L (jAG ks d).isSome):=by
 show(jFH b d/\((CmpOp.In=.In/\L (jAG ks d).isSome)∨(CmpOp.In=.NotIn/\L (!(jAG ks d).isSome))))=_;simp
theorem jMn{ks:List D}:jDz .NotIn (.d d) (.dct b ks ts) L=(jFH b d/\L (!(jAG ks d).isSome)):=by
 show(jFH b d/\((CmpOp.NotIn=.In/\L (jAG ks d).isSome)∨(CmpOp.NotIn=.NotIn/\L (!(jAG ks d).isSome))))=_;simp
theorem t_b:jXC (.d (.bool b)) L=L b:=rfl
theorem a_b:asV (.d (.bool b)) L=L b:=rfl
theorem jXj{x:Str}{k:String}(h:isD k d=some b)(hk:jKD k=true):jVk (.bty x k) (.d d) L=L b:=by
 show(∃b,isD k d=some b/\jKD k=true/\L b)=_;exact propext ⟨fun⟨_,e,_,q⟩=>by rw[h]at e;cases e;exact q,fun q=>⟨_,h,hk,q⟩⟩
theorem jYr{x:Str}:jVk (.bty x "str") (.d (.str z)) L=L true:=jXj rfl rfl
theorem jXc:biV .len [(.d (.list ds),n)] Q=Q (.d (.int ds.length)) false:=by
 unfold biV jDK;rw[jAK];refine(jUo _).trans ?_;rw[QG]
theorem jXb:biV .len [(.lst (ds.map T.d),n)] Q=Q (.d (.int ds.length)) false:=by
 unfold biV jDK;rw[jCF];refine(jUo _).trans ?_;rw[QG]
theorem jWX:biV .any [(.lst (ds.map T.d),n)] Q=∃bs:List Bool,ds=bs.map PyData.bool/\Q (.d (.bool (bs.any id))) false:=by
 unfold biV jDK;rw[jCF];refine(jWr _).trans ?_;simp only[jAN,Qh]
theorem jTW:biV .list [(.d (.list ds),n)] Q=Q (.lst (ds.map T.d)) true:=by
 unfold biV jDK;rw[jAK];refine(jWq _).trans ?_;rw[jAN];exact jB5
theorem jPV{k:D}:jPW (.ls ts) k R=False:=propext ⟨fun⟨_,_,_,_,_,e,_⟩=>(by cases e),QZ⟩
theorem jUE{k:D}:jPW (.tp ts) k R=False:=propext ⟨fun⟨_,_,_,_,_,e,_⟩=>(by cases e),QZ⟩
theorem jUF{x k:D}:jPW (.sc x) k R=False:=propext ⟨fun⟨_,_,_,_,_,e,_⟩=>(by cases e),QZ⟩
theorem x_l:jFD (.lst (ds.map T.d)) n (.d (.int i)) m R=jDq (atI ds i) fun d=>R (.d d):=by
 unfold jFD;rw[jCF,jAK,jPV,or_false];refine(jPR _ _).trans ?_;show jDq (atI (ds.map T.d) i) R=_;rw[jIW,jDp]
theorem jW3:jFD (.d (.list ds)) n (.d (.int i)) m R=jDq (atI ds i) fun d=>R (.d d):=by
 unfold jFD;rw[jAK,jAK,show(T.d (.list ds)).vw=.ls (ds.map T.d) from rfl,jPV,or_false];refine(jPR _ _).trans ?_;show jDq (atI (ds.map T.d) i) R=_;rw[jIW,jDp]
theorem jVg:jFD (.d (.tuple ds)) n (.d (.int i)) m R=jDq (atI ds i) fun d=>R (.d d):=by
 unfold jFD;rw[jAK,jAK,show(T.d (.tuple ds)).vw=.tp (ds.map T.d) from rfl,jUE,or_false];refine(jT1 _ _).trans ?_;show jDq (atI (ds.map T.d) i) R=_;rw[jIW,jDp]
theorem x_s:jFD (.d (.str z)) n (.d (.int i)) m R=(z.length<=sizeLine/\jDq (atI z.cps.toList i) fun c=>R (.d (.str ⟨#[c]⟩))):=by
 unfold jFD;rw[jAK,jAK,show(T.d (.str z)).vw=.sc (.str z) from rfl,jUF,or_false];exact jT2 _ _
theorem jW5{e f:D}:jFD (.lst [.d d,.d e,.d f]) n t m R=jFD (.lst ([d,e,f].map T.d)) n t m R:=rfl
theorem jW4{e f g:D}:jFD (.lst [.d d,.d e,.d f,.d g]) n t m R=jFD (.lst ([d,e,f,g].map T.d)) n t m R:=rfl
theorem jW6{kvs:List (D×D)}{k e:D}{q:Bool}{l:Nat}(h1:jCH kvs=some q)(h2:jFH q k)(h3:jAG (kvs.map (·.1)) k=some l)(h4:(kvs.map (·.2))[l]?=some e)(h5:R (.d e)):jFD (.d (.dict kvs)) n (.d k) m R:=by
 unfold jFD;rw[jAK];refine .inr ?_;show jPW (jA5 kvs) k R;unfold jA5;rw[h1];refine⟨q,_,_,l,.d e,rfl,h2,h3,?_,h5⟩;rw[QY]at h4 ⊢;cases z:kvs[l]? with
 |none=>rw[z]at h4;cases h4
 |some p=>rw[z]at h4;cases h4;rfl
theorem jXK{l u:Option Int}:jWC (.lst (ds.map T.d)) n l u Q=Q (.lst ((jHj ds l u).map T.d)) true:=by
 unfold jWC;rw[jCF];refine(jSY _).trans ?_;rw[jAN];exact jB5
theorem jXg:mtV .join (.d (.str z)) n [(.lst (ds.map T.d),m)] Q=∃ys:List Str,ds=ys.map PyData.str/\(ys.map (·.length)).sum+ys.length * z.length<=16777216/\Q (.d (.str (QAh z ys))) false:=by
 unfold mtV jDK;rw[jAK,jCF];refine(jWa z _).trans ?_;simp only[jAN,Qh]
theorem jXf{P:Prop}:(jRG .join (jAU (.d (.str z)) n).vw=true/\P)=P:=propext ⟨fun h=>h.2,fun h=>⟨jTa rfl,h⟩⟩
theorem w_l:itV .val [(.d (.list ds),n)] W=W (ds.map T.d):=by unfold itV jDK;rw[jAK];exact jJL _
theorem jXA:itV .val [(.lst (ds.map T.d),n)] W=W (ds.map T.d):=by unfold itV jDK;rw[jCF];exact jJL _
theorem jW9:itV .rng1 [(.d (.int j),n)] W=((-(2 ^ 62)<=j/\j<2 ^ 62)/\W ((qE j.toNat).map fun(i:Nat)=>.d (.int (i:Int)))):=by unfold itV jDK;rw[jAK];exact jN9 j
theorem jXB:itV .enum [(.d (.list ds),n)] W=W (ds.zipIdx.map fun p=>.d (.tuple [.int (p.2:Int),p.1])):=by
 unfold itV jDK;rw[jAK];refine(jJK _).trans ?_;exact propext ⟨fun⟨_,_,e1,e2,k⟩=>by cases e1;rw[jAN]at e2;cases e2;exact k,fun k=>⟨_,_,rfl,jAN _,k⟩⟩
theorem jSL:itV .enum [(.lst (ds.map T.d),n)] W=W (ds.zipIdx.map fun p=>.d (.tuple [.int (p.2:Int),p.1])):=by
 unfold itV jDK;rw[jCF];refine(jJK _).trans ?_;exact propext ⟨fun⟨_,_,e1,e2,k⟩=>by cases e1;rw[jAN]at e2;cases e2;exact k,fun k=>⟨_,_,rfl,jAN _,k⟩⟩
theorem jVy{kvs:List (D×D)}(h:kvs=[]∨jCH kvs=some true):itV .itm [(.d (.dict kvs),n)] W=W (kvs.map fun p=>.d (.tuple [p.1,p.2])):=by
 unfold itV jDK;rw[jAK];show jBP .itm [jA5 kvs] W=_;rcases h with rfl|h
 ·exact jN8
 unfold jA5;rw[h];refine(jJJ _ _).trans ?_;have e:(kvs.map fun p=>T.d p.2)=(kvs.map (·.2)).map T.d:=by rw[Qq];rfl
 have e2:((kvs.map (·.1)).zip (kvs.map (·.2))).map (fun p=>T.d (.tuple [p.1,p.2]))=kvs.map fun p=>T.d (.tuple [p.1,p.2]):=by
  rw[QAk,Qq]
  rfl
 refine propext ⟨fun⟨ds,e1,k⟩=>?_,fun k=>⟨kvs.map (·.2),by rw[e,jAN],?_⟩⟩
 ·rw[e,jAN]at e1
  cases e1;rw[e2]at k;exact k
 ·rw[e2]
  exact k
noncomputable def eZ(Q:T->List T->Prop):PEnds:={ nx:=fun _=>Q (.d .none) [],rt:=fun t _=>Q t [] }
theorem jUB{Q:T->List T->Prop}{t:T}{ρ:PSt}:(eZ Q).rt t ρ=Q t []:=rfl
theorem jAV{Ψ:PEv}{b:PT}{p:PSp}{N ps:List Str}{ds:List T}{Q:T->List T->Prop}(ρ:PSt)(hl:ds.length=ps.length)(hc:jBV 0 p.md ps.length=[])(hs:jAH N p.md ds=ρ)(h:pws Ψ (fun _=>False) b (eZ Q) ρ):ds.length=ps.length/\pws Ψ (fun _=>False) b (jAx p ps.length Q) (jAH N p.md ds):=by
 have e:jAx p ps.length Q=eZ Q:=by
  unfold jAx;rw[hc]
  rfl
 rw[e,hs];exact⟨hl,h⟩
end
end L2.L3
namespace L2.L3.K12
open PySem PySem.Spec PyProof.Rows L2 L2.L3
noncomputable def top(i:Nat):Stmt:=PySem.Challenge.pw_quoteweave_k12_whole_cut_walked.main.body.getD i (.Pass ⟨0,0,0,0⟩)
noncomputable def jCf:List Str:=["edges","starts","goal","rooms","came_from","firsts","chains"]
noncomputable def jBM:List Str:=["edges","starts","goal"]
noncomputable def jCY:Need:=⟨["rooms_of","points_reached","lay_chain","chain_from","full_names"],["BEGIN"],["sorted"]⟩
noncomputable def jBE:PT :=
  (.seq (.expr (.call "lay_chain" (.acons (.var 3) (.acons (.var 4) (.acons (.tup (.acons (.var 2) (.acons (.str "to") .anil))) .anil)))))
  (.seq (.set 4 (.call "points_reached" (.acons (.var 3) .anil)))
  .nil))
noncomputable def jCe:PT :=
  (.seq (.own 3 (.call "rooms_of" (.acons (.var 0) (.acons (.var 1) (.acons (.var 2) .anil)))))
  (.seq (.set 4 (.call "points_reached" (.acons (.var 3) .anil)))
  (.seq (.whl (.cmp .In (.tup (.acons (.var 2) (.acons (.str "to") .anil))) (.var 4)) jBE)
  (.seq (.set 5 (.comp [] ["point"] (.nm 0) .val (.acons (.idx (.var 3) (.glo "BEGIN")) .anil) (.cmp .Gt (.idx (.idx (.var 4) (.var 0)) (.glo "BEGIN")) (.int 0)) (.idx (.var 0) (.int 0))))
  (.seq (.set 6 (.comp [] ["first"] (.nm 0) .val (.acons (.var 5) .anil) .nop (.call "chain_from" (.acons (.var 4) (.acons (.var 0) (.acons (.var 3) .anil))))))
  (.seq (.ret (.tup (.acons (.bi .sorted (.acons (.var 6) .anil)) (.acons (.call "full_names" (.acons (.var 4) .anil)) .anil))))
  .nil))))))
theorem jEs:jEq jCY jCe jCf jBM (top 3)=true:=by kernel_rfl
noncomputable def jFB:List Str:=["edges","starts","goal","cut","edges_left","starts_left"]
noncomputable def jCC:List Str:=["edges","starts","goal","cut"]
noncomputable def jEa:Need:=⟨["points_reached","rooms_of"],[],[]⟩
noncomputable def jEu:PT :=
  (.seq (.set 4 (.comp [] ["edge"] (.nm 0) .val (.acons (.var 0) .anil) (.cmp .NotIn (.idx (.var 0) (.int 0)) (.var 4)) (.var 0)))
  (.seq (.set 5 (.comp [] ["name"] (.nm 0) .val (.acons (.var 1) .anil) (.cmp .NotIn (.var 0) (.var 4)) (.var 0)))
  (.seq (.ret (.cmp .NotIn (.tup (.acons (.var 2) (.acons (.str "to") .anil))) (.call "points_reached" (.acons (.call "rooms_of" (.acons (.var 4) (.acons (.var 5) (.acons (.var 2) .anil)))) .anil))))
  .nil)))
theorem jHN:jEq jEa jEu jFB jCC (top 4)=true:=by kernel_rfl
noncomputable def jFn:List Str:=["edges","starts","goal","rooms","name","first","second"]
noncomputable def jCj:List Str:=["edges","starts","goal"]
noncomputable def jFZ:Need:=⟨["add_name","add_way"],["BEGIN","WIDE"],[]⟩
noncomputable def jCM:PT :=
  (.seq (.ife (.cmp .NotEq (.var 4) (.var 2)) (.seq (.expr (.call "add_name" (.acons (.var 3) (.acons (.var 4) .anil))))
  (.seq (.expr (.call "add_way" (.acons (.var 3) (.acons (.glo "BEGIN") (.acons (.tup (.acons (.var 4) (.acons (.str "to") .anil))) (.acons (.glo "WIDE") .anil))))))
  .nil)) .nil)
  .nil)
noncomputable def jCL:PT :=
  (.seq (.ife (.and (.cmp .NotEq (.var 5) (.var 2)) (.cmp .NotEq (.var 5) (.var 6))) (.seq (.expr (.call "add_name" (.acons (.var 3) (.acons (.var 5) .anil))))
  (.seq (.expr (.call "add_name" (.acons (.var 3) (.acons (.var 6) .anil))))
  (.seq (.expr (.call "add_way" (.acons (.var 3) (.acons (.tup (.acons (.var 5) (.acons (.str "from") .anil))) (.acons (.tup (.acons (.var 6) (.acons (.str "to") .anil))) (.acons (.glo "WIDE") .anil))))))
  .nil))) .nil)
  .nil)
noncomputable def jFl:PT :=
  (.seq (.own 3 (.dsp (.glo "BEGIN") (.dnew true)))
  (.seq (.for_ (.nm 4) .val (.acons (.var 1) .anil) jCM)
  (.seq (.for_ (.tp [5,6]) .val (.acons (.var 0) .anil) jCL)
  (.seq (.ret (.var 3))
  .nil))))
theorem jIP:jEq jFZ jFl jFn jCj (top 5)=true:=by kernel_rfl
noncomputable def jFo:List Str:=["rooms","name"]
noncomputable def jCk:List Str:=["rooms","name"]
noncomputable def jFa:Need:=⟨["add_way"],[],[]⟩
noncomputable def jDf:PT :=
  (.seq (.expr (.call "add_way" (.acons (.var 0) (.acons (.tup (.acons (.var 1) (.acons (.str "to") .anil))) (.acons (.tup (.acons (.var 1) (.acons (.str "from") .anil))) (.acons (.int 1) .anil))))))
  .nil)
theorem jIQ:jEq jFa jDf jFo jCk (top 6)=true:=by kernel_rfl
noncomputable def jHh:List Str:=["rooms","here","there","room"]
noncomputable def jDS:List Str:=["rooms","here","there","room"]
noncomputable def jLu:Need:=⟨[],[],[]⟩
noncomputable def jHZ:PT :=
  (.seq (.sdf 0 (.var 1))
  (.seq (.sdf 0 (.var 2))
  (.seq (.six (.idx (.var 0) (.var 1)) (.var 2) (.var 3))
  (.seq (.six (.idx (.var 0) (.var 2)) (.var 1) (.int 0))
  .nil))))
theorem jKO:jEq jLu jHZ jHh jDS (top 7)=true:=by kernel_rfl
noncomputable def jB7:List Str:=["rooms","came_from","waiting","here","there","room"]
noncomputable def jAz:List Str:=["rooms"]
noncomputable def jD5:Need:=⟨[],["BEGIN"],["len"]⟩
noncomputable def jAP:PT :=
  (.seq (.ife (.and (.cmp .Gt (.var 5) (.int 0)) (.cmp .NotIn (.var 4) (.var 1))) (.seq (.six (.var 1) (.var 4) (.var 3))
  (.seq (.expr (.mt .append (.var 2) (.acons (.var 4) .anil)))
  .nil)) .nil)
  .nil)
noncomputable def jBc:PT :=
  (.seq (.set 3 (.mt .pop (.var 2) (.acons (.int 0) .anil)))
  (.seq (.for_ (.tp [4,5]) .itm (.acons (.idx (.var 0) (.var 3)) .anil) jAP)
  .nil))
noncomputable def jB6:PT :=
  (.seq (.own 1 (.dsp (.glo "BEGIN") .non))
  (.seq (.own 2 (.lst (.acons (.glo "BEGIN") .anil)))
  (.seq (.whl (.cmp .Gt (.bi .len (.acons (.var 2) .anil)) (.int 0)) jBc)
  (.seq (.ret (.var 1))
  .nil))))
theorem jDc:jEq jD5 jB6 jB7 jAz (top 8)=true:=by kernel_rfl
noncomputable def jFC:List Str:=["rooms","came_from","last","there","here"]
noncomputable def jCD:List Str:=["rooms","came_from","last"]
noncomputable def jH4:Need:=⟨[],["BEGIN"],[]⟩
noncomputable def jB3:PT :=
  (.seq (.set 4 (.idx (.var 1) (.var 3)))
  (.seq (.six (.idx (.var 0) (.var 4)) (.var 3) (.bin .Sub (.idx (.idx (.var 0) (.var 4)) (.var 3)) (.int 1)))
  (.seq (.six (.idx (.var 0) (.var 3)) (.var 4) (.bin .Add (.idx (.idx (.var 0) (.var 3)) (.var 4)) (.int 1)))
  (.seq (.set 3 (.var 4))
  .nil))))
noncomputable def jCp:PT :=
  (.seq (.set 3 (.var 2))
  (.seq (.whl (.cmp .NotEq (.var 3) (.glo "BEGIN")) jB3)
  .nil))
theorem jHO:jEq jH4 jCp jFC jCD (top 9)=true:=by kernel_rfl
noncomputable def jD2:List Str:=["rooms","first","goal","chain","name"]
noncomputable def jBw:List Str:=["rooms","first","goal"]
noncomputable def jDs:Need:=⟨["name_behind"],[],[]⟩
noncomputable def jBi:PT :=
  (.seq (.expr (.mt .append (.var 3) (.acons (.var 4) .anil)))
  (.seq (.set 4 (.call "name_behind" (.acons (.var 0) (.acons (.var 4) .anil))))
  .nil))
noncomputable def jCO:PT :=
  (.seq (.own 3 (.lst .anil))
  (.seq (.set 4 (.var 1))
  (.seq (.whl (.cmp .NotEq (.var 4) (.var 2)) jBi)
  (.seq (.ret (.var 3))
  .nil))))
theorem jGN:jEq jDs jCO jD2 jBw (top 10)=true:=by kernel_rfl
noncomputable def jDF:List Str:=["rooms","name","here"]
noncomputable def jBf:List Str:=["rooms","name"]
noncomputable def jF8:Need:=⟨[],[],[]⟩
noncomputable def jB2:PT :=
  (.seq (.set 2 (.tup (.acons (.var 1) (.acons (.str "from") .anil))))
  (.seq (.ret (.idx (.comp [] ["there"] (.nm 0) .val (.acons (.idx (.var 0) (.var 2)) .anil) (.and (.cmp .NotEq (.idx (.var 0) (.int 0)) (.var 2)) (.cmp .Gt (.idx (.idx (.var 1) (.var 0)) (.var 3)) (.int 0))) (.idx (.var 0) (.int 0))) (.int 0)))
  .nil))
theorem jFI:jEq jF8 jB2 jDF jBf (top 11)=true:=by kernel_rfl
noncomputable def jD1:List Str:=["came_from"]
noncomputable def jBv:List Str:=["came_from"]
noncomputable def jG2:Need:=⟨[],[],["sorted"]⟩
noncomputable def jCN:PT :=
  (.seq (.ret (.bi .sorted (.acons (.comp [] ["point"] (.nm 0) .val (.acons (.var 0) .anil) (.and (.cmp .Eq (.idx (.var 0) (.int 1)) (.str "to")) (.cmp .NotIn (.tup (.acons (.idx (.var 0) (.int 0)) (.acons (.str "from") .anil))) (.var 1))) (.idx (.var 0) (.int 0))) .anil)))
  .nil)
theorem jGM:jEq jG2 jCN jD1 jBv (top 12)=true:=by kernel_rfl
noncomputable def jHe:List Str:=["_law_cell_here","_law_k","_law_m"]
noncomputable def jDP:List Str:=["_law_cell_here","_law_k"]
noncomputable def jLs:Need:=⟨[],[],[]⟩
noncomputable def jE0:PT :=
  (.seq (.set 2 (.bin .Mod (.bin .Add (.bin .Mult (.bin .Mod (.var 0) (.int 2147483647)) (.int 48271)) (.bin .Mult (.bin .Add (.bin .Add (.bin .Mult (.var 1) (.var 1)) (.bin .Mult (.int 3) (.var 1))) (.int 7)) (.int 69621))) (.int 2147483647)))
  (.seq (.ret (.bin .Mod (.bin .Mult (.var 2) (.var 2)) (.int 2147483647)))
  .nil))
theorem jKL:jEq jLs jE0 jHe jDP (top 15)=true:=by kernel_rfl
noncomputable def jHd:List Str:=["_law_cell_here","_law_many","_law_m","_law_base","_law_some","_law_size","_law_at","_law_out","_law_k","_law_signs"]
noncomputable def jDO:List Str:=["_law_cell_here","_law_many"]
noncomputable def jG0:Need:=⟨["_law_mixed"],[],["range"]⟩
noncomputable def jB4:PT :=
  (.seq (.own 9 (.comp [] ["_law_place"] (.nm 0) .rng1 (.acons (.var 5) .anil) .nop (.var 4)))
  (.seq (.six (.var 9) (.var 6) (.idx (.var 4) (.bin .Mod (.bin .Add (.bin .FloorDiv (.var 2) (.int 4200)) (.bin .Mult (.int 3) (.var 8))) (.int 20))))
  (.seq (.six (.var 9) (.bin .Mod (.bin .Add (.var 6) (.int 1)) (.var 5)) (.idx (.var 4) (.bin .Mod (.bin .Add (.bin .FloorDiv (.var 2) (.int 84000)) (.bin .FloorDiv (.var 8) (.int 20))) (.int 20))))
  (.seq (.expr (.mt .append (.var 7) (.acons (.mt .join (.str "") (.acons (.var 9) .anil)) .anil)))
  .nil))))
noncomputable def jEz:PT :=
  (.seq (.set 2 (.call "_law_mixed" (.acons (.var 0) (.acons (.int 3) .anil))))
  (.seq (.set 3 (.idx (.str "abcdefghijklmnpqrstvwxyz") (.bin .Mod (.var 2) (.int 24))))
  (.seq (.set 4 (.str "bcdfghjklmnpqrstvwxz"))
  (.seq (.ife (.and (.cmp .Eq (.bin .Mod (.bin .FloorDiv (.var 2) (.int 25)) (.int 3)) (.int 0)) (.cmp .Lt (.var 1) (.int 9))) (.seq (.ret (.comp [false,false,false,false,false,false,false,false,true] ["_law_k"] (.nm 0) .rng1 (.acons (.var 1) .anil) .nop (.bin .Mult (.var 4) (.bin .Sub (.var 2) (.var 0)))))
  .nil) .nil)
  (.seq (.set 5 (.bin .Add (.int 2) (.bin .Mod (.bin .FloorDiv (.var 2) (.int 75)) (.int 7))))
  (.seq (.set 6 (.bin .Mod (.bin .FloorDiv (.var 2) (.int 525)) (.var 5)))
  (.seq (.own 7 (.lst .anil))
  (.seq (.for_ (.nm 8) .rng1 (.acons (.var 1) .anil) jB4)
  (.seq (.ret (.var 7))
  .nil)))))))))
theorem jKK:jEq jG0 jEz jHd jDO (top 16)=true:=by kernel_rfl
noncomputable def jJn:List Str:=["_law_script","_law_number","_law_cell_here"]
noncomputable def jEU:List Str:=["_law_script"]
noncomputable def jNx:Need:=⟨[],[],[]⟩
noncomputable def jFm:PT :=
  (.seq (.set 1 (.bin .Mod (.bin .Add (.bin .Add (.bin .Mult (.var 1) (.int 1000003)) (.var 2)) (.int 1)) (.int 2147483647)))
  .nil)
noncomputable def jGU:PT :=
  (.seq (.set 1 (.int 0))
  (.seq (.for_ (.nm 2) .val (.acons (.var 0) .anil) jFm)
  (.seq (.ret (.var 1))
  .nil)))
theorem jMm:jEq jNx jGU jJn jEU (top 17)=true:=by kernel_rfl
noncomputable def jMw:List Str:=["_law_script","_law_most","_law_seed","_law_m","_law_names_here","_law_edges","_law_k","_law_cell_here","_law_j","_law_n","_law_one","_law_other","_law_starts","_law_name"]
noncomputable def jF2:List Str:=["_law_script","_law_most"]
noncomputable def jLq:Need:=⟨["_law_fold","_law_mixed","_law_names"],[],["enumerate","range","len"]⟩
noncomputable def jCU:PT :=
  (.seq (.ife (.cmp .Eq (.bin .Mod (.bin .FloorDiv (.var 9) (.int 256)) (.idx (.lst (.acons (.int 1) (.acons (.int 2) (.acons (.int 4) .anil)))) (.bin .Mod (.bin .FloorDiv (.var 3) (.int 27)) (.int 3)))) (.int 0)) (.seq (.expr (.mt .append (.var 5) (.acons (.tup (.acons (.idx (.var 4) (.var 10)) (.acons (.idx (.var 4) (.var 11)) .anil))) .anil)))
  .nil) .nil)
  .nil)
noncomputable def jEx:PT :=
  (.seq (.set 9 (.call "_law_mixed" (.acons (.bin .Add (.var 2) (.var 7)) (.acons (.bin .Add (.bin .Add (.bin .Mult (.int 2) (.var 6)) (.var 8)) (.int 20)) .anil))))
  (.seq (.set 10 (.bin .Mod (.var 9) (.bi .len (.acons (.var 4) .anil))))
  (.seq (.set 11 (.bin .Mod (.bin .FloorDiv (.var 9) (.int 16)) (.bi .len (.acons (.var 4) .anil))))
  (.seq (.ife (.cmp .Gt (.bin .Mod (.bin .FloorDiv (.var 3) (.int 9)) (.int 3)) (.int 0)) (.seq (.set 11 (.bin .Mod (.bin .Add (.bin .Add (.var 10) (.int 1)) (.bin .Mod (.bin .FloorDiv (.var 9) (.int 16)) (.int 3))) (.bi .len (.acons (.var 4) .anil))))
  .nil) .nil)
  jCU))))
noncomputable def jEw:PT :=
  (.seq (.for_ (.nm 8) .rng1 (.acons (.bin .Add (.int 1) (.bin .Mod (.bin .FloorDiv (.var 3) (.int 5000)) (.int 2))) .anil) jEx)
  .nil)
noncomputable def jEv:PT :=
  (.seq (.ife (.cmp .Eq (.bin .Mod (.call "_law_mixed" (.acons (.var 2) (.acons (.bin .Add (.int 200) (.var 6)) .anil))) (.idx (.lst (.acons (.int 2) (.acons (.int 3) (.acons (.int 2) (.acons (.int 6) .anil))))) (.bin .Mod (.bin .FloorDiv (.var 3) (.int 81)) (.int 4)))) (.int 0)) (.seq (.expr (.mt .append (.var 12) (.acons (.var 13) .anil)))
  .nil) .nil)
  .nil)
noncomputable def jDe:PT :=
  (.seq (.frz [5,12] (.ret (.tup (.acons (.var 4) (.acons (.var 5) (.acons (.var 12) (.acons (.idx (.var 4) (.bin .Mod (.bin .FloorDiv (.var 3) (.int 1296)) (.bi .len (.acons (.var 4) .anil)))) .anil)))))))
  .nil)
noncomputable def jIU:PT :=
  (.seq (.set 2 (.call "_law_fold" (.acons (.var 0) .anil)))
  (.seq (.set 3 (.call "_law_mixed" (.acons (.var 2) (.acons (.int 1) .anil))))
  (.seq (.set 4 (.call "_law_names" (.acons (.var 2) (.acons (.bin .Add (.int 2) (.bin .Mod (.var 3) (.bin .Sub (.var 1) (.int 1)))) .anil))))
  (.seq (.own 5 (.lst .anil))
  (.seq (.for_ (.tp [6,7]) .enum (.acons (.slc (.var 0) .nop (.int 63)) .anil) jEw)
  (.seq (.own 12 (.lst .anil))
  (.seq (.for_ (.tp [6,13]) .enum (.acons (.var 4) .anil) jEv)
  (.seq (.ife (.cmp .Eq (.bin .Mod (.bin .FloorDiv (.var 3) (.int 324)) (.int 4)) (.int 0)) (.seq (.own 12 (.bin .Add (.var 12) (.slc (.var 12) .nop (.int 1))))
  .nil) .nil)
  jDe))))))))
theorem jOT:jEq jLq jIU jMw jF2 (top 18)=true:=by kernel_rfl
noncomputable def jMx:List Str:=["_law_edges","_law_starts","_law_goal","_law_cut","_law_come","_law_name","_law_turn","_law_one","_law_other"]
noncomputable def jF3:List Str:=["_law_edges","_law_starts","_law_goal","_law_cut"]
noncomputable def jRC:Need:=⟨[],[],["range","any"]⟩
noncomputable def jE3:PT :=
  (.seq (.ife (.and (.cmp .NotEq (.var 5) (.var 2)) (.cmp .NotIn (.var 5) (.var 3))) (.seq (.six (.var 4) (.var 5) (.bl true))
  .nil) .nil)
  .nil)
noncomputable def jE2:PT :=
  (.seq (.ife (.and (.cmp .In (.var 7) (.var 4)) (.and (.cmp .NotEq (.var 8) (.var 2)) (.cmp .NotIn (.var 8) (.var 3)))) (.seq (.six (.var 4) (.var 8) (.bl true))
  .nil) .nil)
  .nil)
noncomputable def jE1:PT :=
  (.seq (.for_ (.tp [7,8]) .val (.acons (.var 0) .anil) jE2)
  .nil)
noncomputable def jIV:PT :=
  (.seq (.own 4 (.dnew false))
  (.seq (.for_ (.nm 5) .val (.acons (.var 1) .anil) jE3)
  (.seq (.for_ (.nm 6) .rng1 (.acons (.int 10) .anil) jE1)
  (.seq (.ret (.bi .any (.acons (.comp [false,false,false,false,false,false,false,true,true] ["_law_one","_law_other"] (.tp [0,1]) .val (.acons (.var 0) .anil) .nop (.and (.cmp .In (.var 0) (.var 6)) (.cmp .Eq (.var 1) (.var 4)))) .anil)))
  .nil))))
theorem jOU:jEq jRC jIV jMx jF3 (top 19)=true:=by kernel_rfl
noncomputable def jHc:List Str:=["_law_found"]
noncomputable def jDN:List Str:=["_law_found"]
noncomputable def jLr:Need:=⟨[],[],["isinstance","list","all","str"]⟩
noncomputable def jEy:PT :=
  (.seq (.ife (.not (.isi (.var 0) (.bty "list" "list"))) (.seq (.ret (.bl false))
  .nil) .nil)
  (.seq (.ret (.bi .all (.acons (.comp [] ["_law_name"] (.nm 0) .val (.acons (.var 0) .anil) .nop (.isi (.var 0) (.bty "str" "str"))) .anil)))
  .nil))
theorem jKJ:jEq jLr jEy jHc jDN (top 20)=true:=by kernel_rfl
noncomputable def jHf:List Str:=["_law_chain_here","_law_edges","_law_starts","_law_goal"]
noncomputable def jDQ:List Str:=["_law_chain_here","_law_edges","_law_starts","_law_goal"]
noncomputable def jG1:Need:=⟨["_law_texts"],[],["len","set","all","range"]⟩
noncomputable def jE4:PT :=
  (.seq (.ife (.or (.not (.call "_law_texts" (.acons (.var 0) .anil))) (.or (.cmp .Eq (.bi .len (.acons (.var 0) .anil)) (.int 0)) (.or (.cmp .NotIn (.idx (.var 0) (.int 0)) (.var 2)) (.cmp .In (.var 3) (.var 0))))) (.seq (.ret (.bl false))
  .nil) .nil)
  (.seq (.ife (.or (.cmp .NotEq (.lset (.var 0)) (.bi .len (.acons (.var 0) .anil))) (.cmp .NotIn (.tup (.acons (.idx (.var 0) (.neg (.int 1))) (.acons (.var 3) .anil))) (.var 1))) (.seq (.ret (.bl false))
  .nil) .nil)
  (.seq (.ret (.bi .all (.acons (.comp [] ["_law_k"] (.nm 0) .rng1 (.acons (.bin .Sub (.bi .len (.acons (.var 0) .anil)) (.int 1)) .anil) .nop (.cmp .In (.tup (.acons (.idx (.var 1) (.var 0)) (.acons (.idx (.var 1) (.bin .Add (.var 0) (.int 1))) .anil))) (.var 2))) .anil)))
  .nil)))
theorem jKM:jEq jG1 jE4 jHf jDQ (top 21)=true:=by kernel_rfl
noncomputable def jHg:List Str:=["_law_chains","_law_met","_law_chain_here"]
noncomputable def jDR:List Str:=["_law_chains"]
noncomputable def jLt:Need:=⟨[],[],["list","len","set"]⟩
noncomputable def jCq:PT :=
  (.seq (.set 1 (.bin .Add (.var 1) (.bi .list (.acons (.var 2) .anil))))
  .nil)
noncomputable def jE5:PT :=
  (.seq (.set 1 (.lst .anil))
  (.seq (.for_ (.nm 2) .val (.acons (.var 0) .anil) jCq)
  (.seq (.ret (.cmp .Eq (.lset (.var 1)) (.bi .len (.acons (.var 1) .anil))))
  .nil)))
theorem jKN:jEq jLt jE5 jHg jDR (top 22)=true:=by kernel_rfl
noncomputable def jVO:List Str:=["_law_script","_law_names_here","_law_edges","_law_starts","_law_goal","_law_chains","_law_cut","_law_chain_here"]
noncomputable def jLJ:List Str:=["_law_script"]
noncomputable def jTX:Need:=⟨["_law_web","apart_chains","_law_chain","_law_texts","_law_apart","_law_led","meets_all"],[],["list","sorted","set","len"]⟩
noncomputable def jGT:PT :=
  (.seq (.ife (.not (.call "_law_chain" (.acons (.var 7) (.acons (.var 2) (.acons (.var 3) (.acons (.var 4) .anil)))))) (.seq (.ret (.bl false))
  .nil) .nil)
  .nil)
noncomputable def jUp:PT :=
  (.seq (.tset [1,2,3,4] (.call "_law_web" (.acons (.var 0) (.acons (.int 10) .anil))))
  (.seq (.tset [5,6] (.call "apart_chains" (.acons (.bi .list (.acons (.var 2) .anil)) (.acons (.bi .list (.acons (.var 3) .anil)) (.acons (.var 4) .anil)))))
  (.seq (.for_ (.nm 7) .val (.acons (.var 5) .anil) jGT)
  (.seq (.ife (.or (.not (.call "_law_apart" (.acons (.var 5) .anil))) (.or (.not (.call "_law_texts" (.acons (.var 6) .anil))) (.cmp .NotEq (.var 6) (.sset (.var 6))))) (.seq (.ret (.bl false))
  .nil) .nil)
  (.seq (.ife (.or (.cmp .NotEq (.bi .len (.acons (.var 6) .anil)) (.bi .len (.acons (.var 5) .anil))) (.or (.cmp .In (.var 4) (.var 6)) (.call "_law_led" (.acons (.var 2) (.acons (.var 3) (.acons (.var 4) (.acons (.var 6) .anil))))))) (.seq (.ret (.bl false))
  .nil) .nil)
  (.seq (.ret (.cmp .Is (.call "meets_all" (.acons (.bi .list (.acons (.var 2) .anil)) (.acons (.bi .list (.acons (.var 3) .anil)) (.acons (.var 4) (.acons (.bi .list (.acons (.var 6) .anil)) .anil))))) (.bl true)))
  .nil))))))
theorem jUM:jEq jTX jUp jVO jLJ (top 23)=true:=by kernel_rfl
noncomputable def jAv:PSp where
 md:=[]
 run:=fun ds Q _=>∃c k:Int,ds=[.d (.int c),.d (.int k)]/\(0<=k/\k<=1000)/\∀v:Int,0<=v->Q (.d (.int v)) []
 mono:=fun h _ z=>by obtain⟨c,k,e,l,q⟩:=z;exact⟨c,k,e,l,fun v hv=>h _ _ (q v hv)⟩
theorem jCv{c k:Int}{K:T->List T->Prop}{E:XE}:jFF jAv [.d (.int c),.d (.int k)] K E=((0<=k/\k<=1000)/\∀v:Int,0<=v->K (.d (.int v)) []):=propext ⟨fun⟨_,_,e,q⟩=>by cases e;exact q,fun q=>⟨c,k,rfl,q⟩⟩
theorem jNl{Ψ:PEv}(ds Q E)(h:jAv.run ds Q E):ds.length=jDP.length/\pws Ψ (fun _=>False) jE0 (jAx jAv jDP.length Q) (jAH jHe jAv.md ds):=by
 obtain⟨c,k,rfl,⟨h0,h1⟩,q⟩:=h;refine jAV [some (.bor (.d (.int c))),some (.bor (.d (.int k))),none] rfl rfl rfl ?_;delta jE0
 simp_arith[↓jAF]
 have a:=Qz c (show(2147483647:Int)≠0 by decide);have b:=Qn c (show(0:Int)<2147483647 by decide);have m0:0<=(c % 2147483647 * 48271+(k * k+3 * k+7) * 69621) % 2147483647:=Qz _ (by decide);have m1:(c % 2147483647 * 48271+(k * k+3 * k+7) * 69621) % 2147483647<2147483647:=Qn _ (by decide);exact⟨jM8.ok (.inr ⟨by omega,by omega⟩),jM8.ok (.inr ⟨by omega,by omega⟩),jM8.ok (.inr ⟨by omega,by omega⟩),jM8.ok (.inr ⟨by omega,by omega⟩),jM8.ok (.inl ⟨by omega,by omega⟩),q _ (Qz _ (by decide))⟩
noncomputable def jCi:PSp where
 md:=[.shal]
 run:=fun ds Q _=>∃ns:List Int,ds=[.lst ((ns.map PyData.int).map T.d)]/\∀v:Int,Q (.d (.int v)) []
 mono:=fun h _ z=>by obtain⟨ns,e,q⟩:=z;exact⟨ns,e,fun v=>h _ _ (q v)⟩
theorem jNQ{ns:List Int}{K:T->List T->Prop}{E:XE}:jFF jCi [.lst ((ns.map PyData.int).map T.d)] K E=∀v:Int,K (.d (.int v)) []:=propext ⟨fun⟨ms,e,q⟩=>q,fun q=>⟨ns,rfl,q⟩⟩
theorem jQw{Ψ:PEv}(ds Q E)(h:jCi.run ds Q E):ds.length=jEU.length/\pws Ψ (fun _=>False) jGU (jAx jCi jEU.length Q) (jAH jJn jCi.md ds):=by
 obtain⟨ns,rfl,q⟩:=h;refine jAV [some (.bor (.lst ((ns.map PyData.int).map T.d))),none,none] rfl rfl rfl ?_;delta jGU
 simp_arith[↓jAF]
 rw[<- jBH];refine jAw (fun(n:Int)=>T.d (.int n)) (fun l ρ=>∃a o,0<=a/\a<2147483647/\ρ=[some (.bor (.lst ((ns.map PyData.int).map T.d))),some (.bor (.d (.int a))),o]) ?_ ?_ _ _ ⟨0,_,by decide,by decide,by rw[jBH]⟩
 ·rintro ρ ⟨a,o,_,_,rfl⟩
  simp_arith[↓jAF]
  exact q a
 ·rintro x l ρ N hN ⟨a,o,h0,h1,rfl⟩
  delta jFm
  simp_arith[↓jAF]
  exact⟨jM8.ok (.inr ⟨by decide,by decide⟩),hN _ ⟨_,_,Qz _ (by decide),Qn _ (by decide),rfl⟩⟩
def okT(s:Str):Prop:=s.length<=9/\∀c∈s.cps.toList,c<128
theorem jMT(xs:List (Array Nat)):∀(acc:Array Nat),(xs.foldl (·++·) acc).toList=acc.toList++(xs.map QBq).flatten:=by
 induction xs with
 |nil=>intro acc;simp
 |cons a xs ih=>intro acc;rw[wz,ih];simp
theorem jJ3(x:Str)(k:Int):(jIt x k).cps.toList=(Qw k.toNat x.cps.toList).flatten:=by
 unfold jIt Txt.mul;split
 ·rename_i h
  have:k.toNat=0:=by omega
  rw[this]
  rfl
 ·rename_i h
  split
  ·rename_i h2
   rw[wM]at h2;rcases h2 with h2|h2
   ·have:k=1:=by simpa using h2
    subst this;simp
   ·have h3:x.length=0:=by simpa using h2
    have:x.cps.toList=[]:=by
     have:x.cps.toList.length=0:=by rw[QT];exact h3
     exact qg.mp this
    rw[this];simp
  ·show((Qw k.toNat x.cps).foldl (·++·) #[]).toList=_
   rw[jMT];simp
theorem jSi{c:Nat}(hc:c<128){k:Int}(hk:k<=9):okT (jIt ⟨#[c]⟩ k):=by
 have h:=jJ3 ⟨#[c]⟩ k;have e:(Qw k.toNat ([c]:List Nat)).flatten=Qw k.toNat c:=by
  generalize k.toNat=n
  induction n with
  |zero=>rfl
  |succ n ih=>rw[qm,qp,ih,qm];rfl
 have h:(jIt ⟨#[c]⟩ k).cps.toList=Qw k.toNat c:=h.trans e;refine⟨?_,fun x hx=>?_⟩
 ·have:=congrArg qz h
  rw[QT,qZ]at this;show(jIt ⟨#[c]⟩ k).cps.size<=9
  omega
 ·rw[h]at hx
  rw[List.eq_of_mem_replicate hx];exact hc
theorem jFc:∀(ys:List Str),(QCH (Qt "") ys).cps.toList=(ys.map fun y=>y.cps.toList).flatten
 |[]=>rfl
 |[y]=>by simp[QCH]
 |y::z::r=>by
  have ih:=jFc (z::r);show((y.cps++(Qt "").cps)++(QCH (Qt "") (z::r)).cps).toList=_;rw[QBL,QBL,ih,show(Qt "").cps.toList=[] by decide +kernel,wH]
  rfl
def one(y:Str):Prop:=∃c,c<128/\y=⟨#[c]⟩
theorem jRQ{ys:List Str}(hl:ys.length<=9)(h:∀y∈ys,one y):okT (QAh (Qt "") ys):=by
 have e:(QAh (Qt "") ys).cps.toList=(ys.map fun y=>y.cps.toList).flatten:=by
  rw[show QAh (Qt "") ys=QCH (Qt "") ys from StrLaws.glued_eq_join _ _];exact jFc ys
 have key:∀(ys:List Str),(∀y∈ys,one y)->((ys.map fun y=>y.cps.toList).flatten).length=ys.length/\∀c∈(ys.map fun y=>y.cps.toList).flatten,c<128:=by
  intro ys
  induction ys with
  |nil=>intro _;exact⟨rfl,fun c hc=>by simp at hc⟩
  |cons y r ih =>
   intro h;obtain⟨i1,i2⟩:=ih fun z hz=>h z (QE _ hz);obtain⟨c,hc,rfl⟩:=h y QF;rw[QR,qp];refine⟨?_,fun x hx=>?_⟩
   ·rw[QM,i1,QL]
    show 1+r.length=r.length+1
    omega
   ·rcases Qd.mp hx with hx|hx
    ·have:x=c:=by simpa using hx
     rw[this];exact hc
    ·exact i2 x hx
 obtain⟨k1,k2⟩:=key ys h;refine⟨?_,by rw[e];exact k2⟩;have:=congrArg qz e;rw[QT,k1]at this;show(QAh (Qt "") ys).cps.size<=9
 omega
noncomputable def jBt:PSp where
 md:=[]
 run:=fun ds Q _=>∃c k:Int,ds=[.d (.int c),.d (.int k)]/\(2<=k/\k<=10)/\∀ns:List Str,ns.length=k.toNat->(∀s∈ns,okT s)->Q (.lst ((ns.map PyData.str).map T.d)) []
 mono:=fun h _ z=>by obtain⟨c,k,e,l,q⟩:=z;exact⟨c,k,e,l,fun ns h1 h2=>h _ _ (q ns h1 h2)⟩
theorem jK0{c k:Int}{K:T->List T->Prop}{E:XE}(h:2<=k/\k<=10)(q:∀ns:List Str,ns.length=k.toNat->(∀s∈ns,okT s)->K (.lst ((ns.map PyData.str).map T.d)) []):jFF jBt [.d (.int c),.d (.int k)] K E:=⟨c,k,rfl,h,q⟩
theorem jXu:(Qt "abcdefghijklmnpqrstvwxyz").cps.toList.length=24/\((Qt "abcdefghijklmnpqrstvwxyz").cps.toList.all fun c=>decide (c<128))=true:=by decide +kernel
theorem jXv:(Qt "bcdfghjklmnpqrstvwxz").cps.toList.length=20/\((Qt "bcdfghjklmnpqrstvwxz").cps.toList.all fun c=>decide (c<128))=true:=by decide +kernel
theorem jY4{i:Int}{K:Nat->Prop}(h0:0<=i)(h1:i<24)(k:∀c,c<128->K c):jDq (atI (Qt "abcdefghijklmnpqrstvwxyz").cps.toList i) K :=
 jUq h0 (by rw[jXu.1];exact h1) fun v hv=>k v (of_decide_eq_true (qM.mp jXu.2 v hv))
theorem jXt{i:Int}{K:Nat->Prop}(h0:0<=i)(h1:i<20)(k:∀c,c<128->K c):jDq (atI (Qt "bcdfghjklmnpqrstvwxz").cps.toList i) K :=
 jUq h0 (by rw[jXv.1];exact h1) fun v hv=>k v (of_decide_eq_true (qM.mp jXv.2 v hv))
theorem jTf:(Qt "bcdfghjklmnpqrstvwxz").length<=sizeLine:=by decide +kernel
theorem jWd:(Qt "abcdefghijklmnpqrstvwxyz").length<=sizeLine:=by decide +kernel
theorem jLY{ys:List Str}(h:∀y∈ys,one y){n:Nat}{c:Nat}(hc:c<128):∀y∈ys.set n ⟨#[c]⟩,one y:=fun y hy=>by
 rcases List.mem_or_eq_of_mem_set hy with z|z
 ·exact h y z
 ·exact⟨c,hc,z⟩
theorem jKp:∀{ys:List Str},(∀y∈ys,one y)->(ys.map (·.length)).sum=ys.length
 |[],_=>rfl
 |y::r,h=>by
  obtain⟨c,_,rfl⟩:=h y QF;rw[QR,List.sum_cons,jKp fun z hz=>h z (QE _ hz),QL];show 1+r.length=r.length+1
  omega
noncomputable def nmS(c k m:Int)(c1:Nat)(sz av:Int)(ns:List Str)(o8 o9:Option Sl):PSt:=[some (.bor (.d (.int c))),some (.bor (.d (.int k))),some (.bor (.d (.int m))),some (.bor (.d (.str ⟨#[c1]⟩))),some (.bor (.d (.str (Qt "bcdfghjklmnpqrstvwxz")))),some (.bor (.d (.int sz))),some (.bor (.d (.int av))),some (.own (.lst ((ns.map PyData.str).map T.d))),o8,o9]
theorem jQ5{Ψ:PEv}{Z:PEnds}{c k m:Int}{c1:Nat}{sz av:Int}{ns:List Str}{o8 o9:Option Sl}{i:Nat}(m0:0<=m)(hc:c1<128)(s0:2<=sz)(s1:sz<=8)(a0:0<=av)(a1:av<sz)(hl:ns.length<=9)(q:∀s o,okT s->Z.nx (nmS c k m c1 sz av (ns++[s]) (some (.bor (.d (.int (i:Int))))) o)) :
  pws Ψ (fun _=>False) jB4 Z (nmS c k m c1 sz av ns (some (.bor (.d (.int (i:Int))))) o9):=by
 have hz:sizeLine=16777216:=QW;delta nmS at q ⊢;delta jB4
 simp_arith[↓jAF]
 refine⟨by omega,by omega,jBp (fun(i:Nat)=>T.d (.int (i:Int))) (fun _=>.d (.str ⟨#[c1]⟩)) _ _ _ (fun x _ R hR=>?_) (by rw[qN,Qi];omega) ?_⟩
 ·simp_arith[↓jAF]
  exact hR
 rw[qD,jBH];have e0:(qE sz.toNat).map (fun _=>PyData.str ⟨#[c1]⟩)=((qE sz.toNat).map fun _=>(⟨#[c1]⟩:Str)).map PyData.str:=by rw[Qq];rfl
 rw[e0];have hy:∀y∈(qE sz.toNat).map fun _=>(⟨#[c1]⟩:Str),one y:=fun y hy=>by
  obtain⟨_,_,e⟩:=Qg.mp hy;exact⟨c1,hc,e.symm⟩
 have hyl:((qE sz.toNat).map fun _=>(⟨#[c1]⟩:Str)).length=sz.toNat:=by rw[QG,qN]
 generalize (qE sz.toNat).map (fun _=>(⟨#[c1]⟩:Str))=ys at hy hyl;refine⟨jM8.ok (.inl ⟨by decide,by decide⟩),jTf,jXt (Qz _ (by decide)) (Qn _ (by decide)) fun c2 hc2=>jXG a0 (by rw[QG];omega) ?_⟩;rw[<- QBu];refine⟨jTf,jXt (Qz _ (by decide)) (Qn _ (by decide)) fun c3 hc3=>?_⟩;refine⟨by omega,jXG (Qz _ (by omega)) (by rw[QG,qu,hyl];have:=Qn (av+1) (show 0<sz by omega);omega) ?_⟩;rw[<- QBu];have hy2:=jLY (jLY hy (n:=av.toNat) hc2) (n:=((av+1) % sz).toNat) hc3;have hl2:((ys.set av.toNat ⟨#[c2]⟩).set ((av+1) % sz).toNat ⟨#[c3]⟩).length=sz.toNat:=by rw[qu,qu,hyl]
 generalize (ys.set av.toNat ⟨#[c2]⟩).set ((av+1) % sz).toNat ⟨#[c3]⟩=zs at hy2 hl2
 simp_arith[↓jAF]
 refine⟨zs,rfl,by rw[jKp hy2,show(Qt "").length=0 by decide +kernel];omega,?_⟩;have hj:=jRQ (by omega) hy2;have key:=q _ (some (.own (.lst ((zs.map PyData.str).map T.d)))) hj;refine⟨?_,?_⟩
 ·rw[QG,QG];omega
 rw[Qe,Qe]at key;exact key
noncomputable def jDD:PT :=
  (.seq (.set 5 (.bin .Add (.int 2) (.bin .Mod (.bin .FloorDiv (.var 2) (.int 75)) (.int 7))))
  (.seq (.set 6 (.bin .Mod (.bin .FloorDiv (.var 2) (.int 525)) (.var 5)))
  (.seq (.own 7 (.lst .anil))
  (.seq (.for_ (.nm 8) .rng1 (.acons (.var 1) .anil) jB4)
  (.seq (.ret (.var 7))
  .nil)))))
noncomputable def jHY:PT->PT:=fun r =>
  (.seq (.set 2 (.call "_law_mixed" (.acons (.var 0) (.acons (.int 3) .anil))))
  (.seq (.set 3 (.idx (.str "abcdefghijklmnpqrstvwxyz") (.bin .Mod (.var 2) (.int 24))))
  (.seq (.set 4 (.str "bcdfghjklmnpqrstvwxz"))
  (.seq (.ife (.and (.cmp .Eq (.bin .Mod (.bin .FloorDiv (.var 2) (.int 25)) (.int 3)) (.int 0)) (.cmp .Lt (.var 1) (.int 9))) (.seq (.ret (.comp [false,false,false,false,false,false,false,false,true] ["_law_k"] (.nm 0) .rng1 (.acons (.var 1) .anil) .nop (.bin .Mult (.var 4) (.bin .Sub (.var 2) (.var 0)))))
  .nil) .nil)
  r))))
theorem jNw:jEz=jHY jDD:=rfl
theorem jRB{Ψ:PEv}{Q:T->List T->Prop}{c k m:Int}{c1:Nat}(hm:0<=m)(k0:2<=k)(k1:k<=10)(hc:c1<128)(q:∀ns:List Str,ns.length=k.toNat->(∀s∈ns,okT s)->Q (.lst ((ns.map PyData.str).map T.d)) []) :
  pws Ψ (fun _=>False) jDD (eZ Q) [some (.bor (.d (.int c))),some (.bor (.d (.int k))),some (.bor (.d (.int m))),some (.bor (.d (.str ⟨#[c1]⟩))),some (.bor (.d (.str (Qt "bcdfghjklmnpqrstvwxz")))),none,none,none,none,none]:=by
 delta jDD
 simp_arith[↓jAF]
 have s0:=Qz (m / 75) (show(7:Int)≠0 by decide);have s1:=Qn (m / 75) (show(0:Int)<7 by decide);have s0':2<=2+m / 75 % 7:=by omega
 have s1':2+m / 75 % 7<=8:=by omega
 generalize 2+m / 75 % 7=sz at s0' s1';have a0:=Qz (m / 525) (show sz≠0 by omega);have a1:=Qn (m / 525) (show 0<sz by omega);generalize m / 525 % sz=av at a0 a1;refine⟨by omega,qG _,by omega,by omega,jAw (fun(i:Nat)=>T.d (.int (i:Int))) (fun l ρ=>∃ns o8 o9,ns.length+l.length=k.toNat/\(∀s∈ns,okT s)/\ρ=nmS c k m c1 sz av ns o8 o9) ?_ ?_ _ _ ⟨[],_,_,by rw[qN,Qi,QAD],fun s hs=>(nomatch hs),rfl⟩⟩
 ·rintro ρ ⟨ns,o8,o9,hl,hns,rfl⟩
  delta nmS
  simp_arith[↓jAF]
  exact q ns (by rw[Qi]at hl;omega) hns
 ·rintro i l ρ N hN ⟨ns,o8,o9,hl,hns,rfl⟩
  rw[QL]at hl;exact jQ5 (o8:=some (.bor (.d (.int (i:Int))))) (o9:=o9) hm hc s0' s1' a0 a1 (by omega) fun s o hs=>hN _ ⟨ns++[s],_,_,by rw[QM,Ql];omega,fun y hy=>by
   rcases Qd.mp hy with hy|hy
   ·exact hns y hy
   ·rw[QJ.mp hy];exact hs,rfl⟩
theorem jNk{Ψ:PEv}(h1:Ψ.sp "_law_mixed"=jAv)(ds Q E)(h:jBt.run ds Q E):ds.length=jDO.length/\pws Ψ (fun _=>False) jEz (jAx jBt jDO.length Q) (jAH jHd jBt.md ds):=by
 obtain⟨c,k,rfl,⟨k0,k1⟩,q⟩:=h;refine jAV [some (.bor (.d (.int c))),some (.bor (.d (.int k))),none,none,none,none,none,none,none,none] rfl rfl rfl ?_;rw[jNw];have hr:∀(m:Int) (c1:Nat),0<=m->c1<128->_:=fun m c1 hm hc=>jRB (Ψ:=Ψ) (c:=c) (m:=m) (c1:=c1) hm k0 k1 hc q;generalize jDD=r at hr;delta jHY
 simp_arith[↓jAS (md:=[]) h1 rfl rfl,↓jCv]
 refine fun m hm=>⟨jWd,jY4 (Qz _ (by decide)) (Qn _ (by decide)) fun c1 hc=>?_⟩
 have hr:=hr m c1 hm hc;split
 ·split
  ·rename_i h9
   have h9:=of_decide_eq_true h9;have hz:sizeLine=16777216:=QW;refine⟨by omega,by omega,jBp (fun(i:Nat)=>T.d (.int (i:Int))) (fun i=>.d (.str (jIt ⟨#[c1]⟩ (k - (i:Int))))) _ _ _ (fun x hx R hR=>?_) (by rw[qN,Qi];omega) ?_⟩
   ·simp_arith[↓jAF]
    have hx:=Wh.mp hx;refine⟨by omega,by omega,?_,hR⟩;show 1 * (k - (x:Int)).toNat<=sizeLine
    omega
   ·rw[qD,jBH]
    have:=q ((qE k.toNat).map fun(i:Nat)=>jIt ⟨#[c1]⟩ (k - (i:Int))) (by rw[QG,qN]) fun s hs=>by
     obtain⟨i,_,rfl⟩:=Qg.mp hs;exact jSi hc (by omega)
    rw[show((qE k.toNat).map fun(i:Nat)=>jIt ⟨#[c1]⟩ (k - (i:Int))).map PyData.str=(qE k.toNat).map fun(i:Nat)=>PyData.str (jIt ⟨#[c1]⟩ (k - (i:Int))) by rw[Qq];rfl]at this;exact this
  ·exact hr
 ·exact hr
noncomputable def pr(p:Str×Str):D:=.tuple [.str p.1,.str p.2]
noncomputable def wbS(sc sd m:Sl)(ns:List Str)(es:LSS)(o6 o7 o8 o9 o10 o11 o12 o13:Option Sl):PSt:=[some sc,some (.bor (.d (.int 10))),some sd,some m,some (.bor (.d (.list (ns.map PyData.str)))),some (.own (.lst ((es.map pr).map T.d))),o6,o7,o8,o9,o10,o11,o12,o13]
theorem jWs{ns:List Str}{i:Int}{K:D->Prop}(h0:0<=i)(h1:i<ns.length)(k:∀s∈ns,K (.str s)):jDq (atI (ns.map PyData.str) i) K :=
 jPa h0 (by rw[QG];exact h1) fun v hv=>by
  obtain⟨s,hs,rfl⟩:=Qg.mp hv;exact k s hs
theorem jXs{l:List Int}{i:Int}{K:D->Prop}(h0:0<=i)(h1:i<l.length)(hp:∀s∈l,0<s)(k:∀s,0<s->K (.int s)):jDq (atI (l.map PyData.int) i) K :=
 jPa h0 (by rw[QG];exact h1) fun v hv=>by
  obtain⟨s,hs,rfl⟩:=Qg.mp hv;exact k s (hp s hs)
theorem jSI{Ψ:PEv}{Z:PEnds}{sc sd:Sl}{m n a b:Int}{ns:List Str}{es:LSS}{o6 o7 o8 o12 o13:Option Sl}(hl:es.length<=200)(a0:0<=a)(a1:a<ns.length)(b0:0<=b)(b1:b<ns.length)
  (q:∀es',es'.length<=es.length+1->(∀p∈es',p∈es∨p.1∈ns/\p.2∈ns)->Z.nx (wbS sc sd (.bor (.d (.int m))) ns es' o6 o7 o8 (some (.bor (.d (.int n)))) (some (.bor (.d (.int a)))) (some (.bor (.d (.int b)))) o12 o13)) :
  pws Ψ (fun _=>False) jCU Z (wbS sc sd (.bor (.d (.int m))) ns es o6 o7 o8 (some (.bor (.d (.int n)))) (some (.bor (.d (.int a)))) (some (.bor (.d (.int b)))) o12 o13):=by
 have hz:sizeLine=16777216:=QW;delta wbS at q ⊢;delta jCU
 simp_arith[↓jAF]
 refine⟨by omega,jXs (l:=[1,2,4]) (Qz _ (by decide)) (Qn _ (by decide)) (by decide) fun d hd=>?_⟩
 simp_arith[↓jAF]
 refine⟨hd,?_⟩;split
 ·refine jWs a0 a1 fun x hx=>jWs b0 b1 fun y hy=>?_
  refine⟨by omega,?_,?_⟩
  ·rw[QG,QG];omega
  have:=q (es++[(x,y)]) (by rw[QM];exact QU _) fun p hp=>by
   rcases Qd.mp hp with hp|hp
   ·exact .inl hp
   ·rw[QJ.mp hp];exact .inr ⟨hx,hy⟩
  rw[Qe,Qe]at this;exact this
 ·exact q es (wJ _) fun p hp=>.inl hp
theorem jVw{Ψ:PEv}{Z:PEnds}(h1:Ψ.sp "_law_mixed"=jAv){sc:Sl}{s m c:Int}{i j:Nat}{ns:List Str}{es:LSS}{o9 o10 o11 o12 o13:Option Sl}(hl:es.length<=200)(hn:0<ns.length)(hi:i<63)(hj:j<2)
  (q:∀es' o9 o10 o11,es'.length<=es.length+1->(∀p∈es',p∈es∨p.1∈ns/\p.2∈ns)->Z.nx (wbS sc (.bor (.d (.int s))) (.bor (.d (.int m))) ns es' (some (.bor (.d (.int (i:Int))))) (some (.bor (.d (.int c)))) (some (.bor (.d (.int (j:Int))))) o9 o10 o11 o12 o13)) :
  pws Ψ (fun _=>False) jEx Z (wbS sc (.bor (.d (.int s))) (.bor (.d (.int m))) ns es (some (.bor (.d (.int (i:Int))))) (some (.bor (.d (.int c)))) (some (.bor (.d (.int (j:Int))))) o9 o10 o11 o12 o13):=by
 have hz:sizeLine=16777216:=QW;have hr:∀n a b:Int,0<=a->a<ns.length->0<=b->b<ns.length->pws Ψ (fun _=>False) jCU Z (wbS sc (.bor (.d (.int s))) (.bor (.d (.int m))) ns es (some (.bor (.d (.int (i:Int))))) (some (.bor (.d (.int c)))) (some (.bor (.d (.int (j:Int))))) (some (.bor (.d (.int n)))) (some (.bor (.d (.int a)))) (some (.bor (.d (.int b)))) o12 o13):=fun n a b a0 a1 b0 b1=>jSI hl a0 a1 b0 b1 fun es' e1 e2=>q es' _ _ _ e1 e2;have hn':(0:Int)<ns.length:=by omega
 delta wbS at hr ⊢;delta jEx
 simp_arith![↓jAS (md:=[]) h1 rfl rfl]
 refine⟨jM8.ok (.inl ⟨by decide,by decide⟩),Eq.mpr jCv ⟨⟨by omega,by omega⟩,fun n hn0=>?_⟩⟩
 simp_arith![QG]
 refine⟨hn',hn',?_⟩;split
 ·exact⟨hn',hr _ _ _ (Qz _ (by omega)) (Qn _ hn') (Qz _ (by omega)) (Qn _ hn')⟩
 ·exact hr _ _ _ (Qz _ (by omega)) (Qn _ hn') (Qz _ (by omega)) (Qn _ hn')
theorem jVv{Ψ:PEv}{Z:PEnds}(h1:Ψ.sp "_law_mixed"=jAv){sc:Sl}{s m c:Int}{i:Nat}{ns:List Str}{es:LSS}{o8 o9 o10 o11 o12 o13:Option Sl}(hl:es.length<=126)(hn:0<ns.length)(hi:i<63)
  (q:∀es' o8 o9 o10 o11,es'.length<=es.length+2->(∀p∈es',p∈es∨p.1∈ns/\p.2∈ns)->Z.nx (wbS sc (.bor (.d (.int s))) (.bor (.d (.int m))) ns es' (some (.bor (.d (.int (i:Int))))) (some (.bor (.d (.int c)))) o8 o9 o10 o11 o12 o13)) :
  pws Ψ (fun _=>False) jEw Z (wbS sc (.bor (.d (.int s))) (.bor (.d (.int m))) ns es (some (.bor (.d (.int (i:Int))))) (some (.bor (.d (.int c)))) o8 o9 o10 o11 o12 o13):=by
 have hz:sizeLine=16777216:=QW;delta wbS;delta jEw
 simp_arith[↓jAF]
 have t0:=Qz (m / 5000) (show(2:Int)≠0 by decide);have t1:=Qn (m / 5000) (show(0:Int)<2 by decide);generalize m / 5000 % 2=t at t0 t1;refine⟨by omega,by omega,jAw (fun(j:Nat)=>T.d (.int (j:Int))) (fun l ρ=>∃es' o8 o9 o10 o11,(∀j∈l,j<2)/\es'.length+l.length<=es.length+2/\(∀p∈es',p∈es∨p.1∈ns/\p.2∈ns)/\ρ=wbS sc (.bor (.d (.int s))) (.bor (.d (.int m))) ns es' (some (.bor (.d (.int (i:Int))))) (some (.bor (.d (.int c)))) o8 o9 o10 o11 o12 o13) ?_ ?_ _ _ ⟨es,_,_,_,_,fun j hj=>by have:=Wh.mp hj;omega,by rw[qN];omega,fun p hp=>.inl hp,rfl⟩⟩
 ·rintro ρ ⟨es',p8,p9,p10,p11,_,e1,e2,rfl⟩
  exact q es' _ p9 p10 p11 (by rw[Qi]at e1;omega) e2
 ·rintro j l ρ N hN ⟨es',p8,p9,p10,p11,e0,e1,e2,rfl⟩
  rw[QL]at e1;exact jVw (j:=j) (o9:=p9) (o10:=p10) (o11:=p11) h1 (by omega) hn hi (e0 j QF) fun es2 r9 r10 r11 f1 f2=>hN _ ⟨es2,_,r9,r10,r11,fun k hk=>e0 k (QE _ hk),by omega,fun p hp=>by
   rcases f2 p hp with z|z
   ·exact e2 p z
   ·exact .inr z,rfl⟩
noncomputable def wcS(sc:Sl)(s m:Int)(ns:List Str)(es:LSS)(st:List Str)(o6 o7 o8 o9 o10 o11 o13:Option Sl):PSt:=[some sc,some (.bor (.d (.int 10))),some (.bor (.d (.int s))),some (.bor (.d (.int m))),some (.bor (.d (.list (ns.map PyData.str)))),some (.own (.lst ((es.map pr).map T.d))),o6,o7,o8,o9,o10,o11,some (.own (.lst ((st.map PyData.str).map T.d))),o13]
theorem jVu{Ψ:PEv}{Z:PEnds}(h1:Ψ.sp "_law_mixed"=jAv){sc:Sl}{s m:Int}{i:Nat}{x:Str}{ns:List Str}{es:LSS}{st:List Str}{o7 o8 o9 o10 o11:Option Sl}(hl:st.length<=10)(hi:i<10)
  (q0:Z.nx (wcS sc s m ns es st (some (.bor (.d (.int (i:Int))))) o7 o8 o9 o10 o11 (some (.bor (.d (.str x))))))
  (q1:Z.nx (wcS sc s m ns es (st++[x]) (some (.bor (.d (.int (i:Int))))) o7 o8 o9 o10 o11 (some (.bor (.d (.str x)))))) :
  pws Ψ (fun _=>False) jEv Z (wcS sc s m ns es st (some (.bor (.d (.int (i:Int))))) o7 o8 o9 o10 o11 (some (.bor (.d (.str x))))):=by
 have hz:sizeLine=16777216:=QW;delta wcS at q0 q1 ⊢;delta jEv
 simp_arith![↓jAS (md:=[]) h1 rfl rfl]
 refine Eq.mpr jCv ⟨⟨by omega,by omega⟩,fun n hn0=>?_⟩
 simp_arith![↓jAF]
 refine⟨by omega,jXs (l:=[2,3,2,6]) (Qz _ (by decide)) (Qn _ (by decide)) (by decide) fun d hd=>?_⟩
 simp_arith![↓jAF]
 refine⟨hd,?_⟩;split
 ·refine⟨by rw[QG,QG];omega,?_⟩
  rw[Qe,Qe]at q1;exact q1
 ·exact q0
def jE9(ns:List Str)(es:LSS)(st:List Str)(g:Str):Prop:=ns.length<=10/\(∀s∈ns,okT s)/\es.length<=126/\(∀p∈es,p.1∈ns/\p.2∈ns)/\st.length<=11/\(∀s∈st,s∈ns)/\g∈ns
noncomputable def jVx(ns:List Str)(es:LSS)(st:List Str)(g:Str):D:=.tuple [.list (ns.map PyData.str),.list (es.map pr),.list (st.map PyData.str),.str g]
theorem jSH{Ψ:PEv}{Q:T->List T->Prop}{sc:Sl}{s m:Int}{ns:List Str}{es:LSS}{st:List Str}{o6 o7 o8 o9 o10 o11 o13:Option Sl}(hn:0<ns.length)(q:∀g∈ns,Q (.d (jVx ns es st g)) []) :
  pws Ψ (fun _=>False) jDe (eZ Q) (wcS sc s m ns es st o6 o7 o8 o9 o10 o11 o13):=by
 have hz:sizeLine=16777216:=QW;have hn':(0:Int)<ns.length:=by omega
 delta wcS;delta jDe
 simp_arith![QG]
 have e1:(T.lst ((es.map pr).map T.d)).er=.list (es.map pr):=by show PyData.list (jC8 ((es.map pr).map T.d))=_;rw[jAe]
 have e2:(T.lst ((st.map PyData.str).map T.d)).er=.list (st.map PyData.str):=by show PyData.list (jC8 ((st.map PyData.str).map T.d))=_;rw[jAe]
 rw[e1,e2];exact⟨hn',jWs (Qz _ (by omega)) (Qn _ hn') fun g hg=>⟨by omega,q g hg⟩⟩
theorem jIL{α:Type}(l:List α)(k:Nat):(jHj l none (some (k:Int))).length<=k:=by
 unfold jHj;rw[Wo];have:HT.sIx l.length l.length (some (k:Int))<=k:=by
  unfold HT.sIx;simp only;split<;>omega
 omega
theorem jRm{α:Type}{l:List α}{a b:Option Int}{x:α}(h:x∈jHj l a b):x∈l:=List.mem_of_mem_drop (List.mem_of_mem_take h)
theorem jMi{α β:Type}(f:α->β)(l:List α)(a b:Option Int):jHj (l.map f) a b=(jHj l a b).map f:=by
 unfold jHj;rw[QG,List.map_take,List.map_drop]
theorem jOf{α:Type}{l:List α}{p:α×Nat}(h:p∈l.zipIdx):p.2<l.length/\p.1∈l:=by
 have h:=List.mem_zipIdx_iff_getElem?.mp h;exact⟨(Qa.mp h).1,qC h⟩
noncomputable def jDk:PSp where
 md:=[.shal]
 run:=fun ds Q _=>∃cs:List Int,ds=[.lst ((cs.map PyData.int).map T.d),.d (.int 10)]/\∀ns es st g,jE9 ns es st g->Q (.d (jVx ns es st g)) []
 mono:=fun h _ z=>by obtain⟨cs,e,q⟩:=z;exact⟨cs,e,fun ns es st g w=>h _ _ (q ns es st g w)⟩
theorem jQC{cs:List Int}{K:T->List T->Prop}{E:XE}(q:∀ns es st g,jE9 ns es st g->K (.d (jVx ns es st g)) []):jFF jDk [.lst ((cs.map PyData.int).map T.d),.d (.int 10)] K E:=⟨cs,rfl,q⟩
theorem jTL{Ψ:PEv}(h0:Ψ.sp "_law_fold"=jCi)(h1:Ψ.sp "_law_mixed"=jAv)(h2:Ψ.sp "_law_names"=jBt)(ds Q E)(h:jDk.run ds Q E):ds.length=jF2.length/\pws Ψ (fun _=>False) jIU (jAx jDk jF2.length Q) (jAH jMw jDk.md ds):=by
 obtain⟨cs,rfl,q⟩:=h;have hz:sizeLine=16777216:=QW;refine jAV [some (.bor (.lst ((cs.map PyData.int).map T.d))),some (.bor (.d (.int 10))),none,none,none,none,none,none,none,none,none,none,none,none] rfl rfl rfl ?_;delta jIU
 simp_arith![↓jAS (md:=[.shal]) h0 rfl rfl,↓jAS (md:=[]) h1 rfl rfl,↓jAS (md:=[]) h2 rfl rfl]
 refine Eq.mpr jNQ fun v=>?_
 simp_arith![↓jAS (md:=[]) h1 rfl rfl,↓jAS (md:=[]) h2 rfl rfl]
 refine Eq.mpr jCv ⟨⟨by decide,by decide⟩,fun m hm=>?_⟩
 simp_arith![↓jAS (md:=[]) h2 rfl rfl]
 have k0:=Qz m (show(10 - 1:Int)≠0 by decide);have k1:=Qn m (show(0:Int)<10 - 1 by decide);refine⟨by decide,jK0 ⟨by omega,by omega⟩ fun ns hnl hns=>?_⟩;have hn9:ns.length<=10:=by omega
 have hn0:0<ns.length:=by omega
 simp_arith![↓jAF]
 rw[jMi];refine⟨qG _,jAw (fun(p:D×Nat)=>T.d (.tuple [.int (p.2:Int),p.1])) (fun l ρ=>∃es o6 o7 o8 o9 o10 o11,(∀p∈l,p.2<63/\∃c,p.1=.int c)/\es.length+2 * l.length<=126/\(∀p∈es,p.1∈ns/\p.2∈ns)/\ρ=wbS (.bor (.lst ((cs.map PyData.int).map T.d))) (.bor (.d (.int v))) (.bor (.d (.int m))) ns es o6 o7 o8 o9 o10 o11 none none) ?_ ?_ _ _ ⟨[],_,_,_,_,_,_,fun p hp=>?_,?_,fun p hp=>(nomatch hp),rfl⟩⟩
 ·rintro ρ ⟨es,o6,o7,o8,o9,o10,o11,_,el,es2,rfl⟩
  delta wbS
  simp_arith![↓jAF]
  refine⟨qG _,jAw (fun(p:D×Nat)=>T.d (.tuple [.int (p.2:Int),p.1])) (fun l ρ=>∃st o6 o13,(∀p∈l,p.2<10/\∃x∈ns,p.1=.str x)/\st.length+l.length<=10/\(∀s∈st,s∈ns)/\ρ=wcS (.bor (.lst ((cs.map PyData.int).map T.d))) v m ns es st o6 (jD6 o7) o8 o9 o10 o11 o13) ?_ ?_ _ _ ⟨[],_,_,fun p hp=>?_,?_,fun p hp=>(nomatch hp),rfl⟩⟩
  ·rintro ρ ⟨st,p6,p13,_,sl,ss,rfl⟩
   rw[Qi]at sl;have hr:=fun(st:List Str) (s1:st.length<=11) (s2:∀s∈st,s∈ns)=>jSH (Ψ:=Ψ) (sc:=.bor (.lst ((cs.map PyData.int).map T.d))) (s:=v) (m:=m) (es:=es) (st:=st) (o6:=jD6 p6) (o7:=jD6 o7) (o8:=o8) (o9:=o9) (o10:=o10) (o11:=o11) (o13:=jD6 p13) hn0 fun g hg=>q ns es st g ⟨hn9,hns,by rw[Qi]at el;omega,es2,s1,s2,hg⟩;unfold wcS at hr;delta wcS
   simp_arith![↓jAF]
   split
   ·rw[jMi]
    have c1:=jIL st 1;refine⟨by rw[QG,QG];show st.length+(jHj st none (some ((1:Nat):Int))).length<=_;omega,?_⟩;have:=hr (st++jHj st none (some 1)) (by rw[QM];show st.length+(jHj st none (some ((1:Nat):Int))).length<=_;omega) fun s hs=>by
     rcases Qd.mp hs with h|h
     ·exact ss s h
     ·exact ss s (jRm h)
    rw[Qe]at this;exact this
   ·exact hr st (by omega) ss
  ·rintro⟨x,i⟩ l ρ N hN ⟨st,p6,p13,e0,sl,ss,rfl⟩
   obtain⟨hi,y,hy,e⟩:=e0 _ QF;have e:x=.str y:=e;subst e;rw[QL]at sl;refine jDq.mk rfl ?_;exact jVu (i:=i) (x:=y) h1 (by omega) hi (hN _ ⟨st,_,_,fun p hp=>e0 p (QE _ hp),by omega,ss,rfl⟩) (hN _ ⟨st++[y],_,_,fun p hp=>e0 p (QE _ hp),by rw[QM,Ql];omega,fun s hs=>by
    rcases Qd.mp hs with h|h
    ·exact ss s h
    ·rw[QJ.mp h];exact hy,rfl⟩)
  ·obtain⟨z1,z2⟩:=jOf hp
   rw[QG]at z1;obtain⟨x,hx,e⟩:=Qg.mp z2;exact⟨by omega,x,hx,e.symm⟩
  ·rw[QBc,QG,Qi];omega
 ·rintro⟨x,i⟩ l ρ N hN ⟨es,p6,p7,p8,p9,p10,p11,e0,el,es2,rfl⟩
  obtain⟨hi,c,e⟩:=e0 _ QF;have e:x=.int c:=e;subst e;rw[QL]at el;refine jDq.mk rfl ?_;exact jVv (i:=i) (c:=c) (o8:=p8) (o9:=p9) (o10:=p10) (o11:=p11) h1 (by omega) hn0 hi fun es' r8 r9 r10 r11 f1 f2=>hN _ ⟨es',_,_,r8,r9,r10,r11,fun p hp=>e0 p (QE _ hp),by omega,fun p hp=>by
   rcases f2 p hp with z|z
   ·exact es2 p z
   ·exact z,rfl⟩
 ·obtain⟨z1,z2⟩:=jOf hp
  have c1:=jIL cs 63;rw[QG]at z1;obtain⟨x,hx,e⟩:=Qg.mp z2;exact⟨Qo z1 c1,x,e.symm⟩
 ·have c1:=jIL cs 63
  rw[QBc,QG,Qi];have c1:(jHj cs none (some 63)).length<=63:=c1
  omega
theorem jJV(a b:Str):Q5 (.str a) (.str b)=decide (a=b):=by
 rw[qQ,decide_eq_true_iff];simp[Q5]
theorem jDh(l:List Str)(z:Str):((l.map PyData.str).any fun y=>Q5 y (.str z))=decide (z∈l):=by
 rw[QBv,qQ,Wt,decide_eq_true_iff];constructor
 ·rintro⟨x,hx,e⟩
  have e:Q5 (.str x) (.str z)=true:=e;rw[jJV,decide_eq_true_iff]at e;exact e▸hx
 ·intro h
  exact⟨z,h,by show Q5 (.str z) (.str z)=true;rw[jJV];exact dT rfl⟩
theorem jCT(l:List Str):(l.map PyData.str).all jBo=true:=by
 rw[QBt,qM];exact fun _ _=>rfl
theorem jHn{l:List Str}{z:Str}:PyData.str z∈l.map PyData.str↔z∈l:=by
 constructor
 ·intro h
  obtain⟨x,hx,e⟩:=Qg.mp h;cases e;exact hx
 ·exact QBM
noncomputable def jVl(g:Str)(cut:List Str)(s:Str):Bool:=!decide (s=g)&&!decide (s∈cut)
inductive Led(es:LSS)(st:List Str)(g:Str)(cut:List Str):Str->Prop
 |st {s:Str}:s∈st->jVl g cut s=true->Led es st g cut s
 |ed {a b:Str}:Led es st g cut a->(a,b)∈es->jVl g cut b=true->Led es st g cut b
theorem jFY:∀{ks ns:List Str},ks.Nodup->(∀s∈ks,s∈ns)->ks.length<=ns.length
 |[],_,_,_=>qG _
 |s::r,ns,h,hs=>by
  obtain⟨h1,h2⟩:=Qf.mp h;have hm:=hs s QF;have:=jFY (ks:=r) (ns:=ns.erase s) h2 fun x hx=>(QA6 (fun(e:x=s)=>h1 (e▸hx))).mpr (hs x (QE _ hx));rw[QAX hm]at this;have hp:=QAp hm;rw[QL]
  omega
noncomputable abbrev Pt:=Str×Str
theorem jIu{p q:Pt}(h:pr p=pr q):p=q:=by
 obtain⟨a,b⟩:=p;obtain⟨c,d⟩:=q;injection h with h
 injection h with h1 h
 injection h with h2 _
 injection h1 with h1
 injection h2 with h2
 exact QCG h1 h2
theorem jRg{x k:D}{r:List D}(h:x≠k):jAG (x::r) k=(jAG r k).map (·+1):=by
 unfold jAG;rw[if_neg h];cases r<;>rfl
theorem jT5{x k:D}{r:List D}(h:x=k):jAG (x::r) k=some 0:=by
 unfold jAG;rw[if_pos h]
noncomputable def look{α:Type}:List (Pt×α)->Pt->Option α
 |[],_=>none
 |e::l,p=>if e.1=p then some e.2 else look l p
noncomputable def put{α:Type}:List (Pt×α)->Pt->α->List (Pt×α)
 |[],p,v=>[(p,v)]
 |e::l,p,v=>if e.1=p then(e.1,v)::l else e::put l p v
noncomputable def jCr{α:Type}(l:List (Pt×α)):List D:=l.map fun e=>pr e.1
theorem jEk{α:Type}{p:Pt}:∀{l:List (Pt×α)},look l p=none->jAG (jCr l) (pr p)=none/\∀w,put l p w=l++[(p,w)]
 |[],_=>⟨rfl,fun _=>rfl⟩
 |e::l,h=>by
  unfold look at h;by_cases c:e.1=p
  ·rw[if_pos c]at h;cases h
  ·rw[if_neg c]at h
   obtain⟨i1,i2⟩:=jEk h;refine⟨?_,fun w=>?_⟩
   ·show jAG (pr e.1::jCr l) (pr p)=none
    rw[jRg (fun z=>c (jIu z)),i1]
    rfl
   ·show(if e.1=p then(e.1,w)::l else e::put l p w)=_
    rw[if_neg c,i2]
    rfl
theorem jBQ{α:Type}{p:Pt}{v:α}(f:α->T):∀{l:List (Pt×α)},look l p=some v->∃n,jAG (jCr l) (pr p)=some n/\(l.map fun e=>f e.2)[n]?=some (f v)/\∀w,jCr (put l p w)=jCr l/\(l.map fun e=>f e.2).set n (f w)=(put l p w).map fun e=>f e.2
 |[],h=>by cases h
 |e::l,h=>by
  unfold look at h;by_cases c:e.1=p
  ·rw[if_pos c]at h
   injection h with h
   refine⟨0,?_,?_,fun w=>?_⟩
   ·exact jT5 (congrArg pr c)
   ·show some (f e.2)=_
    rw[h]
   ·have:put (e::l) p w=(e.1,w)::l:=if_pos c
    rw[this];exact⟨rfl,rfl⟩
  ·rw[if_neg c]at h
   obtain⟨n,i1,i2,i3⟩:=jBQ f h;refine⟨n+1,?_,i2,fun w=>?_⟩
   ·show jAG (pr e.1::jCr l) (pr p)=some (n+1)
    rw[jRg (fun z=>c (jIu z)),i1]
    rfl
   ·have:put (e::l) p w=e::put l p w:=if_neg c
    rw[this];obtain⟨j1,j2⟩:=i3 w;refine⟨?_,?_⟩
    ·show pr e.1::jCr (put l p w)=pr e.1::jCr l
     rw[j1]
    ·show f e.2::(l.map fun e=>f e.2).set n (f w)=f e.2::(put l p w).map fun e=>f e.2
     rw[j2]
theorem jBz{α:Type}{p q:Pt}{w:α}:∀{l:List (Pt×α)},look (put l p w) q=if p=q then some w else look l q
 |[]=>rfl
 |e::l=>by
  by_cases c:e.1=p
  ·have h1:put (e::l) p w=(e.1,w)::l:=if_pos c
   rw[h1];show(if e.1=q then some w else look l q)=if p=q then some w else(if e.1=q then some e.2 else look l q)
   rw[c];split<;>rfl
  ·have h1:put (e::l) p w=e::put l p w:=if_neg c
   rw[h1];show(if e.1=q then some e.2 else look (put l p w) q)=if p=q then some w else(if e.1=q then some e.2 else look l q)
   rw[jBz];by_cases d:e.1=q
   ·rw[if_pos d,if_pos d,if_neg (fun z=>c (d.trans z.symm))]
   ·rw[if_neg d,if_neg d]
theorem jLG{α:Type}{p:Pt}{w:α}:∀{l:List (Pt×α)},(put l p w).length<=l.length+1
 |[]=>QU _
 |e::l=>by
  by_cases c:e.1=p
  ·rw[show put (e::l) p w=(e.1,w)::l from if_pos c,QL,QL];omega
  ·have:=jLG (p:=p) (w:=w) (l:=l)
   rw[show put (e::l) p w=e::put l p w from if_neg c,QL,QL];omega
theorem jBb(p:Pt):jFH true (pr p):=⟨[.inr p.1,.inr p.2],rfl⟩
noncomputable abbrev Inn:=List (Pt×Int)
noncomputable abbrev Rm:=List (Pt×Inn)
noncomputable def jDw(l:Inn):T:=.dct true (jCr l) (l.map fun e=>T.d (.int e.2))
noncomputable def jAT(r:Rm):T:=.dct true (jCr r) (r.map fun e=>jDw e.2)
noncomputable def sdf(r:Rm)(p:Pt):Rm:=match look r p with
 |some _=>r
 |none=>r++[(p,[])]
theorem jKz{r:Rm}{p:Pt}{Q:T->Prop}(hl:r.length<sizeLine)(q:Q (jAT (sdf r p))):jXJ (.d (pr p)) (jAT r) Q:=by
 refine⟨jCr r,_,rfl,jBb p,by unfold jCr;rw[QG];exact hl,?_⟩;unfold sdf at q;cases h:look r p with
 |some v =>
  rw[h]at q;obtain⟨n,i1,_⟩:=jBQ jDw h;exact .inl ⟨n,i1,q⟩
 |none =>
  rw[h]at q;refine .inr ⟨(jEk h).1,?_⟩;have e:jAT (r++[(p,[])])=.dct true (jCr r++[pr p]) ((r.map fun e=>jDw e.2)++[.dct true [] []]):=by
   unfold jAT jCr;rw[Qe,Qe]
   rfl
  show Q (T.dct true (jCr r++[pr p]) ((r.map fun e=>jDw e.2)++[.dct true [] []]));rw[<- e];exact q
theorem jIm{l:Inn}{p:Pt}{v:Int}{Q:T->Prop}(hl:l.length<sizeLine)(q:Q (jDw (put l p v))):stV (jDw l) (.d (pr p)) (.d (.int v)) Q:=by
 refine⟨jBb p,by unfold jCr;rw[QG];exact hl,?_⟩;have e:jM0 true (jCr l) (l.map fun e=>T.d (.int e.2)) (pr p) (.d (.int v))=jDw (put l p v):=by
  unfold jM0;cases h:look l p with
  |none =>
   obtain⟨i1,i2⟩:=jEk h;rw[i1,i2];unfold jDw jCr;rw[Qe,Qe]
   rfl
  |some u =>
   obtain⟨n,i1,i2,i3⟩:=jBQ (fun i:Int=>T.d (.int i)) h;rw[i1];obtain⟨j1,j2⟩:=i3 v;show T.dct true (jCr l) ((l.map fun e=>T.d (.int e.2)).set n (T.d (.int v)))=_;unfold jDw;rw[j1,j2]
 show Q (jM0 true (jCr l) (l.map fun e=>T.d (.int e.2)) (pr p) (.d (.int v)));rw[e];exact q
theorem jEB{r:Rm}{p:Pt}{l:Inn}{Q:T->(T->T)->Prop}(h:look r p=some l)(q:∀f:T->T,(∀l',f (jDw l')=jAT (put r p l'))->Q (jDw l) f):jXE (.d (pr p)) (jAT r) Q:=by
 obtain⟨n,i1,i2,i3⟩:=jBQ jDw h;refine⟨true,jCr r,_,n,jDw l,rfl,jBb p,i1,i2,q _ fun l'=>?_⟩;obtain⟨j1,j2⟩:=i3 l';show T.dct true (jCr r) ((r.map fun e=>jDw e.2).set n (jDw l'))=_;unfold jAT;rw[j1,j2]
noncomputable def bgn:Pt:=("","begin")
noncomputable def tO(n:Str):Pt:=(n,"to")
noncomputable def fR(n:Str):Pt:=(n,"from")
theorem jYQ:("begin":Str)≠"to":=by decide +kernel
theorem jYR:("begin":Str)≠"from":=by decide +kernel
theorem jYP:("to":Str)≠"from":=by decide +kernel
theorem jBR{a:Str}:bgn≠tO a:=fun h=>jYQ (congrArg Prod.snd h)
theorem jDC{a:Str}:bgn≠fR a:=fun h=>jYR (congrArg Prod.snd h)
theorem jAa{a b:Str}:tO a≠fR b:=fun h=>jYP (congrArg Prod.snd h)
theorem jAt{a b:Str}(h:tO a=tO b):a=b:=congrArg wo h
theorem jCc{a b:Str}(h:fR a=fR b):a=b:=congrArg wo h
def Lay(p q:Pt):Prop:=(p=bgn/\∃n,q=tO n)∨(∃n,p=tO n/\q=fR n)∨(∃a b,a≠b/\p=fR a/\q=tO b)
theorem jCG{p q:Pt}(h:Lay p q):¬ Lay q p:=by
 rintro k;rcases h with⟨rfl,n,rfl⟩| ⟨n,rfl,rfl⟩| ⟨a,b,ab,rfl,rfl⟩<;>rcases k with⟨e1,m,e2⟩| ⟨m,e1,e2⟩| ⟨c,d,cd,e1,e2⟩
 ·exact jBR e1.symm
 ·exact jDC e2
 ·exact jAa e1
 ·exact jDC e1.symm
 ·exact jAa e1.symm
 ·exact cd ((jCc e1).symm.trans (jAt e2))
 ·exact jBR e1.symm
 ·exact ab ((jCc e2).trans (jAt e1).symm)
 ·exact jAa e1
theorem jDu{p q:Pt}(h:Lay p q):p≠q:=fun e=>jCG h (by rw[e]at h ⊢;exact h)
noncomputable abbrev Wy:=Pt×Pt×Int
noncomputable def lk(r:Rm)(p:Pt):Inn:=(look r p).getD []
noncomputable def jBr(r:Rm)(w:Wy):Rm:=put (put (sdf (sdf r w.1) w.2.1) w.1 (put (lk (sdf (sdf r w.1) w.2.1) w.1) w.2.1 w.2.2)) w.2.1 (put (lk (put (sdf (sdf r w.1) w.2.1) w.1 (put (lk (sdf (sdf r w.1) w.2.1) w.1) w.2.1 w.2.2)) w.2.1) w.1 0)
theorem jI9{α:Type}{p q:Pt}{v:α}:∀{l:List (Pt×α)},look (l++[(p,v)]) q=(look l q).or (if p=q then some v else none)
 |[]=>rfl
 |e::l=>by
  show(if e.1=q then some e.2 else look (l++[(p,v)]) q)=(if e.1=q then some e.2 else look l q).or (if p=q then some v else none);by_cases c:e.1=q
  ·rw[if_pos c,if_pos c];rfl
  ·rw[if_neg c,if_neg c];exact jI9
theorem jI8{r:Rm}{p q:Pt}:look (sdf r p) q=(look r q).or (if p=q then some [] else none):=by
 unfold sdf;cases h:look r p with
 |some v =>
  show look r q=_;cases h2:look r q with
  |some x=>rfl
  |none =>
   show none=if p=q then some [] else none
   rw[if_neg];intro e;rw[e,h2]at h;cases h
 |none =>
  show look (r++[(p,[])]) q=_;exact jI9
theorem jHq{r:Rm}{p:Pt}:(sdf r p).length<=r.length+1:=by
 unfold sdf;split
 ·omega
 ·rw[QM,Ql];omega
theorem jET{α:Type}{p:Pt}{w:α}{e:Pt×α}:∀{l:List (Pt×α)},e∈put l p w->e=(p,w)∨e∈l
 |[],h=>.inl (QJ.mp h)
 |x::l,h=>by
  by_cases c:x.1=p
  ·rw[show put (x::l) p w=(x.1,w)::l from if_pos c]at h
   rcases QK.mp h with h|h
   ·exact .inl (by rw[h,c])
   ·exact .inr (QE _ h)
  ·rw[show put (x::l) p w=x::put l p w from if_neg c]at h
   rcases QK.mp h with h|h
   ·exact .inr (by rw[h];exact QF)
   ·exact(jET h).imp_right (QE _)
theorem jHu{α:Type}{p:Pt}{w:α}{q:Pt}:∀{l:List (Pt×α)},(∃v,(q,v)∈put l p w)↔q=p∨∃v,(q,v)∈l
 |[]=>by
  constructor
  ·rintro⟨v,h⟩
   exact .inl (congrArg wo (QJ.mp h))
  ·rintro(rfl|⟨v,h⟩)
   ·exact⟨w,QJ.mpr rfl⟩
   ·exact(nomatch h)
 |x::l=>by
  by_cases c:x.1=p
  ·rw[show put (x::l) p w=(x.1,w)::l from if_pos c]
   constructor
   ·rintro⟨v,h⟩
    rcases QK.mp h with h|h
    ·exact .inl ((congrArg wo h).trans c)
    ·exact .inr ⟨v,QE _ h⟩
   ·rintro(rfl|⟨v,h⟩)
    ·exact⟨w,by rw[c];exact QF⟩
    ·rcases QK.mp h with h|h
     ·exact⟨w,by rw[<- h];exact QF⟩
     ·exact⟨v,QE _ h⟩
  ·rw[show put (x::l) p w=x::put l p w from if_neg c]
   have ih:=jHu (p:=p) (w:=w) (q:=q) (l:=l);constructor
   ·rintro⟨v,h⟩
    rcases QK.mp h with h|h
    ·exact .inr ⟨v,by rw[h];exact QF⟩
    ·exact(ih.mp ⟨v,h⟩).imp_right fun⟨v,h⟩=>⟨v,QE _ h⟩
   ·rintro(h|⟨v,h⟩)
    ·obtain⟨v,h⟩:=ih.mpr (.inl h)
     exact⟨v,QE _ h⟩
    ·rcases QK.mp h with h|h
     ·exact⟨v,by rw[h];exact QF⟩
     ·obtain⟨v,h⟩:=ih.mpr (.inr ⟨v,h⟩)
      exact⟨v,QE _ h⟩
def Ent(r:Rm)(p q:Pt):Prop:=∃v,(q,v)∈lk r p
def Key(r:Rm)(p:Pt):Prop:=∃l,look r p=some l
def Pos(r:Rm):Prop:=∀p,∀e∈lk r p,(0<e.2↔Lay p e.1)
def Dom(r:Rm):Prop:=∀p q,Ent r p q->Key r q
def Sz(r:Rm)(n:Nat):Prop:=r.length<=n/\∀p,(lk r p).length<=n
theorem jCa{r:Rm}{p q:Pt}{l:Inn}:lk (put r p l) q=if p=q then l else lk r q:=by
 unfold lk;rw[jBz];split<;>rfl
theorem jCZ{r:Rm}{p q:Pt}:lk (sdf r p) q=lk r q:=by
 unfold lk;rw[jI8];cases look r q with
 |some x=>rfl
 |none =>
  show(if p=q then some [] else none).getD []=[]
  split<;>rfl
theorem jEf{r:Rm}{p q:Pt}{l:Inn}:Key (put r p l) q↔p=q∨Key r q:=by
 unfold Key;rw[jBz];by_cases h:p=q
 ·rw[if_pos h];exact⟨fun _=>.inl h,fun _=>⟨_,rfl⟩⟩
 ·rw[if_neg h];exact⟨.inr,fun z=>z.resolve_left h⟩
theorem jCI{r:Rm}{p q:Pt}:Key (sdf r p) q↔p=q∨Key r q:=by
 unfold Key;rw[jI8];cases look r q with
 |some x=>exact⟨fun _=>.inr ⟨_,rfl⟩,fun _=>⟨_,rfl⟩⟩
 |none =>
  show(∃l,(if p=q then some [] else none)=some l)↔_;by_cases h:p=q
  ·rw[if_pos h];exact⟨fun _=>.inl h,fun _=>⟨_,rfl⟩⟩
  ·rw[if_neg h];exact⟨fun⟨_,e⟩=>(nomatch e),fun z=>(z.resolve_left h)⟩
theorem jEd{r:Rm}{w:Wy}(h:w.1≠w.2.1)(p:Pt):lk (jBr r w) p=if w.2.1=p then put (lk r p) w.1 0 else if w.1=p then put (lk r p) w.2.1 w.2.2 else lk r p:=by
 unfold jBr;rw[jCa,jCa,jCa,jCZ,jCZ,jCZ,jCZ,if_neg h,jCZ,jCZ];by_cases h1:w.2.1=p
 ·rw[if_pos h1,if_pos h1,h1]
 ·rw[if_neg h1,if_neg h1]
  by_cases h2:w.1=p
  ·rw[if_pos h2,if_pos h2,h2]
  ·rw[if_neg h2,if_neg h2]
theorem jC6{r:Rm}{w:Wy}{p:Pt}:Key (jBr r w) p↔p=w.1∨p=w.2.1∨Key r p:=by
 unfold jBr;rw[jEf,jEf,jCI,jCI];constructor
 ·rintro(h|h|h|h|h)
  ·exact .inr (.inl h.symm)
  ·exact .inl h.symm
  ·exact .inr (.inl h.symm)
  ·exact .inl h.symm
  ·exact .inr (.inr h)
 ·rintro(h|h|h)
  ·exact .inr (.inl h.symm)
  ·exact .inl h.symm
  ·exact .inr (.inr (.inr (.inr h)))
theorem jEH{r:Rm}{w:Wy}(h:w.1≠w.2.1){p q:Pt}:Ent (jBr r w) p q↔Ent r p q∨(p=w.1/\q=w.2.1)∨(p=w.2.1/\q=w.1):=by
 unfold Ent;rw[jEd h];by_cases h1:w.2.1=p
 ·rw[if_pos h1,jHu]
  constructor
  ·rintro(e|e)
   ·exact .inr (.inr ⟨h1.symm,e⟩)
   ·exact .inl e
  ·rintro(e|⟨e1,e2⟩| ⟨e1,e2⟩)
   ·exact .inr e
   ·exact absurd (e1.symm.trans h1.symm) h
   ·exact .inl e2
 ·rw[if_neg h1]
  by_cases h2:w.1=p
  ·rw[if_pos h2,jHu]
   constructor
   ·rintro(e|e)
    ·exact .inr (.inl ⟨h2.symm,e⟩)
    ·exact .inl e
   ·rintro(e|⟨e1,e2⟩| ⟨e1,e2⟩)
    ·exact .inr e
    ·exact .inl e2
    ·exact absurd e1.symm h1
  ·rw[if_neg h2]
   exact⟨.inl,fun z=>z.elim id fun z=>z.elim (fun e=>absurd e.1.symm h2) fun e=>absurd e.1.symm h1⟩
def jD8(w:Wy):Prop:=Lay w.1 w.2.1/\0<w.2.2
theorem jNW{r:Rm}{w:Wy}(g:jD8 w)(hp:Pos r):Pos (jBr r w):=by
 intro p e he;rw[jEd (jDu g.1)]at he;by_cases h1:w.2.1=p
 ·rw[if_pos h1]at he
  rcases jET he with z|z
  ·rw[z,<- h1]
   exact⟨fun x=>absurd x (wq 0),fun x=>absurd x (jCG g.1)⟩
  ·exact hp p e z
 ·rw[if_neg h1]at he
  by_cases h2:w.1=p
  ·rw[if_pos h2]at he
   rcases jET he with z|z
   ·rw[z,<- h2]
    exact⟨fun _=>g.1,fun _=>g.2⟩
   ·exact hp p e z
  ·rw[if_neg h2]at he
   exact hp p e he
theorem jOO{r:Rm}{w:Wy}(g:jD8 w)(hd:Dom r):Dom (jBr r w):=by
 intro p q h;rw[jC6];rcases(jEH (jDu g.1)).mp h with h|⟨_,h⟩| ⟨_,h⟩
 ·exact .inr (.inr (hd p q h))
 ·exact .inr (.inl h)
 ·exact .inl h
theorem jFU{α:Type}{p:Pt}{w:α}{l:List (Pt×α)}{n:Nat}(h:l.length<=n):(put l p w).length<=n+1:=QX jLG (by omega)
theorem jHv{α:Type}{p:Pt}{w:α}:∀{l:List (Pt×α)},(look l p).isSome=true->(put l p w).length=l.length
 |[],h=>by cases h
 |e::l,h=>by
  by_cases c:e.1=p
  ·rw[show put (e::l) p w=(e.1,w)::l from if_pos c];rfl
  ·rw[show put (e::l) p w=e::put l p w from if_neg c,QL,QL]
   rw[show look (e::l) p=look l p from if_neg c]at h;rw[jHv h]
theorem jJG{r:Rm}{p:Pt}(h:Key r p):(look r p).isSome=true:=by
 obtain⟨l,e⟩:=h;rw[e]
 rfl
theorem jN2{r:Rm}{w:Wy}:(jBr r w).length<=r.length+2:=by
 have k1:Key (sdf (sdf r w.1) w.2.1) w.1:=jCI.mpr (.inr (jCI.mpr (.inl rfl)));have k2:Key (sdf (sdf r w.1) w.2.1) w.2.1:=jCI.mpr (.inl rfl);unfold jBr;rw[jHv (jJG (jEf.mpr (.inr k2))),jHv (jJG k1)];have:=jHq (r:=r) (p:=w.1);have:=jHq (r:=sdf r w.1) (p:=w.2.1)
 omega
theorem jEL{r:Rm}{w:Wy}{n:Nat}(g:w.1≠w.2.1)(h:Sz r n):Sz (jBr r w) (n+2):=by
 refine⟨QX jN2 (by have:=h.1;omega),fun p=>?_⟩;rw[jEd g];have h2:=h.2 p;split
 ·exact QX (jFU h2) (by omega)
 ·split
  ·exact QX (jFU h2) (by omega)
  ·omega
theorem jIJ:∀{ws:List Wy}{r:Rm},(∀w∈ws,jD8 w)->∀{p q:Pt},Ent (ws.foldl jBr r) p q↔Ent r p q∨(∃v,(p,q,v)∈ws)∨∃v,(q,p,v)∈ws
 |[],r,_,p,q=>⟨.inl,fun z=>z.elim id fun z=>z.elim (fun⟨_,z⟩=>(nomatch z)) fun⟨_,z⟩=>(nomatch z)⟩
 |w::ws,r,h,p,q=>by
  rw[wz,jIJ (fun w hw=>h w (QE _ hw)),jEH (jDu (h w QF).1)];constructor
  ·rintro((z|⟨rfl,rfl⟩| ⟨rfl,rfl⟩)|⟨v,z⟩| ⟨v,z⟩)
   ·exact .inl z
   ·exact .inr (.inl ⟨_,QF⟩)
   ·exact .inr (.inr ⟨_,QF⟩)
   ·exact .inr (.inl ⟨v,QE _ z⟩)
   ·exact .inr (.inr ⟨v,QE _ z⟩)
  ·rintro(z|⟨v,z⟩| ⟨v,z⟩)
   ·exact .inl (.inl z)
   ·rcases QK.mp z with z|z
    ·rw[<- z]
     exact .inl (.inr (.inl ⟨rfl,rfl⟩))
    ·exact .inr (.inl ⟨v,z⟩)
   ·rcases QK.mp z with z|z
    ·rw[<- z]
     exact .inl (.inr (.inr ⟨rfl,rfl⟩))
    ·exact .inr (.inr ⟨v,z⟩)
theorem jJi:∀{ws:List Wy}{r:Rm}{n:Nat},(∀w∈ws,jD8 w)->Pos r->Dom r->Key r bgn->Sz r n->Pos (ws.foldl jBr r)/\Dom (ws.foldl jBr r)/\Key (ws.foldl jBr r) bgn/\Sz (ws.foldl jBr r) (n+2 * ws.length)
 |[],r,n,_,h1,h2,h3,h4=>⟨h1,h2,h3,h4⟩
 |w::ws,r,n,h,h1,h2,h3,h4=>by
  have g:=h w QF;have:=jJi (ws:=ws) (r:=jBr r w) (n:=n+2) (fun w hw=>h w (QE _ hw)) (jNW g h1) (jOO g h2) (jC6.mpr (.inr (.inr h3))) (jEL (jDu g.1) h4);rw[wz,QL,show n+2 * (ws.length+1)=n+2+2 * ws.length by omega];exact this
noncomputable def wyS(g:Str)(n:Str):List Wy:=if n=g then[] else[(tO n,fR n,1),(bgn,tO n,2)]
noncomputable def wyE(g:Str)(e:Str×Str):List Wy:=if e.1=g∨e.1=e.2 then[] else[(tO e.1,fR e.1,1),(tO e.2,fR e.2,1),(fR e.1,tO e.2,2)]
noncomputable def jER:Rm:=[(bgn,[])]
noncomputable def jAA(es:LSS)(st:List Str)(g:Str):Rm:=(es.flatMap (wyE g)).foldl jBr ((st.flatMap (wyS g)).foldl jBr jER)
theorem z_1:(0:Int)<1:=by decide
theorem z_2:(0:Int)<2:=by decide
theorem jKX{g n:Str}:(wyS g n).length<=2:=by
 unfold wyS;split
 ·exact qG _
 ·exact QU _
theorem jKY{g:Str}{e:Str×Str}:(wyE g e).length<=3:=by
 unfold wyE;split
 ·exact qG _
 ·exact QU _
theorem jD9{g n:Str}:∀w∈wyS g n,jD8 w:=by
 intro w hw;unfold wyS at hw;split at hw
 ·exact(nomatch hw)
 ·rcases QK.mp hw with rfl|hw
  ·exact⟨.inr (.inl ⟨n,rfl,rfl⟩),z_1⟩
  ·rw[QJ.mp hw]
   exact⟨.inl ⟨rfl,n,rfl⟩,z_2⟩
theorem jEA{g:Str}{e:Str×Str}:∀w∈wyE g e,jD8 w:=by
 intro w hw;unfold wyE at hw;split at hw
 ·exact(nomatch hw)
 ·rename_i h
  rcases QK.mp hw with rfl|hw
  ·exact⟨.inr (.inl ⟨e.1,rfl,rfl⟩),z_1⟩
  ·rcases QK.mp hw with rfl|hw
   ·exact⟨.inr (.inl ⟨e.2,rfl,rfl⟩),z_1⟩
   ·rw[QJ.mp hw]
    exact⟨.inr (.inr ⟨e.1,e.2,fun z=>h (.inr z),rfl,rfl⟩),z_2⟩
theorem jGE{α:Type}{f:α->List Wy}{k:Nat}(h:∀x,(f x).length<=k):∀(l:List α),(l.flatMap f).length<=k * l.length
 |[]=>QU _
 |x::l=>by
  have:=jGE h l;have:=h x;rw[QAY,QM,QL,Nat.mul_succ]
  omega
theorem jBn{α:Type}{f:α->List Wy}(h:∀x,∀w∈f x,jD8 w)(l:List α):∀w∈l.flatMap f,jD8 w:=fun w hw=>by
 obtain⟨x,_,hx⟩:=qY.mp hw;exact h x w hx
structure RmOk(r:Rm)(n:Nat):Prop where
 pos:Pos r
 dom:Dom r
 bg:Key r bgn
 sz:Sz r n
theorem jBy:RmOk jER 1:=by
 have e:∀p,lk jER p=[]:=fun p=>by
  show(if bgn=p then some [] else none).getD []=[]
  split<;>rfl
 refine⟨fun p e' he=>?_,fun p q ⟨v,h⟩=>?_,⟨[],if_pos rfl⟩,QU _,fun p=>?_⟩
 ·rw[e]at he;exact(nomatch he)
 ·rw[e]at h;exact(nomatch h)
 ·rw[e];exact qG _
theorem RmOk.add{r:Rm}{n:Nat}(h:RmOk r n){ws:List Wy}(g:∀w∈ws,jD8 w):RmOk (ws.foldl jBr r) (n+2 * ws.length):=by
 obtain⟨h1,h2,h3,h4⟩:=jJi g h.pos h.dom h.bg h.sz;exact⟨h1,h2,h3,h4⟩
theorem jF7{es:LSS}{st:List Str}{g:Str}(h1:es.length<=126)(h2:st.length<=11):RmOk (jAA es st g) 1000:=by
 have a:=(jBy.add (jBn (f:=wyS g) (fun _=>jD9) st)).add (jBn (f:=wyE g) (fun _=>jEA) es);have l1:=jGE (f:=wyS g) (k:=2) (fun _=>jKX) st;have l2:=jGE (f:=wyE g) (k:=3) (fun _=>jKY) es;exact⟨a.pos,a.dom,a.bg,QX a.sz.1 (by omega),fun p=>QX (a.sz.2 p) (by omega)⟩
def Way(r:Rm)(p q:Pt):Prop:=∃v,(q,v)∈lk r p/\0<v
theorem jPr{r:Rm}(hp:Pos r){p q:Pt}:Way r p q↔Ent r p q/\Lay p q :=
 ⟨fun⟨v,m,h⟩=>⟨⟨v,m⟩,(hp p _ m).mp h⟩,fun⟨⟨v,m⟩,h⟩=>⟨v,m,(hp p _ m).mpr h⟩⟩
inductive Rch(r:Rm):Pt->Prop
 |bg:Rch r bgn
 |go {p q:Pt}:Rch r p->Way r p q->Rch r q
theorem jDI{es:LSS}{st:List Str}{g:Str}{p q:Pt}:Way (jAA es st g) p q↔∃v,(p,q,v)∈st.flatMap (wyS g)++es.flatMap (wyE g):=by
 have g1:=jBn (f:=wyS g) (fun _=>jD9) st;have g2:=jBn (f:=wyE g) (fun _=>jEA) es;have ga:∀w∈st.flatMap (wyS g)++es.flatMap (wyE g),jD8 w:=fun w hw=>(Qd.mp hw).elim (g1 w) (g2 w);have hp:Pos (jAA es st g):=((jBy.add g1).add g2).pos;rw[jPr hp];unfold jAA;rw[<- Wf,jIJ ga];constructor
 ·rintro⟨z|z|⟨v,z⟩,h⟩
  ·obtain⟨v,z⟩:=z
   have e:lk jER p=[]:=by
    show(if bgn=p then some [] else none).getD []=[]
    split<;>rfl
   rw[e]at z;exact(nomatch z)
  ·exact z
  ·exact absurd h (jCG (ga _ z).1)
 ·rintro⟨v,z⟩
  exact⟨.inr (.inl ⟨v,z⟩),(ga _ z).1⟩
theorem jTz{g n:Str}{p q:Pt}{v:Int}:(p,q,v)∈wyS g n↔n≠g/\((p,q,v)=(tO n,fR n,1)∨(p,q,v)=(bgn,tO n,2)):=by
 unfold wyS;split
 ·rename_i h
  exact⟨fun z=>(nomatch z),fun z=>absurd h z.1⟩
 ·rename_i h
  rw[QK,QJ];exact⟨fun z=>⟨h,z⟩,fun z=>z.2⟩
theorem jSA{g:Str}{e:Str×Str}{p q:Pt}{v:Int}:(p,q,v)∈wyE g e↔(e.1≠g/\e.1≠e.2)/\((p,q,v)=(tO e.1,fR e.1,1)∨(p,q,v)=(tO e.2,fR e.2,1)∨(p,q,v)=(fR e.1,tO e.2,2)):=by
 unfold wyE;split
 ·rename_i h
  exact⟨fun z=>(nomatch z),fun z=>h.elim (fun h=>absurd h z.1.1) fun h=>absurd h z.1.2⟩
 ·rename_i h
  rw[QK,QK,QJ];exact⟨fun z=>⟨⟨fun e=>h (.inl e),fun e=>h (.inr e)⟩,z⟩,fun z=>z.2⟩
noncomputable def esL(es:LSS)(cut:List Str):LSS:=es.filter fun e=>!decide (e.1∈cut)
noncomputable def stL(st:List Str)(cut:List Str):List Str:=st.filter fun s=>!decide (s∈cut)
theorem jHB{es:LSS}{cut:List Str}{e:Str×Str}:e∈esL es cut↔e∈es/\e.1∉cut:=by
 unfold esL;rw[Qj,Qs,decide_eq_false_iff_not]
theorem jPO{st:List Str}{cut:List Str}{s:Str}:s∈stL st cut↔s∈st/\s∉cut:=by
 unfold stL;rw[Qj,Qs,decide_eq_false_iff_not]
theorem jBJ{g:Str}{cut:List Str}{s:Str}:jVl g cut s=true↔s≠g/\s∉cut:=by
 unfold jVl;rw[Qb,Qs,Qs,decide_eq_false_iff_not,decide_eq_false_iff_not]
section
variable{es:LSS}{st:List Str}{g:Str}{cut:List Str}
theorem jC4{s:Str}(h:Led es st g cut s):s≠g/\s∉cut:=by
 cases h with
 |st _ h=>exact jBJ.mp h
 |ed _ _ h=>exact jBJ.mp h
def jWv(es:LSS)(st:List Str)(g:Str)(cut:List Str)(n:Str):Prop:=(n∈stL st cut/\n≠g)∨∃a,(a,n)∈esL es cut/\Led es st g cut a
theorem jNG{n:Str}(h:jWv es st g cut n)(h1:n≠g)(h2:n∉cut):Led es st g cut n:=by
 rcases h with⟨h,_⟩| ⟨a,h,l⟩
 ·exact .st (jPO.mp h).1 (jBJ.mpr ⟨h1,h2⟩)
 ·exact .ed l (jHB.mp h).1 (jBJ.mpr ⟨h1,h2⟩)
theorem jNS{p:Pt}(h:Rch (jAA (esL es cut) (stL st cut) g) p):(∀n,p=tO n->jWv es st g cut n)/\∀n,p=fR n->jWv es st g cut n:=by
 induction h with
 |bg=>exact⟨fun n e=>absurd e jBR,fun n e=>absurd e jDC⟩
 |@go p q _ w ih =>
  obtain⟨v,w⟩:=jDI.mp w;rcases Qd.mp w with w|w
  ·obtain⟨n,hn,w⟩:=qY.mp w
   obtain⟨ng,w|w⟩:=jTz.mp w
   ·cases w
    exact⟨fun m e=>absurd e.symm jAa,fun m e=>by rw[<- jCc e];exact ih.1 n rfl⟩
   ·cases w
    exact⟨fun m e=>by rw[<- jAt e];exact .inl ⟨hn,ng⟩,fun m e=>absurd e jAa⟩
  ·obtain⟨⟨a,b⟩,hn,w⟩:=qY.mp w
   obtain⟨⟨ag,ab⟩,w|w|w⟩:=jSA.mp w
   ·cases w
    exact⟨fun m e=>absurd e.symm jAa,fun m e=>by rw[<- jCc e];exact ih.1 a rfl⟩
   ·cases w
    exact⟨fun m e=>absurd e.symm jAa,fun m e=>by rw[<- jCc e];exact ih.1 b rfl⟩
   ·cases w
    exact⟨fun m e=>by rw[<- jAt e];exact .inr ⟨a,hn,jNG (ih.2 a rfl) ag (jHB.mp hn).2⟩,fun m e=>absurd e jAa⟩
theorem jRM{n:Str}(h:Led es st g cut n):Rch (jAA (esL es cut) (stL st cut) g) (fR n):=by
 induction h with
 |@st s h k =>
  obtain⟨k1,k2⟩:=jBJ.mp k;have m:s∈stL st cut:=jPO.mpr ⟨h,k2⟩;have a:Rch (jAA (esL es cut) (stL st cut) g) (tO s):=.go .bg (jDI.mpr ⟨2,Qk _ (qY.mpr ⟨s,m,jTz.mpr ⟨k1,.inr rfl⟩⟩)⟩);exact .go a (jDI.mpr ⟨1,Qk _ (qY.mpr ⟨s,m,jTz.mpr ⟨k1,.inl rfl⟩⟩)⟩)
 |@ed a b l m k ih =>
  by_cases e:a=b
  ·rw[<- e];exact ih
  ·obtain⟨l1,l2⟩:=jC4 l
   have m2:(a,b)∈esL es cut:=jHB.mpr ⟨m,l2⟩;have c:Rch (jAA (esL es cut) (stL st cut) g) (tO b):=.go ih (jDI.mpr ⟨2,QV _ (qY.mpr ⟨(a,b),m2,jSA.mpr ⟨⟨l1,e⟩,.inr (.inr rfl)⟩⟩)⟩);exact .go c (jDI.mpr ⟨1,QV _ (qY.mpr ⟨(a,b),m2,jSA.mpr ⟨⟨l1,e⟩,.inr (.inl rfl)⟩⟩)⟩)
theorem jQI:Rch (jAA (esL es cut) (stL st cut) g) (tO g)↔∃a,(a,g)∈es/\Led es st g cut a:=by
 constructor
 ·intro h
  rcases(jNS h).1 g rfl with⟨_,z⟩| ⟨a,z,l⟩
  ·exact absurd rfl z
  ·exact⟨a,(jHB.mp z).1,l⟩
 ·rintro⟨a,m,l⟩
  obtain⟨l1,l2⟩:=jC4 l;exact .go (jRM l) (jDI.mpr ⟨2,QV _ (qY.mpr ⟨(a,g),jHB.mpr ⟨m,l2⟩,jSA.mpr ⟨⟨l1,l1⟩,.inr (.inr rfl)⟩⟩)⟩)
end
theorem jOn:∀{ws:List Wy}{r:Rm}{n:Nat},(∀w∈ws,jD8 w)->Sz r n->Sz (ws.foldl jBr r) (n+2 * ws.length)
 |[],r,n,_,h4=>h4
 |w::ws,r,n,h,h4=>by
  have:=jOn (ws:=ws) (r:=jBr r w) (n:=n+2) (fun w hw=>h w (QE _ hw)) (jEL (jDu (h w QF).1) h4);rw[wz,QL,show n+2 * (ws.length+1)=n+2+2 * ws.length by omega];exact this
inductive CF(r:Rm):List Pt->List D->Prop
 |bg:CF r [bgn] [.none]
 |add {ks:List Pt}{vs:List D}{p q:Pt}:CF r ks vs->p∈ks->Way r p q->q∉ks->CF r (ks++[q]) (vs++[pr p])
theorem CF.len{r:Rm}{ks:List Pt}{vs:List D}(h:CF r ks vs):vs.length=ks.length:=by
 induction h with
 |bg=>rfl
 |add _ _ _ _ ih=>rw[QM,QM,ih];rfl
theorem CF.hb{r:Rm}{ks:List Pt}{vs:List D}(h:CF r ks vs):bgn∈ks:=by
 induction h with
 |bg=>exact QF
 |add _ _ _ _ ih=>exact Qk _ ih
theorem CF.rch{r:Rm}{ks:List Pt}{vs:List D}(h:CF r ks vs):∀k∈ks,Rch r k:=by
 induction h with
 |bg=>intro k hk;rw[QJ.mp hk];exact .bg
 |add _ hp w _ ih =>
  intro k hk;rcases Qd.mp hk with z|z
  ·exact ih k z
  ·rw[QJ.mp z]
   exact .go (ih _ hp) w
theorem CF.nd{r:Rm}{ks:List Pt}{vs:List D}(h:CF r ks vs):ks.Nodup:=by
 induction h with
 |bg=>exact Qf.mpr ⟨fun z=>(nomatch z),Q7⟩
 |add _ _ _ n ih =>
  refine qr.mpr ⟨ih,Qf.mpr ⟨fun z=>(nomatch z),Q7⟩,fun a ha b hb z=>?_⟩;rw[QJ.mp hb]at z;exact n (z▸ha)
theorem jES{r:Rm}(hd:Dom r)(hb:Key r bgn){p:Pt}(h:Rch r p):Key r p:=by
 cases h with
 |bg=>exact hb
 |go _ w =>
  obtain⟨v,m,_⟩:=w;exact hd _ _ ⟨v,m⟩
theorem jIA{p:Pt}{l:Inn}:∀{r:Rm},look r p=some l->p∈r.map (·.1)
 |[],h=>by cases h
 |e::r,h=>by
  by_cases c:e.1=p
  ·rw[<- c];exact QF
  ·rw[show look (e::r) p=look r p from if_neg c]at h
   exact QE _ (jIA (r:=r) h)
theorem jDX:∀{ks ns:List Pt},ks.Nodup->(∀s∈ks,s∈ns)->ks.length<=ns.length
 |[],_,_,_=>qG _
 |s::r,ns,h,hs=>by
  obtain⟨h1,h2⟩:=Qf.mp h;have hm:=hs s QF;have:=jDX (ks:=r) (ns:=ns.erase s) h2 fun x hx=>(QA6 (fun(e:x=s)=>h1 (e▸hx))).mpr (hs x (QE _ hx));rw[QAX hm]at this;have hp:=QAp hm;rw[QL]
  omega
theorem CF.le{r:Rm}{ks:List Pt}{vs:List D}(hd:Dom r)(hb:Key r bgn)(h:CF r ks vs):ks.length<=r.length:=by
 have:=jDX (ns:=r.map (·.1)) h.nd fun s hs=>by
  obtain⟨l,e⟩:=jES hd hb (h.rch s hs);exact jIA e
 rw[QG]at this;exact this
structure Srch(r:Rm)(ks:List Pt)(vs:List D)(ws:List Pt):Prop where
 cf:CF r ks vs
 sub:∀w∈ws,w∈ks
 clo:∀k∈ks,k∉ws->∀q,Way r k q->q∈ks
structure Srch1(r:Rm)(here:Pt)(ks:List Pt)(vs:List D)(ws:List Pt)(l:Inn):Prop where
 cf:CF r ks vs
 sub:∀w∈ws,w∈ks
 clo:∀k∈ks,k∉ws->k≠here->∀q,Way r k q->q∈ks
 her:here∈ks
 don:∀e∈lk r here,0<e.2->e.1∈ks∨e∈l
 all:∀e∈l,e∈lk r here
section
variable{r:Rm}{ks ws:List Pt}{vs:List D}
theorem jWB:Srch r [bgn] [.none] [bgn]:=⟨.bg,fun _ h=>h,fun k h n=>absurd h n⟩
theorem Srch.pop{w:Pt}(h:Srch r ks vs (w::ws)):Srch1 r w ks vs ws (lk r w):=by
 refine⟨h.cf,fun x hx=>h.sub x (QE _ hx),fun k hk n ne=>h.clo k hk fun z=>?_,h.sub w QF,fun e he _=>.inr he,fun e he=>he⟩;rcases QK.mp z with z|z
 ·exact ne z
 ·exact n z
theorem Srch1.skip{here:Pt}{e:Pt×Int}{l:Inn}(h:Srch1 r here ks vs ws (e::l))(c:0<e.2->e.1∈ks):Srch1 r here ks vs ws l:=by
 refine⟨h.cf,h.sub,h.clo,h.her,fun x hx p=>?_,fun x hx=>h.all x (QE _ hx)⟩;rcases h.don x hx p with z|z
 ·exact .inl z
 ·rcases QK.mp z with z|z
  ·rw[z]at p ⊢;exact .inl (c p)
  ·exact .inr z
theorem Srch1.add{here:Pt}{e:Pt×Int}{l:Inn}(h:Srch1 r here ks vs ws (e::l))(c:0<e.2)(n:e.1∉ks):Srch1 r here (ks++[e.1]) (vs++[pr here]) (ws++[e.1]) l:=by
 have me:=h.all e QF;refine⟨h.cf.add h.her ⟨e.2,me,c⟩ n,fun x hx=>?_,fun k hk nw ne q w=>?_,Qk _ h.her,fun x hx p=>?_,fun x hx=>h.all x (QE _ hx)⟩
 ·rcases Qd.mp hx with z|z
  ·exact Qk _ (h.sub x z)
  ·exact QV _ z
 ·rcases Qd.mp hk with z|z
  ·exact Qk _ (h.clo k z (fun y=>nw (Qk _ y)) ne q w)
  ·exact absurd (QV _ z) nw
 ·rcases h.don x hx p with z|z
  ·exact .inl (Qk _ z)
  ·rcases QK.mp z with z|z
   ·rw[z];exact .inl (QV _ QF)
   ·exact .inr z
theorem Srch1.fin{here:Pt}(h:Srch1 r here ks vs ws []):Srch r ks vs ws:=by
 refine⟨h.cf,h.sub,fun k hk n q w=>?_⟩;by_cases e:k=here
 ·subst e
  obtain⟨v,m,p⟩:=w;rcases h.don (q,v) m p with z|z
  ·exact z
  ·exact(nomatch z)
 ·exact h.clo k hk n e q w
theorem Srch.done(h:Srch r ks vs [])(p:Pt):p∈ks↔Rch r p:=by
 refine⟨h.cf.rch p,fun z=>?_⟩
 induction z with
 |bg=>exact h.cf.hb
 |go _ w ih=>exact h.clo _ ih (fun z=>(nomatch z)) _ w
end
noncomputable def eC(Q:T->List T->Prop):PEnds:={ nx:=fun ρ=>jS9 (jAg [0] ρ) (Q (.d .none)),rt:=fun t ρ=>jS9 (jAg [0] ρ) (Q t) }
theorem jEt{Ψ:PEv}{b:PT}{p:PSp}{N ps:List Str}{ds:List T}{Q:T->List T->Prop}(ρ:PSt)(hl:ds.length=ps.length)(hc:jBV 0 p.md ps.length=[0])(hs:jAH N p.md ds=ρ)(h:pws Ψ (fun _=>False) b (eC Q) ρ):ds.length=ps.length/\pws Ψ (fun _=>False) b (jAx p ps.length Q) (jAH N p.md ds):=by
 have e:jAx p ps.length Q=eC Q:=by
  unfold jAx;rw[hc]
  rfl
 rw[e,hs];exact⟨hl,h⟩
noncomputable def awS(r:Rm)(h t:Pt)(v:Int):PSt:=[some (.own (jAT r)),some (.bor (.d (pr h))),some (.bor (.d (pr t))),some (.bor (.d (.int v)))]
section
variable{Ψ:PEv}{Z:PEnds}{q:PT}{r:Rm}{h t:Pt}{v:Int}
theorem jY2(hl:r.length<sizeLine)(k:pws Ψ (fun _=>False) q Z (awS (sdf r h) h t v)):pws Ψ (fun _=>False) (.seq (.sdf 0 (.var 1)) q) Z (awS r h t v):=by
 delta awS at k ⊢
 simp_arith[↓jAF]
 refine⟨rfl,jKz hl ?_⟩;exact k
theorem jY1(hl:r.length<sizeLine)(k:pws Ψ (fun _=>False) q Z (awS (sdf r t) h t v)):pws Ψ (fun _=>False) (.seq (.sdf 0 (.var 2)) q) Z (awS r h t v):=by
 delta awS at k ⊢
 simp_arith[↓jAF]
 refine⟨rfl,jKz hl ?_⟩;exact k
theorem jY0{l:Inn}(e:look r h=some l)(hl:l.length<sizeLine)(k:pws Ψ (fun _=>False) q Z (awS (put r h (put l t v)) h t v)):pws Ψ (fun _=>False) (.seq (.six (.idx (.var 0) (.var 1)) (.var 2) (.var 3)) q) Z (awS r h t v):=by
 delta awS at k ⊢
 simp_arith[↓jAF]
 refine jEB e fun f hf=>jIm hl ?_;rw[hf];exact k
theorem jYz{l:Inn}(e:look r t=some l)(hl:l.length<sizeLine)(k:pws Ψ (fun _=>False) q Z (awS (put r t (put l h 0)) h t v)):pws Ψ (fun _=>False) (.seq (.six (.idx (.var 0) (.var 2)) (.var 1) (.int 0)) q) Z (awS r h t v):=by
 delta awS at k ⊢
 simp_arith[↓jAF]
 refine jEB e fun f hf=>jIm hl ?_;rw[hf];exact k
end
theorem jCS{r:Rm}{p:Pt}(h:Key r p):look r p=some (lk r p):=by
 obtain⟨l,e⟩:=h;unfold lk;rw[e]
 rfl
noncomputable def jBe:PSp where
 md:=[.chg]
 run:=fun ds Q _=>∃(r:Rm) (w:Wy),ds=[jAT r,.d (pr w.1),.d (pr w.2.1),.d (.int w.2.2)]/\(w.1≠w.2.1/\Sz r 5000)/\Q (.d .none) [jAT (jBr r w)]
 mono:=fun h _ z=>by obtain⟨r,w,e,l,q⟩:=z;exact⟨r,w,e,l,h _ _ q⟩
theorem jFw{r:Rm}(w:Wy){K:T->List T->Prop}{E:XE}(h:w.1≠w.2.1)(s:Sz r 5000)(q:K (.d .none) [jAT (jBr r w)]):jFF jBe [jAT r,.d (pr w.1),.d (pr w.2.1),.d (.int w.2.2)] K E:=⟨r,w,rfl,⟨h,s⟩,q⟩
theorem jQx{Ψ:PEv}(ds Q E)(h:jBe.run ds Q E):ds.length=jDS.length/\pws Ψ (fun _=>False) jHZ (jAx jBe jDS.length Q) (jAH jHh jBe.md ds):=by
 obtain⟨r,w,rfl,⟨hn,hs⟩,q⟩:=h;have hz:sizeLine=16777216:=QW;refine jEt (awS r w.1 w.2.1 w.2.2) rfl rfl rfl ?_;have h1:=hs.1;have h2:=jHq (r:=r) (p:=w.1);have k1:Key (sdf (sdf r w.1) w.2.1) w.1:=jCI.mpr (.inr (jCI.mpr (.inl rfl)));have k2:Key (sdf (sdf r w.1) w.2.1) w.2.1:=jCI.mpr (.inl rfl);have l1:=hs.2 w.1;have l2:=hs.2 w.2.1;refine jY2 (by omega) (jY1 (by omega) (jY0 (jCS k1) (by rw[jCZ,jCZ];omega) (jYz (jCS (jEf.mpr (.inr k2))) (by rw[jCa,if_neg hn,jCZ,jCZ];omega) ?_)));exact q
noncomputable def jBu:PSp where
 md:=[.chg]
 run:=fun ds Q _=>∃(r:Rm) (n:Str),ds=[jAT r,.d (.str n)]/\Sz r 5000/\Q (.d .none) [jAT (jBr r (tO n,fR n,1))]
 mono:=fun h _ z=>by obtain⟨r,w,e,l,q⟩:=z;exact⟨r,w,e,l,h _ _ q⟩
theorem jFx{r:Rm}{n:Str}{K:T->List T->Prop}{E:XE}(s:Sz r 5000)(q:K (.d .none) [jAT (jBr r (tO n,fR n,1))]):jFF jBu [jAT r,.d (.str n)] K E:=⟨r,n,rfl,s,q⟩
theorem jQy{Ψ:PEv}(h1:Ψ.sp "add_way"=jBe)(ds Q E)(h:jBu.run ds Q E):ds.length=jCk.length/\pws Ψ (fun _=>False) jDf (jAx jBu jCk.length Q) (jAH jFo jBu.md ds):=by
 obtain⟨r,n,rfl,hs,q⟩:=h;have hz:sizeLine=16777216:=QW;refine jEt [some (.own (jAT r)),some (.bor (.d (.str n)))] rfl rfl rfl ?_;delta jDf
 simp_arith[↓jDi (md:=[]) h1 rfl rfl]
 refine⟨by omega,by omega,?_⟩;exact jFw (tO n,fR n,1) jAa hs ⟨_,rfl,q⟩
noncomputable def rmS(es:LSS)(st:List Str)(g:Str)(r:Rm)(o4 o5 o6:Option Sl):PSt:=[some (.bor (.d (.list (es.map pr)))),some (.bor (.d (.list (st.map PyData.str)))),some (.bor (.d (.str g))),some (.own (jAT r)),o4,o5,o6]
section
variable{Ψ:PEv}{Z:PEnds}{es:LSS}{st:List Str}{g:Str}{r:Rm}
theorem jYU(hB:Ψ.va "BEGIN"=some (pr bgn)){q:PT}{o3 o4 o5 o6:Option Sl}(k:pws Ψ (fun _=>False) q Z (rmS es st g jER o4 o5 o6)) :
  pws Ψ (fun _=>False) (.seq (.own 3 (.dsp (.glo "BEGIN") (.dnew true))) q) Z [some (.bor (.d (.list (es.map pr)))),some (.bor (.d (.list (st.map PyData.str)))),some (.bor (.d (.str g))),o3,o4,o5,o6]:=by
 simp_arith[↓jFK hB]
 exact⟨jBb bgn,k⟩
theorem jYT(h1:Ψ.sp "add_name"=jBu)(h2:Ψ.sp "add_way"=jBe)(hB:Ψ.va "BEGIN"=some (pr bgn))(hW:Ψ.va "WIDE"=some (.int 2)){n:Str}{o5 o6:Option Sl}(hs:Sz r 4900)(k:Z.nx (rmS es st g ((wyS g n).foldl jBr r) (some (.bor (.d (.str n)))) o5 o6)) :
  pws Ψ (fun _=>False) jCM Z (rmS es st g r (some (.bor (.d (.str n)))) o5 o6):=by
 have hz:sizeLine=16777216:=QW;delta rmS at k ⊢;delta jCM
 simp_arith[↓jFK hB,↓jFK hW,↓jDi (md:=[]) h1 rfl rfl,↓jDi (md:=[]) h2 rfl rfl]
 by_cases e:n=g
 ·rw[dT e]
  unfold wyS at k;rw[if_pos e]at k;exact k
 ·rw[dF e]
  unfold wyS at k;rw[if_neg e]at k;have s1:Sz r 5000:=⟨QX hs.1 (by omega),fun p=>QX (hs.2 p) (by omega)⟩
  have s2:=jEL (w:=(tO n,fR n,1)) jAa hs;have s3:Sz (jBr r (tO n,fR n,1)) 5000:=⟨QX s2.1 (by omega),fun p=>QX (s2.2 p) (by omega)⟩
  refine jFx s1 ⟨_,rfl,?_⟩;refine⟨by omega,?_⟩;exact jFw (bgn,tO n,2) jBR s3 ⟨_,rfl,k⟩
theorem jYS(h1:Ψ.sp "add_name"=jBu)(h2:Ψ.sp "add_way"=jBe)(hW:Ψ.va "WIDE"=some (.int 2)){a b:Str}{o4:Option Sl}(hs:Sz r 4900)(k:Z.nx (rmS es st g ((wyE g (a,b)).foldl jBr r) o4 (some (.bor (.d (.str a)))) (some (.bor (.d (.str b)))))) :
  pws Ψ (fun _=>False) jCL Z (rmS es st g r o4 (some (.bor (.d (.str a)))) (some (.bor (.d (.str b))))):=by
 have hz:sizeLine=16777216:=QW;delta rmS at k ⊢;delta jCL
 simp_arith[↓jFK hW,↓jDi (md:=[]) h1 rfl rfl,↓jDi (md:=[]) h2 rfl rfl]
 unfold wyE at k;by_cases e:a=g
 ·rw[dT e]
  rw[if_pos (.inl e)]at k;exact k
 ·rw[dF e]
  by_cases e2:a=b
  ·rw[dT e2]
   rw[if_pos (.inr e2)]at k;exact k
  ·rw[dF e2]
   rw[if_neg (fun z=>z.elim e e2)]at k;have s1:Sz r 5000:=⟨QX hs.1 (by omega),fun p=>QX (hs.2 p) (by omega)⟩
   have s2:=jEL (w:=(tO a,fR a,1)) jAa hs;have s3:=jEL (w:=(tO b,fR b,1)) jAa s2;refine jFx s1 ⟨_,rfl,?_⟩;refine jFx ⟨QX s2.1 (by omega),fun p=>QX (s2.2 p) (by omega)⟩ ⟨_,rfl,?_⟩;refine⟨by omega,by omega,?_⟩;exact jFw (fR a,tO b,2) jAa.symm ⟨QX s3.1 (by omega),fun p=>QX (s3.2 p) (by omega)⟩ ⟨_,rfl,k⟩
end
noncomputable def jBF:PSp where
 md:=[]
 run:=fun ds Q _=>∃(es:LSS) (st:List Str) (g:Str),ds=[.d (.list (es.map pr)),.d (.list (st.map PyData.str)),.d (.str g)]/\(es.length<=126/\st.length<=11)/\Q (jAT (jAA es st g)) []
 mono:=fun h _ z=>by obtain⟨es,st,g,e,l,q⟩:=z;exact⟨es,st,g,e,l,h _ _ q⟩
theorem jGn{es:LSS}{st:List Str}{g:Str}{K:T->List T->Prop}{E:XE}(h1:es.length<=126)(h2:st.length<=11)(q:K (jAT (jAA es st g)) []):jFF jBF [.d (.list (es.map pr)),.d (.list (st.map PyData.str)),.d (.str g)] K E:=⟨es,st,g,rfl,⟨h1,h2⟩,q⟩
theorem jLg{Ψ:PEv}(h1:Ψ.sp "add_name"=jBu)(h2:Ψ.sp "add_way"=jBe)(hB:Ψ.va "BEGIN"=some (pr bgn))(hW:Ψ.va "WIDE"=some (.int 2))(ds Q E)(h:jBF.run ds Q E):ds.length=jCj.length/\pws Ψ (fun _=>False) jFl (jAx jBF jCj.length Q) (jAH jFn jBF.md ds):=by
 obtain⟨es,st,g,rfl,⟨l1,l2⟩,q⟩:=h;refine jAV [some (.bor (.d (.list (es.map pr)))),some (.bor (.d (.list (st.map PyData.str)))),some (.bor (.d (.str g))),none,none,none,none] rfl rfl rfl ?_;refine jYU hB ?_;delta rmS
 simp_arith[↓jAF]
 rw[<- jBH];refine jAw (fun(s:Str)=>T.d (.str s)) (fun l ρ=>∃r o4,RmOk r (1+4 * (11 - l.length))/\l.length<=11/\(l.flatMap (wyS g)).foldl jBr r=(st.flatMap (wyS g)).foldl jBr jER/\ρ=rmS es st g r o4 none none) ?_ ?_ _ _ ⟨jER,_,?_,l2,rfl,rfl⟩
 ·rintro ρ ⟨r,o4,ok,_,e,rfl⟩
  have e:r=(st.flatMap (wyS g)).foldl jBr jER:=e;delta rmS
  simp_arith[↓jAF]
  rw[<- jBH];refine jAw (fun(p:Str×Str)=>T.d (pr p)) (fun l ρ=>∃r o5 o6,Sz r (45+6 * (126 - l.length))/\l.length<=126/\(l.flatMap (wyE g)).foldl jBr r=jAA es st g/\ρ=rmS es st g r (jD6 o4) o5 o6) ?_ ?_ _ _ ⟨r,_,_,?_,l1,by rw[e];rfl,rfl⟩
  ·rintro ρ ⟨r,o5,o6,_,_,e,rfl⟩
   have e:r=jAA es st g:=e;subst e;delta rmS
   simp_arith[↓jAF]
   exact q
  ·rintro⟨a,b⟩ l ρ N hN ⟨r,o5,o6,s,ll,e,rfl⟩
   rw[QL]at s ll;rw[QAY,Wf]at e;refine jDq.mk rfl ?_;refine jYS (a:=a) (b:=b) h1 h2 hW ⟨QX s.1 (by omega),fun p=>QX (s.2 p) (by omega)⟩ (hN _ ⟨_,_,_,?_,by omega,e,rfl⟩);have z:Sz ((wyE g (a,b)).foldl jBr r) (45+6 * (126 - (l.length+1))+2 * (wyE g (a,b)).length):=jOn jEA s;have y:=jKY (g:=g) (e:=(a,b));exact⟨QX z.1 (by omega),fun p=>QX (z.2 p) (by omega)⟩
  ·exact⟨QX ok.sz.1 (by rw[Qi];omega),fun p=>QX (ok.sz.2 p) (by rw[Qi];omega)⟩
 ·rintro s l ρ N hN ⟨r,o4,ok,ll,e,rfl⟩
  rw[QL]at ok ll;rw[QAY,Wf]at e;refine jYT (n:=s) h1 h2 hB hW ⟨QX ok.sz.1 (by omega),fun p=>QX (ok.sz.2 p) (by omega)⟩ (hN _ ⟨_,_,?_,by omega,e,rfl⟩);have z:=ok.add (ws:=wyS g s) jD9;have y:=jKX (g:=g) (n:=s);exact⟨z.pos,z.dom,z.bg,QX z.sz.1 (by omega),fun p=>QX (z.sz.2 p) (by omega)⟩
 ·exact⟨jBy.pos,jBy.dom,jBy.bg,QX jBy.sz.1 (by omega),fun p=>QX (jBy.sz.2 p) (by omega)⟩
noncomputable def jM1(l:Inn):D:=.dict (l.map fun e=>(pr e.1,.int e.2))
noncomputable def kvR(r:Rm):List (D×D):=r.map fun e=>(pr e.1,jM1 e.2)
theorem jT6(l:Inn):(jDw l).er=jM1 l:=by
 show PyData.dict ((jCr l).zip (jC8 (l.map fun e=>T.d (.int e.2))))=_;rw[show(l.map fun e=>T.d (.int e.2))=(l.map fun e=>PyData.int e.2).map T.d by rw[Qq];rfl,jAe];unfold jCr jM1;rw[QAk]
theorem jRi(r:Rm):(jAT r).er=.dict (kvR r):=by
 show PyData.dict ((jCr r).zip (jC8 (r.map fun e=>jDw e.2)))=_;rw[jII,Qq,show(T.er∘fun(e:Pt×Inn)=>jDw e.2)=fun e=>jM1 e.2 from funext fun e=>jT6 e.2];unfold jCr kvR;rw[QAk]
theorem jL6{r:Rm}{p:Pt}{l:Inn}(h:look r p=some l):jCH (kvR r)=some true:=by
 cases r with
 |nil=>cases h
 |cons e r=>rfl
theorem jN6(l:Inn):(l.map fun e=>(pr e.1,PyData.int e.2))=[]∨jCH (l.map fun e=>(pr e.1,PyData.int e.2))=some true:=by
 cases l with
 |nil=>exact .inl rfl
 |cons e r=>exact .inr rfl
theorem jSG{r:Rm}{p:Pt}{n m:Bool}{R:T->Prop}(h:Key r p)(k:R (.d (jM1 (lk r p)))):jFD (.d (.dict (kvR r))) n (.d (pr p)) m R:=by
 have e:=jCS h;obtain⟨i,i1,i2,_⟩:=jBQ (fun l=>T.d (jM1 l)) e;have e1:(kvR r).map (·.1)=jCr r:=by
  unfold kvR jCr;rw[Qq]
  rfl
 refine jW6 (jL6 e) (jBb p) (by rw[e1];exact i1) ?_ k;have e2:(kvR r).map (·.2)=r.map fun e=>jM1 e.2:=by
  unfold kvR;rw[Qq]
  rfl
 rw[e2];rw[QY]at i2 ⊢;cases z:r[i]? with
 |none=>rw[z]at i2;cases i2
 |some x =>
  rw[z]at i2;injection i2 with i2
  injection i2 with i2
  show some (jM1 x.2)=_;rw[i2]
theorem jVz{l:Inn}{n:Bool}{W:List T->Prop}:itV .itm [(.d (jM1 l),n)] W=W (l.map fun e=>.d (.tuple [pr e.1,.int e.2])):=by
 unfold jM1;rw[jVy (jN6 l),Qq]
 rfl
theorem jFA{Ψ:PEv}{E:XE}{ρ:PSt}{K:TK}{b:PX}{r:Rm}:sqE (jAT r) false Ψ b E ρ K=peE Ψ b E (lockA ρ) fun y m _=>K y m ρ:=rfl
theorem jOc{Ψ:PEv}{E:XE}{ρ:PSt}{K:TK}{b:PX}{l:Inn}:sqE (jDw l) false Ψ b E ρ K=peE Ψ b E (lockA ρ) fun y m _=>K y m ρ:=rfl
theorem jJo{Ψ:PEv}{E:XE}{ρ:PSt}{M:List (T×Bool)->PSt->Prop}{b:PX}{md:List Md}{r:Rm}:sqA (jAT r) false Ψ b E md ρ M=peA Ψ b E md (lockA ρ) fun xs _=>M xs ρ:=rfl
theorem jR4{Ψ:PEv}{E:XE}{ρ:PSt}{M:List (T×Bool)->PSt->Prop}{b:PX}{md:List Md}{l:Inn}:sqA (jDw l) false Ψ b E md ρ M=peA Ψ b E md (lockA ρ) fun xs _=>M xs ρ:=rfl
def jVr(t:T)(r:Rm):Prop:=t=jAT r∨t=.d (.dict (kvR r))
theorem jW7{b:Bool}{ks:List D}{ts:List T}{n m:Bool}{k:D}{l:Nat}{t:T}{R:T->Prop}(h1:jFH b k)(h2:jAG ks k=some l)(h3:ts[l]?=some t)(h:R t):jFD (.dct b ks ts) false (.d k) m R:=.inr ⟨b,ks,ts,l,t,rfl,h1,h2,h3,h⟩
theorem jCg{r:Rm}{p:Pt}{m:Bool}{R:T->Prop}(h:Key r p)(k:R (jDw (lk r p))):jFD (jAT r) false (.d (pr p)) m R:=by
 obtain⟨i,i1,i2,_⟩:=jBQ jDw (jCS h);exact jW7 (n:=false) (jBb p) i1 i2 k
theorem jId{l:Inn}{p:Pt}{v:Int}{m:Bool}{R:T->Prop}(h:look l p=some v)(k:R (.d (.int v))):jFD (jDw l) false (.d (pr p)) m R:=by
 obtain⟨i,i1,i2,_⟩:=jBQ (fun v:Int=>T.d (.int v)) h;exact jW7 (n:=false) (jBb p) i1 i2 k
theorem jKg(l:Inn):unD (l.map fun e=>T.d (.int e.2))=some (l.map fun e=>.int e.2):=by
 rw[show(l.map fun e=>T.d (.int e.2))=(l.map fun e=>PyData.int e.2).map T.d by rw[Qq];rfl,jAN]
theorem jSK{l:Inn}{W:List T->Prop}:itV .itm [(jDw l,false)] W=W (l.map fun e=>.d (.tuple [pr e.1,.int e.2])):=by
 refine(jJJ _ _).trans ?_;have e:((jCr l).zip (l.map fun e=>PyData.int e.2)).map (fun p=>T.d (.tuple [p.1,p.2]))=l.map fun e=>T.d (.tuple [pr e.1,.int e.2]):=by
  unfold jCr;rw[QAk,Qq]
  rfl
 refine propext ⟨fun⟨ds,e1,k⟩=>?_,fun k=>⟨_,jKg l,by rw[e];exact k⟩⟩;rw[jKg]at e1;cases e1;rw[e]at k;exact k
theorem jPs{a b:PX}:vrs (.idx a b)=vrs a:=rfl
theorem jUt{l:Inn}:jOb [(jDw l,false)]=false:=rfl
noncomputable def cam(ks:List Pt)(vs:List D):T:=.dct true (ks.map pr) (vs.map T.d)
theorem jO4{ks:List Pt}{q:Pt}:pr q∈ks.map pr↔q∈ks:=by
 constructor
 ·intro h
  obtain⟨x,hx,e⟩:=Qg.mp h;rw[<- jIu e];exact hx
 ·exact QBM
theorem jGH(ks:List Pt)(q:Pt):(jAG (ks.map pr) (pr q)).isSome=decide (q∈ks):=by
 rw[qQ,jFh,jO4,decide_eq_true_iff]
theorem jSV{ks:List Pt}{vs:List D}{q:Pt}{x:D}{Q:T->Prop}(n:q∉ks)(hl:ks.length<sizeLine)(k:Q (cam (ks++[q]) (vs++[x]))):stV (cam ks vs) (.d (pr q)) (.d x) Q:=by
 refine⟨jBb q,by rw[QG];exact hl,?_⟩;show Q (jM0 true (ks.map pr) (vs.map T.d) (pr q) (.d x));unfold jM0;rw[jA1.mpr (fun z=>n (jO4.mp z))];unfold cam at k;rw[Qe,Qe]at k;exact k
theorem jUS{ks:List Pt}{vs:List D}{q:Pt}{L:Bool->Prop}:jDz .NotIn (.d (pr q)) (cam ks vs) L=L (!decide (q∈ks)):=by
 unfold cam;rw[jMn,jGH];exact propext ⟨fun h=>h.2,fun h=>⟨jBb q,h⟩⟩
noncomputable def prS(t0:T)(ks:List Pt)(vs:List D)(ws:List Pt)(o3 o4 o5:Option Sl):PSt:=[some (.bor t0),some (.own (cam ks vs)),some (.own (.lst ((ws.map pr).map T.d))),o3,o4,o5]
section
variable{Ψ:PEv}{Z:PEnds}{t0:T}{r:Rm}{ks ws:List Pt}{vs:List D}
theorem jYW{p q:Pt}{v:Int}(hl:ks.length<sizeLine)(hw:ws.length<sizeLine)(k0:(0<v->q∈ks)->Z.nx (prS t0 ks vs ws (some (.bor (.d (pr p)))) (some (.bor (.d (pr q)))) (some (.bor (.d (.int v))))))
  (k1:0<v->q∉ks->Z.nx (prS t0 (ks++[q]) (vs++[pr p]) (ws++[q]) (some (.bor (.d (pr p)))) (some (.bor (.d (pr q)))) (some (.bor (.d (.int v)))))) :
  pws Ψ (fun _=>False) jAP Z (prS t0 ks vs ws (some (.bor (.d (pr p)))) (some (.bor (.d (pr q)))) (some (.bor (.d (.int v))))):=by
 delta prS at k0 k1 ⊢;delta jAP
 simp_arith[↓jUS]
 by_cases h:0<v
 ·rw[dT h]
  by_cases h2:q∈ks
  ·rw[dT h2]
   exact k0 fun _=>h2
  ·rw[dF h2]
   simp only[WF,↓reduceIte];refine jSV h2 hl ?_;refine⟨by rw[QG,QG];exact hw,?_⟩;have:=k1 h h2;rw[Qe,Qe]at this;exact this
 ·rw[dF h]
  exact k0 fun z=>absurd z h
theorem jSv{q:PT}{w:Pt}{o3 o4 o5:Option Sl}(k:pws Ψ (fun _=>False) q Z (prS t0 ks vs ws (some (.bor (.d (pr w)))) o4 o5)) :
  pws Ψ (fun _=>False) (.seq (.set 3 (.mt .pop (.var 2) (.acons (.int 0) .anil))) q) Z (prS t0 ks vs (w::ws) o3 o4 o5):=by
 delta prS at k ⊢
 simp_arith[↓jAF]
 refine⟨0,.d (pr w),?_,rfl,rfl,k⟩;unfold ixN;rw[if_pos (by decide),if_pos (by rw[QG,QG,QL];omega)]
 rfl
theorem jSx(hr:jVr t0 r){w:Pt}{o4 o5:Option Sl}(hk:Key r w)
  (k:jIF (pws Ψ (fun _=>False) jAP) (.tp [4,5]) { Z with nx:=fun ρ2=>Z.nx (kill [4,5] ρ2) } ((lk r w).map fun e=>T.d (.tuple [pr e.1,.int e.2])) (prS t0 ks vs ws (some (.bor (.d (pr w)))) o4 o5)) :
  pws Ψ (fun _=>False) (.seq (.for_ (.tp [4,5]) .itm (.acons (.idx (.var 0) (.var 3)) .anil) jAP) .nil) Z (prS t0 ks vs ws (some (.bor (.d (pr w)))) o4 o5):=by
 rcases hr with rfl|rfl
 ·delta prS at k ⊢
  simp_arith[↓jFA]
  refine jCg hk ?_
  simp_arith[↓jR4,↓jSK,jUt,jPs]
  exact k
 ·delta prS at k ⊢
  simp_arith[↓jAF]
  refine jSG hk ?_
  simp_arith[↓jVz]
  exact k
theorem jYV(rr:jVr t0 r)(hd:Dom r)(hb:Key r bgn)(hr:r.length<=1000){w:Pt}{o3 o4 o5:Option Sl}(h:Srch r ks vs (w::ws))(hm:2 * (r.length - ks.length)+ws.length+1<=3000)
  (hz:∀ks' vs' ws' o3 o4 o5,Srch r ks' vs' ws'->2 * (r.length - ks'.length)+ws'.length<=2 * (r.length - ks.length)+ws.length->Z.nx (prS t0 ks' vs' ws' o3 o4 o5)) :
  pws Ψ (fun _=>False) jBc Z (prS t0 ks vs (w::ws) o3 o4 o5):=by
 have hZ:sizeLine=16777216:=QW;refine jSv ?_;have h0:=h.pop;have hk:Key r w:=jES hd hb (h.cf.rch w (h.sub w QF));refine jSx rr hk ?_;refine jAw (fun(e:Pt×Int)=>T.d (.tuple [pr e.1,.int e.2])) (fun l ρ=>∃ks' vs' ws' o4 o5,Srch1 r w ks' vs' ws' l/\2 * (r.length - ks'.length)+ws'.length<=2 * (r.length - ks.length)+ws.length/\ρ=prS t0 ks' vs' ws' (some (.bor (.d (pr w)))) o4 o5) ?_ ?_ _ _ ⟨ks,vs,ws,_,_,h0,QU _,rfl⟩
 ·rintro ρ ⟨ks',vs',ws',p4,p5,s,l,rfl⟩
  exact hz ks' vs' ws' _ (jD6 p4) (jD6 p5) s.fin l
 ·rintro⟨q,v⟩ l ρ N hN ⟨ks',vs',ws',p4,p5,s,e,rfl⟩
  refine jDq.mk rfl ?_;have s1:=s.cf.le hd hb;refine jYW (p:=w) (q:=q) (v:=v) (by omega) (by omega) (fun c=>hN _ ⟨ks',vs',ws',_,_,s.skip c,e,rfl⟩) fun c n=>?_;have s2:=s.add c n;have s3:=s2.cf.le hd hb;rw[QM,Ql]at s3;exact hN _ ⟨_,_,_,_,_,s2,by rw[QM,QM,Ql];omega,rfl⟩
theorem jYX(hB:Ψ.va "BEGIN"=some (pr bgn)){q:PT}(k:pws Ψ (fun _=>False) q Z (prS t0 [bgn] [.none] [bgn] none none none)) :
  pws Ψ (fun _=>False) (.seq (.own 1 (.dsp (.glo "BEGIN") .non)) (.seq (.own 2 (.lst (.acons (.glo "BEGIN") .anil))) q)) Z [some (.bor t0),none,none,none,none,none]:=by
 have hZ:sizeLine=16777216:=QW
 simp_arith[↓jFK hB]
 exact⟨jBb bgn,by omega,k⟩
end
theorem jFp{Ψ:PEv}{E:XE}{c:PX}{q:PT}{Z:PEnds}{ρ:PSt}(W:Nat->PSt->Prop)(m:Nat)(h0:W m ρ)(hs:∀m ρ,W m ρ->peT Ψ c E ρ fun b ρ1=>if b=true then pws Ψ E q { Z with nx:=fun ρ'=>∃m',m' < m/\W m' ρ',ct:=fun ρ'=>∃m',m' < m/\W m' ρ',bk:=Z.nx } ρ1 else Z.nx ρ1):jW8 Ψ E c q Z ρ:=⟨W,⟨m,h0⟩,hs⟩
noncomputable def jA4:PSp where
 md:=[.bor]
 run:=fun ds Q _=>∃(t0:T) (r:Rm),ds=[t0]/\(jVr t0 r/\Dom r/\Key r bgn/\r.length<=1000)/\∀ks vs,CF r ks vs->(∀p,p∈ks↔Rch r p)->Q (cam ks vs) []
 mono:=fun h _ z=>by obtain⟨t0,r,e,l,q⟩:=z;exact⟨t0,r,e,l,fun ks vs a b=>h _ _ (q ks vs a b)⟩
theorem jEQ{t0:T}{r:Rm}{K:T->List T->Prop}{E:XE}(h0:jVr t0 r)(h1:Dom r)(h2:Key r bgn)(h3:r.length<=1000)(q:∀ks vs,CF r ks vs->(∀p,p∈ks↔Rch r p)->K (cam ks vs) []):jFF jA4 [t0] K E:=⟨t0,r,rfl,⟨h0,h1,h2,h3⟩,q⟩
theorem jNj{Ψ:PEv}(hB:Ψ.va "BEGIN"=some (pr bgn))(ds Q E)(h:jA4.run ds Q E):ds.length=jAz.length/\pws Ψ (fun _=>False) jB6 (jAx jA4 jAz.length Q) (jAH jB7 jA4.md ds):=by
 obtain⟨t0,r,rfl,⟨h0,hd,hb,hr⟩,q⟩:=h;refine jAV [some (.bor t0),none,none,none,none,none] rfl rfl rfl ?_;refine jYX hB ?_;delta prS
 simp_arith[↓jAF]
 refine jFp (fun m ρ=>m<=3000/\∃ks vs ws o3 o4 o5,Srch r ks vs ws/\m=2 * (r.length - ks.length)+ws.length/\ρ=prS t0 ks vs ws o3 o4 o5) (2 * (r.length - 1)+1) ⟨by omega,[bgn],[.none],[bgn],none,none,none,jWB,rfl,rfl⟩ ?_;rintro m ρ ⟨hm,ks,vs,ws,o3,o4,o5,s,e,rfl⟩;cases ws with
 |nil =>
  delta prS
  simp_arith[QG]
  rw[dF (by omega)]
  simp_arith[↓jAF]
  exact q ks vs s.cf s.done
 |cons w ws =>
  rw[QL]at e;have hp:=fun(Z:PEnds) hz=>jYV (Ψ:=Ψ) (Z:=Z) (o3:=o3) (o4:=o4) (o5:=o5) h0 hd hb hr s (by omega) hz;unfold prS at hp;delta prS
  simp_arith[QG]
  rw[dT (by omega)];refine hp _ fun ks' vs' ws' o3 o4 o5 s' l'=>⟨_,by omega,by omega,ks',vs',ws',o3,o4,o5,s',rfl,rfl⟩
theorem jWt{α:Type}{x:α}{r:List α}:atI (x::r) 0=some x:=jDg (j:=0) rfl
theorem jY3{α:Type}{x y:α}{r:List α}:atI (x::y::r) 1=some y:=jDg (j:=1) rfl
theorem jVM{md:List Md}{r:Rm}{xs:List (T×Bool)}{C:List T->Prop}:jBU (.bor::md) ((jAT r,true)::xs) C=jBU md xs fun ts=>C (.d (.dict (kvR r))::ts):=by
 have e:jAb (.bor::md) ((jAT r,true)::xs) []=(jAb md xs []).map (.d (jAT r).er::·):=rfl;unfold jBU;rw[e,jDp,jRi]
theorem jUR{ks:List Pt}{vs:List D}{q:Pt}{L:Bool->Prop}(hv:vs.length=ks.length)(hb:bgn∈ks)(k:L (!decide (q∈ks))):jDz .NotIn (.d (pr q)) (jAU (cam ks vs) true) L:=by
 have e:(cam ks vs).er=.dict ((ks.map pr).zip vs):=by
  show PyData.dict ((ks.map pr).zip (jC8 (vs.map T.d)))=_;rw[jAe]
 show jUJ .NotIn (pr q) (cam ks vs).er L;rw[e];show ∃b,jCH ((ks.map pr).zip vs)=some b/\jFH b (pr q)/\L (!(jAG (((ks.map pr).zip vs).map (·.1)) (pr q)).isSome);refine⟨true,?_,jBb q,?_⟩
 ·cases ks with
  |nil=>exact(nomatch hb)
  |cons x ks=>cases vs with
   |nil=>cases hv
   |cons y vs=>rfl
 ·rw[WM (by rw[QG];omega),jGH]
  exact k
noncomputable def jBW:PSp where
 md:=[]
 run:=fun ds Q _=>∃(es:LSS) (st:List Str) (g:Str) (cut:List Str),ds=[.d (.list (es.map pr)),.d (.list (st.map PyData.str)),.d (.str g),.d (.list (cut.map PyData.str))]/\(es.length<=126/\st.length<=11)/\∀b,(b=true↔¬ ∃a,(a,g)∈es/\Led es st g cut a)->Q (.d (.bool b)) []
 mono:=fun h _ z=>by obtain⟨es,st,g,cut,e,l,q⟩:=z;exact⟨es,st,g,cut,e,l,fun b hb=>h _ _ (q b hb)⟩
theorem jK1{es:LSS}{st:List Str}{g:Str}{cut:List Str}{K:T->List T->Prop}{E:XE}(h1:es.length<=126)(h2:st.length<=11)(q:∀b,(b=true↔¬ ∃a,(a,g)∈es/\Led es st g cut a)->K (.d (.bool b)) []):jFF jBW [.d (.list (es.map pr)),.d (.list (st.map PyData.str)),.d (.str g),.d (.list (cut.map PyData.str))] K E:=⟨es,st,g,cut,rfl,⟨h1,h2⟩,q⟩
section
variable{Ψ:PEv}{Z:PEnds}{es:LSS}{st cut:List Str}{g:Str}
theorem jYa{q:PT}{o4 o5:Option Sl}(hl:es.length<=126)(k:pws Ψ (fun _=>False) q Z [some (.bor (.d (.list (es.map pr)))),some (.bor (.d (.list (st.map PyData.str)))),some (.bor (.d (.str g))),some (.bor (.d (.list (cut.map PyData.str)))),some (.bor (.d (.list ((esL es cut).map pr)))),o5]) :
  pws Ψ (fun _=>False) (.seq (.set 4 (.comp [] ["edge"] (.nm 0) .val (.acons (.var 0) .anil) (.cmp .NotIn (.idx (.var 0) (.int 0)) (.var 4)) (.var 0))) q) Z [some (.bor (.d (.list (es.map pr)))),some (.bor (.d (.list (st.map PyData.str)))),some (.bor (.d (.str g))),some (.bor (.d (.list (cut.map PyData.str)))),o4,o5]:=by
 have hz:sizeLine=16777216:=QW
 simp_arith[↓jAF]
 rw[<- jBH];refine jAi (fun(p:Str×Str)=>T.d (pr p)) (fun p=>T.d (pr p)) (fun p=>!decide (p.1∈cut)) es _ _ (fun x hx R hR=>?_) (by rw[Qi];omega) ?_
 ·obtain⟨a,b⟩:=x
  delta pr at hR ⊢
  simp_arith[jWt,jDh,jCT,jBo,true_or]
  by_cases h:a∈cut
  ·rw[dT h]at hR ⊢
   exact hR
  ·rw[dF h]at hR ⊢
   exact hR
 ·rw[qD,jBH pr]
  simp_arith[↓jAF]
  exact k
theorem jYZ{q:PT}{o4 o5:Option Sl}(hl:st.length<=11)(k:pws Ψ (fun _=>False) q Z [some (.bor (.d (.list (es.map pr)))),some (.bor (.d (.list (st.map PyData.str)))),some (.bor (.d (.str g))),some (.bor (.d (.list (cut.map PyData.str)))),o4,some (.bor (.d (.list ((stL st cut).map PyData.str))))]) :
  pws Ψ (fun _=>False) (.seq (.set 5 (.comp [] ["name"] (.nm 0) .val (.acons (.var 1) .anil) (.cmp .NotIn (.var 0) (.var 4)) (.var 0))) q) Z [some (.bor (.d (.list (es.map pr)))),some (.bor (.d (.list (st.map PyData.str)))),some (.bor (.d (.str g))),some (.bor (.d (.list (cut.map PyData.str)))),o4,o5]:=by
 have hz:sizeLine=16777216:=QW
 simp_arith[↓jAF]
 rw[<- jBH PyData.str st];refine jAi (fun(p:Str)=>T.d (.str p)) (fun p=>T.d (.str p)) (fun p=>!decide (p∈cut)) st _ _ (fun x hx R hR=>?_) (by rw[Qi];omega) ?_
 ·simp_arith[jDh,jCT,jBo,true_or]
  by_cases h:x∈cut
  ·rw[dT h]at hR ⊢
   exact hR
  ·rw[dF h]at hR ⊢
   exact hR
 ·rw[qD,jBH PyData.str]
  simp_arith[↓jAF]
  exact k
end
theorem jNm{Ψ:PEv}(h1:Ψ.sp "rooms_of"=jBF)(h2:Ψ.sp "points_reached"=jA4)(ds Q E)(h:jBW.run ds Q E):ds.length=jCC.length/\pws Ψ (fun _=>False) jEu (jAx jBW jCC.length Q) (jAH jFB jBW.md ds):=by
 obtain⟨es,st,g,cut,rfl,⟨l1,l2⟩,q⟩:=h;have hz:sizeLine=16777216:=QW;refine jAV [some (.bor (.d (.list (es.map pr)))),some (.bor (.d (.list (st.map PyData.str)))),some (.bor (.d (.str g))),some (.bor (.d (.list (cut.map PyData.str)))),none,none] rfl rfl rfl ?_;refine jYa l1 (jYZ l2 ?_)
 simp_arith[↓jAS (md:=[]) h1 rfl rfl,↓jAS (md:=[.bor]) h2 rfl rfl]
 refine⟨by omega,?_⟩;have f1:(esL es cut).length<=126:=QX (QA0 _ _) l1;have f2:(stL st cut).length<=11:=QX (QA0 _ _) l2;refine jGn f1 f2 ?_
 simp_arith[↓jVM]
 have ok:=jF7 (g:=g) f1 f2;refine jEQ (.inr rfl) ok.dom ok.bg ok.sz.1 fun ks vs hc hk=>?_
 simp_arith[↓jAF]
 refine jUR (q:=tO g) hc.len hc.hb ?_;refine q _ ?_;rw[Qs,decide_eq_false_iff_not,hk,jQI]
noncomputable def sm:List Pt->(Pt->Int)->Int
 |[],_=>0
 |x::l,f=>f x+sm l f
section
variable{f g:Pt->Int}
theorem jAY:∀{l:List Pt},(∀x∈l,f x=g x)->sm l f=sm l g
 |[],_=>rfl
 |x::l,h=>by
  show f x+sm l f=g x+sm l g;rw[h x QF,jAY fun y hy=>h y (QE _ hy)]
theorem jEO:∀(l:List Pt),sm l (fun x=>f x+g x)=sm l f+sm l g
 |[]=>rfl
 |x::l=>by
  show f x+g x+sm l _=f x+sm l f+(g x+sm l g)
  rw[jEO l]
  omega
theorem jFO:∀(l:List Pt),sm l (fun x=>- f x)=- sm l f
 |[]=>rfl
 |x::l=>by
  show - f x+sm l _=- (f x+sm l f);rw[jFO l]
  omega
theorem jDL:∀(l:List Pt),sm l (fun _=>0)=0
 |[]=>rfl
 |x::l=>by
  show 0+sm l _=0;rw[jDL l]
  rfl
theorem jGi:∀{l:List Pt},(∀x∈l,0<=f x)->0<=sm l f
 |[],_=>Int.le_refl _
 |x::l,h=>by
  have h1:=h x QF;have h2:=jGi (l:=l) fun y hy=>h y (QE _ hy);show 0<=f x+sm l f
  omega
theorem jEN:∀{l:List Pt},(∀x∈l,0<=f x)->∀{y:Pt},y∈l->f y<=sm l f
 |x::l,h,y,hy=>by
  have h1:=h x QF;have h0:∀y∈l,0<=f y:=fun y hy=>h y (QE _ hy);show f y<=f x+sm l f;rcases QK.mp hy with e|e
  ·have h2:=jGi h0
   rw[e]
   omega
  ·have h2:=jEN h0 e
   omega
theorem jOr:∀{l:List Pt},(∀x∈l,0<=f x)->∀{y z:Pt},y∈l->z∈l->y≠z->f y+f z<=sm l f
 |x::l,h,y,z,hy,hz,ne=>by
  have h1:=h x QF;have h0:∀y∈l,0<=f y:=fun y hy=>h y (QE _ hy);show f y+f z<=f x+sm l f;rcases QK.mp hy with e|e
  ·rcases QK.mp hz with e'|e'
   ·exact absurd (e.trans e'.symm) ne
   ·have h2:=jEN h0 e'
    rw[e]
    omega
  ·rcases QK.mp hz with e'|e'
   ·have h2:=jEN h0 e
    rw[e']
    omega
   ·have h2:=jOr h0 e e' ne
    omega
theorem jOs:∀{l:List Pt},0<sm l f->∃x∈l,0<f x
 |[],h=>absurd h (wq 0)
 |x::l,h=>by
  by_cases c:0<f x
  ·exact⟨x,QF,c⟩
  ·have h:0<f x+sm l f:=h
   obtain⟨y,hy,p⟩:=jOs (l:=l) (by omega);exact⟨y,QE _ hy,p⟩
theorem jKu{k:Pt->Pt->Int}{m:List Pt}:∀(l:List Pt),sm l (fun x=>sm m fun y=>k x y)=sm m fun y=>sm l fun x=>k x y
 |[]=>(jDL m).symm
 |x::l=>by
  show sm m (fun y=>k x y)+sm l _=sm m fun y=>k x y+sm l fun x=>k x y;rw[jKu l,jEO]
theorem jHo{u:Pt}{k:Int}:∀{l:List Pt},u∉l->sm l (fun x=>if x=u then k else 0)=0
 |[],_=>rfl
 |x::l,h=>by
  show(if x=u then k else 0)+sm l _=0;rw[if_neg (fun(e:x=u)=>h (e▸QF)),jHo fun z=>h (QE _ z)]
  rfl
theorem jFP{u:Pt}{k:Int}:∀{l:List Pt},l.Nodup->u∈l->sm l (fun x=>if x=u then k else 0)=k
 |x::l,nd,h=>by
  obtain⟨h1,h2⟩:=Qf.mp nd;show(if x=u then k else 0)+sm l _=k;by_cases e:x=u
  ·rw[if_pos e,jHo (by rw[<- e];exact h1)]
   omega
  ·rw[if_neg e,jFP h2 ((QK.mp h).resolve_left fun z=>e z.symm)]
   omega
theorem jIo(p:Pt->Bool):∀(l:List Pt),sm l f=sm (l.filter p) f+sm (l.filter fun x=>!p x) f
 |[]=>rfl
 |x::l=>by
  show f x+sm l f=_;rw[WN,WN,jIo p l];cases p x with
  |true =>
   show _=(f x+sm (l.filter p) f)+sm (l.filter fun x=>!p x) f
   omega
  |false =>
   show _=sm (l.filter p) f+(f x+sm (l.filter fun x=>!p x) f)
   omega
theorem jP8{a:Pt->Pt->Int}(l:List Pt)(h:∀x∈l,∀y∈l,a x y=- a y x):sm l (fun x=>sm l fun y=>a x y)=0:=by
 have e1:sm l (fun x=>sm l fun y=>a x y)=sm l fun y=>sm l fun x=>a x y:=jKu l;have e2:(sm l fun y=>sm l fun x=>a x y)=- sm l (fun y=>sm l fun x=>a y x):=by
  rw[<- jFO];refine jAY fun y hy=>?_;rw[<- jFO];exact jAY fun x hx=>h x hx y hy
 omega
end
noncomputable def rm(r:Rm)(p q:Pt):Int:=(look (lk r p) q).getD 0
def Adj(r:Rm)(p q:Pt):Prop:=∃v,look (lk r p) q=some v
def NdI(r:Rm):Prop:=∀p,((lk r p).map (·.1)).Nodup
theorem jDZ{α:Type}{q:Pt}{v:α}:∀{l:List (Pt×α)},look l q=some v->(q,v)∈l
 |[],h=>by cases h
 |e::l,h=>by
  by_cases c:e.1=q
  ·rw[show look (e::l) q=some e.2 from if_pos c]at h
   injection h with h
   rw[<- c,<- h];exact QF
  ·rw[show look (e::l) q=look l q from if_neg c]at h
   exact QE _ (jDZ h)
theorem jID{α:Type}{q:Pt}{v:α}:∀{l:List (Pt×α)},(l.map (·.1)).Nodup->(q,v)∈l->look l q=some v
 |e::l,nd,h=>by
  obtain⟨h1,h2⟩:=Qf.mp nd;rcases QK.mp h with c|c
  ·rw[<- c]
   exact if_pos rfl
  ·have ne:e.1≠q:=fun z=>h1 (Qg.mpr ⟨(q,v),c,z.symm⟩)
   rw[show look (e::l) q=look l q from if_neg ne];exact jID h2 c
theorem put_keys{α:Type}{p:Pt}{w:α}:∀{l:List (Pt×α)},(put l p w).map (·.1)=if p∈l.map (·.1) then l.map (·.1) else l.map (·.1)++[p]
 |[]=>rfl
 |e::l=>by
  by_cases c:e.1=p
  ·rw[show put (e::l) p w=(e.1,w)::l from if_pos c,if_pos (by rw[<- c];exact QF)]
   rfl
  ·rw[show put (e::l) p w=e::put l p w from if_neg c]
   rw[QR,QR,put_keys];by_cases h:p∈l.map (·.1)
   ·rw[if_pos h,if_pos (QE _ h)]
   ·rw[if_neg h,if_neg (fun z=>(QK.mp z).elim (fun z=>c z.symm) h)]
    rfl
theorem jDM{α:Type}{p:Pt}{w:α}{l:List (Pt×α)}(h:(l.map (·.1)).Nodup):((put l p w).map (·.1)).Nodup:=by
 rw[put_keys];split
 ·exact h
 ·rename_i n
  refine qr.mpr ⟨h,Qf.mpr ⟨fun z=>(nomatch z),Q7⟩,fun a ha b hb z=>?_⟩;rw[QJ.mp hb]at z;exact n (z▸ha)
theorem jKa{r:Rm}(nd:NdI r){p q:Pt}:Way r p q↔0<rm r p q:=by
 unfold Way rm;constructor
 ·rintro⟨v,m,h⟩
  rw[jID (nd p) m];exact h
 ·intro h
  cases e:look (lk r p) q with
  |none=>rw[e]at h;exact absurd h (wq 0)
  |some v=>rw[e]at h;exact⟨v,jDZ e,h⟩
noncomputable def psh(r:Rm)(u v:Pt):Rm:=put (put r u (put (lk r u) v (rm r u v - 1))) v (put (lk (put r u (put (lk r u) v (rm r u v - 1))) v) u (rm (put r u (put (lk r u) v (rm r u v - 1))) v u+1))
theorem jL3{r:Rm}{u v:Pt}(h:u≠v)(p:Pt):lk (psh r u v) p=if v=p then put (lk r v) u (rm r v u+1) else if u=p then put (lk r u) v (rm r u v - 1) else lk r p:=by
 have e:rm (put r u (put (lk r u) v (rm r u v - 1))) v u=rm r v u:=by
  unfold rm;rw[jCa,if_neg h]
 unfold psh;rw[e,jCa,jCa,jCa,if_neg h]
theorem jK5{r:Rm}{u v:Pt}(h:u≠v)(p q:Pt):rm (psh r u v) p q=rm r p q+(if p=v/\q=u then 1 else 0) - (if p=u/\q=v then 1 else 0):=by
 show(look (lk (psh r u v) p) q).getD 0=_;rw[jL3 h];by_cases h1:v=p
 ·rw[if_pos h1,jBz,if_neg (c:=p=u/\q=v) (fun z=>h (z.1.symm.trans h1.symm))]
  by_cases h2:u=q
  ·rw[if_pos h2,if_pos ⟨h1.symm,h2.symm⟩,<- h1,<- h2]
   show rm r v u+1=rm r v u+1 - 0
   omega
  ·rw[if_neg h2,if_neg (fun z=>h2 z.2.symm),h1]
   show rm r p q=rm r p q+0 - 0
   omega
 ·rw[if_neg h1,if_neg (c:=p=v/\q=u) (fun z=>h1 z.1.symm)]
  by_cases h2:u=p
  ·rw[if_pos h2,jBz]
   by_cases h3:v=q
   ·rw[if_pos h3,if_pos ⟨h2.symm,h3.symm⟩,<- h2,<- h3]
    show rm r u v - 1=rm r u v+0 - 1
    omega
   ·rw[if_neg h3,if_neg (fun z=>h3 z.2.symm),h2]
    show rm r p q=rm r p q+0 - 0
    omega
  ·rw[if_neg h2,if_neg (fun z=>h2 z.1.symm)]
   show rm r p q=rm r p q+0 - 0
   omega
theorem jAp{r:Rm}{p q:Pt}:Adj r p q↔Ent r p q:=by
 unfold Adj Ent;constructor
 ·rintro⟨v,h⟩
  exact⟨v,jDZ h⟩
 ·rintro⟨v,h⟩
  generalize lk r p=l at h
  induction l with
  |nil=>exact(nomatch h)
  |cons e l ih =>
   by_cases c:e.1=q
   ·exact⟨e.2,if_pos c⟩
   ·rcases QK.mp h with z|z
    ·exact absurd (by rw[<- z]) c
    ·obtain⟨w,hw⟩:=ih z
     exact⟨w,(show look (e::l) q=look l q from if_neg c).trans hw⟩
theorem jR1{r:Rm}{u v:Pt}(h:u≠v)(h1:Adj r u v)(h2:Adj r v u){p q:Pt}:Adj (psh r u v) p q↔Adj r p q:=by
 unfold Adj;rw[jL3 h];by_cases e1:v=p
 ·rw[if_pos e1,jBz]
  by_cases e2:u=q
  ·rw[if_pos e2,<- e1,<- e2]
   exact⟨fun _=>h2,fun _=>⟨_,rfl⟩⟩
  ·rw[if_neg e2,e1]
 ·rw[if_neg e1]
  by_cases e2:u=p
  ·rw[if_pos e2,jBz]
   by_cases e3:v=q
   ·rw[if_pos e3,<- e2,<- e3]
    exact⟨fun _=>h1,fun _=>⟨_,rfl⟩⟩
   ·rw[if_neg e3,e2]
  ·rw[if_neg e2]
theorem jQ9{r:Rm}{u v:Pt}(h:u≠v)(nd:NdI r):NdI (psh r u v):=by
 intro p;rw[jL3 h];split
 ·exact jDM (nd v)
 ·split
  ·exact jDM (nd u)
  ·exact nd p
theorem jHr{r:Rm}{p q:Pt}(h:¬ Adj r p q):rm r p q=0:=by
 unfold rm;cases e:look (lk r p) q with
 |none=>rfl
 |some v=>exact absurd ⟨v,e⟩ h
def Cap(p q:Pt)(v:Int):Prop:=(∃n,p=tO n/\q=fR n/\v=1)∨(∃n,p=bgn/\q=tO n/\v=2)∨(∃a b,a≠b/\p=fR a/\q=tO b/\v=2)∨(¬ Lay p q/\v=0)
def jW0(P:Pt->Pt->Int->Prop)(r:Rm):Prop:=∀p,∀e∈lk r p,P p e.1 e.2
theorem jMa{P:Pt->Pt->Int->Prop}{r:Rm}{w:Wy}(hn:w.1≠w.2.1)(h1:P w.1 w.2.1 w.2.2)(h2:P w.2.1 w.1 0)(h:jW0 P r):jW0 P (jBr r w):=by
 intro p e he;rw[jEd hn]at he;by_cases c1:w.2.1=p
 ·rw[if_pos c1]at he
  rcases jET he with z|z
  ·rw[z,<- c1];exact h2
  ·exact h p e z
 ·rw[if_neg c1]at he
  by_cases c2:w.1=p
  ·rw[if_pos c2]at he
   rcases jET he with z|z
   ·rw[z,<- c2];exact h1
   ·exact h p e z
  ·rw[if_neg c2]at he
   exact h p e he
theorem jIr{r:Rm}{p:Pt}(h:(r.map (·.1)).Nodup):((sdf r p).map (·.1)).Nodup:=by
 unfold sdf;cases e:look r p with
 |some v=>exact h
 |none =>
  show(List.map (fun e:Pt×Inn=>e.1) (r++[(p,[])])).Nodup;rw[Qe];refine qr.mpr ⟨h,Qf.mpr ⟨fun z=>(nomatch z),Q7⟩,fun a ha b hb z=>?_⟩;have hb:b=p:=QJ.mp hb;rw[z,hb]at ha;obtain⟨x,hx,e2⟩:=Qg.mp ha;have:=jID h (show(p,x.2)∈r by rw[<- e2];exact hx);rw[e]at this;cases this
theorem jNv{r:Rm}{w:Wy}(hn:w.1≠w.2.1)(h:NdI r):NdI (jBr r w):=by
 intro p;rw[jEd hn];split
 ·exact jDM (h p)
 ·split
  ·exact jDM (h p)
  ·exact h p
theorem jAc{r:Rm}{p:Pt}:Key r p↔p∈r.map (·.1):=by
 constructor
 ·rintro⟨l,e⟩
  exact jIA e
 ·intro h
  induction r with
  |nil=>exact(nomatch h)
  |cons e r ih =>
   by_cases c:e.1=p
   ·exact⟨e.2,if_pos c⟩
   ·rcases QK.mp h with z|z
    ·exact absurd z.symm c
    ·obtain⟨l,hl⟩:=ih z
     exact⟨l,(show look (e::r) p=look r p from if_neg c).trans hl⟩
structure Tbl0(r:Rm):Prop where
 ndk:(r.map (·.1)).Nodup
 ndi:NdI r
 cap:jW0 Cap r
 kind:∀p,Key r p->p=bgn∨∃n,p=tO n∨p=fR n
 sym:∀p q,Ent r p q->Ent r q p/\Key r p
theorem jJF{p q:Pt}(h:Lay p q):(p=bgn∨∃n,p=tO n∨p=fR n)/\(q=bgn∨∃n,q=tO n∨q=fR n):=by
 rcases h with⟨h,n,e⟩| ⟨n,h,e⟩| ⟨a,b,_,h,e⟩
 ·exact⟨.inl h,.inr ⟨n,.inl e⟩⟩
 ·exact⟨.inr ⟨n,.inl h⟩,.inr ⟨n,.inr e⟩⟩
 ·exact⟨.inr ⟨a,.inr h⟩,.inr ⟨b,.inl e⟩⟩
theorem jP0{r:Rm}{w:Wy}(h1:Lay w.1 w.2.1)(h2:Cap w.1 w.2.1 w.2.2)(t:Tbl0 r):Tbl0 (jBr r w):=by
 have ne:=jDu h1;refine⟨?_,jNv ne t.ndi,jMa ne h2 (.inr (.inr (.inr ⟨jCG h1,rfl⟩))) t.cap,fun p h=>?_,fun p q h=>?_⟩
 ·unfold jBr
  exact jDM (jDM (jIr (jIr t.ndk)))
 ·rcases jC6.mp h with z|z|z
  ·rw[z];exact(jJF h1).1
  ·rw[z];exact(jJF h1).2
  ·exact t.kind p z
 ·rw[jEH ne,jC6]
  rcases(jEH ne).mp h with z|⟨z1,z2⟩| ⟨z1,z2⟩
  ·obtain⟨s1,s2⟩:=t.sym p q z
   exact⟨.inl s1,.inr (.inr s2)⟩
  ·exact⟨.inr (.inr ⟨z2,z1⟩),.inl z1⟩
  ·exact⟨.inr (.inl ⟨z2,z1⟩),.inr (.inl z1)⟩
theorem jKo:∀{ws:List Wy}{r:Rm},(∀w∈ws,Lay w.1 w.2.1/\Cap w.1 w.2.1 w.2.2)->Tbl0 r->Tbl0 (ws.foldl jBr r)
 |[],_,_,t=>t
 |w::ws,r,h,t=>jKo (ws:=ws) (fun w hw=>h w (QE _ hw)) (jP0 (h w QF).1 (h w QF).2 t)
theorem jGC{p:Pt}:∀{ws:List Wy}{r:Rm},Key (ws.foldl jBr r) p↔Key r p∨∃w∈ws,p=w.1∨p=w.2.1
 |[],r=>⟨.inl,fun z=>z.elim id fun⟨_,m,_⟩=>(nomatch m)⟩
 |w::ws,r=>by
  rw[wz,jGC (ws:=ws),jC6];constructor
  ·rintro((z|z|z)|⟨x,m,z⟩)
   ·exact .inr ⟨w,QF,.inl z⟩
   ·exact .inr ⟨w,QF,.inr z⟩
   ·exact .inl z
   ·exact .inr ⟨x,QE _ m,z⟩
  ·rintro(z|⟨x,m,z⟩)
   ·exact .inl (.inr (.inr z))
   ·rcases QK.mp m with rfl|m
    ·rcases z with z|z
     ·exact .inl (.inl z)
     ·exact .inl (.inr (.inl z))
    ·exact .inr ⟨x,m,z⟩
noncomputable def wys(es:LSS)(st:List Str)(g:Str):List Wy:=st.flatMap (wyS g)++es.flatMap (wyE g)
theorem jCA{es:LSS}{st:List Str}{g:Str}:jAA es st g=(wys es st g).foldl jBr jER:=by
 unfold jAA wys;rw[Wf]
theorem jCb{es:LSS}{st:List Str}{g:Str}{p q:Pt}{v:Int}:(p,q,v)∈wys es st g↔(∃n∈st,n≠g/\((p,q,v)=(tO n,fR n,1)∨(p,q,v)=(bgn,tO n,2)))∨(∃e∈es,(e.1≠g/\e.1≠e.2)/\((p,q,v)=(tO e.1,fR e.1,1)∨(p,q,v)=(tO e.2,fR e.2,1)∨(p,q,v)=(fR e.1,tO e.2,2))):=by
 unfold wys;rw[Qd,qY,qY];constructor
 ·rintro(⟨n,m,h⟩| ⟨e,m,h⟩)
  ·exact .inl ⟨n,m,jTz.mp h⟩
  ·exact .inr ⟨e,m,jSA.mp h⟩
 ·rintro(⟨n,m,h⟩| ⟨e,m,h⟩)
  ·exact .inl ⟨n,m,jTz.mpr h⟩
  ·exact .inr ⟨e,m,jSA.mpr h⟩
theorem jBA{es:LSS}{st:List Str}{g:Str}:∀w∈wys es st g,Lay w.1 w.2.1/\Cap w.1 w.2.1 w.2.2:=by
 rintro⟨p,q,v⟩ h;rcases jCb.mp h with⟨n,_,_,e|e⟩| ⟨e,_,⟨_,ne⟩,z|z|z⟩
 ·cases e;exact⟨.inr (.inl ⟨n,rfl,rfl⟩),.inl ⟨n,rfl,rfl,rfl⟩⟩
 ·cases e;exact⟨.inl ⟨rfl,n,rfl⟩,.inr (.inl ⟨n,rfl,rfl,rfl⟩)⟩
 ·cases z;exact⟨.inr (.inl ⟨_,rfl,rfl⟩),.inl ⟨_,rfl,rfl,rfl⟩⟩
 ·cases z;exact⟨.inr (.inl ⟨_,rfl,rfl⟩),.inl ⟨_,rfl,rfl,rfl⟩⟩
 ·cases z;exact⟨.inr (.inr ⟨_,_,ne,rfl,rfl⟩),.inr (.inr (.inl ⟨_,_,ne,rfl,rfl,rfl⟩))⟩
theorem jEF(p:Pt):lk jER p=[]:=by
 show(if bgn=p then some [] else none).getD []=[]
 split<;>rfl
theorem jV3:Tbl0 jER:=by
 refine⟨Qf.mpr ⟨fun z=>(nomatch z),Q7⟩,fun p=>?_,fun p e he=>?_,fun p h=>?_,fun p q h=>?_⟩
 ·rw[jEF];exact Q7
 ·rw[jEF]at he;exact(nomatch he)
 ·exact .inl (QJ.mp (jAc.mp h))
 ·obtain⟨v,h⟩:=h
  rw[jEF]at h;exact(nomatch h)
section
variable{es:LSS}{st:List Str}{g:Str}
theorem jBj:Tbl0 (jAA es st g):=by
 rw[jCA];exact jKo jBA jV3
theorem jOH:∀w∈wys es st g,jD8 w:=fun w hw=>by
 unfold wys at hw;rcases Qd.mp hw with z|z
 ·exact jBn (f:=wyS g) (fun _=>jD9) st w z
 ·exact jBn (f:=wyE g) (fun _=>jEA) es w z
theorem jA8{p q:Pt}:Ent (jAA es st g) p q↔(∃v,(p,q,v)∈wys es st g)∨∃v,(q,p,v)∈wys es st g:=by
 rw[jCA,jIJ jOH];constructor
 ·rintro(⟨v,h⟩| h)
  ·rw[jEF]at h;exact(nomatch h)
  ·exact h
 ·exact .inr
theorem jGz{n:Str}(h:Key (jAA es st g) (tO n)):Ent (jAA es st g) (tO n) (fR n):=by
 rw[jCA]at h;rcases jGC.mp h with z|⟨⟨p,q,v⟩,m,z⟩
 ·exact absurd (QJ.mp (jAc.mp z)).symm jBR
 ·refine jA8.mpr (.inl ⟨1,jCb.mpr ?_⟩)
  have z:tO n=p∨tO n=q:=z;rcases jCb.mp m with⟨k,mk,ne,e|e⟩| ⟨e,me,ne,y|y|y⟩
  ·cases e
   rcases z with z|z
   ·rw[jAt z];exact .inl ⟨k,mk,ne,.inl rfl⟩
   ·exact absurd z jAa
  ·cases e
   rcases z with z|z
   ·exact absurd z.symm jBR
   ·rw[jAt z];exact .inl ⟨k,mk,ne,.inl rfl⟩
  ·cases y
   rcases z with z|z
   ·rw[jAt z];exact .inr ⟨e,me,ne,.inl rfl⟩
   ·exact absurd z jAa
  ·cases y
   rcases z with z|z
   ·rw[jAt z];exact .inr ⟨e,me,ne,.inr (.inl rfl)⟩
   ·exact absurd z jAa
  ·cases y
   rcases z with z|z
   ·exact absurd z jAa
   ·rw[jAt z];exact .inr ⟨e,me,ne,.inr (.inl rfl)⟩
theorem jSB{p q:Pt}:Cap p q (rm (jAA es st g) p q)∨(¬ Adj (jAA es st g) p q/\rm (jAA es st g) p q=0):=by
 by_cases h:Adj (jAA es st g) p q
 ·obtain⟨v,e⟩:=h
  have:=jBj (es:=es) (st:=st) (g:=g) |>.cap p (q,v) (jDZ e);unfold rm;rw[e];exact .inl this
 ·exact .inr ⟨h,jHr h⟩
theorem jYw{p q:Pt}:0<=rm (jAA es st g) p q:=by
 rcases jSB (es:=es) (st:=st) (g:=g) (p:=p) (q:=q) with(⟨_,_,_,e⟩| ⟨_,_,_,e⟩| ⟨_,_,_,_,_,e⟩| ⟨_,e⟩)|⟨_,e⟩<;>rw[e]<;>decide
theorem jGQ{p q:Pt}(h:¬ Lay p q):rm (jAA es st g) p q=0:=by
 rcases jSB (es:=es) (st:=st) (g:=g) (p:=p) (q:=q) with(⟨n,e1,e2,_⟩| ⟨n,e1,e2,_⟩| ⟨a,b,ne,e1,e2,_⟩| ⟨_,e⟩)|⟨_,e⟩
 ·exact absurd (.inr (.inl ⟨n,e1,e2⟩)) h
 ·exact absurd (.inl ⟨e1,n,e2⟩) h
 ·exact absurd (.inr (.inr ⟨a,b,ne,e1,e2⟩)) h
 ·exact e
 ·exact e
theorem jWm{n:Str}{q:Pt}(h:q≠fR n):rm (jAA es st g) (tO n) q=0:=jGQ fun l=>by
 rcases l with⟨e,_⟩| ⟨m,e1,e2⟩| ⟨a,b,_,e,_⟩
 ·exact jBR e.symm
 ·exact h (by rw[e2,jAt e1])
 ·exact jAa e
theorem jWn{n:Str}:rm (jAA es st g) (tO n) (fR n)<=1:=by
 rcases jSB (es:=es) (st:=st) (g:=g) (p:=tO n) (q:=fR n) with(⟨_,_,_,e⟩| ⟨m,e1,_,_⟩| ⟨a,b,ne,e1,e2,_⟩| ⟨_,e⟩)|⟨_,e⟩
 ·rw[e];decide
 ·exact absurd e1.symm jBR
 ·exact absurd e1 jAa
 ·rw[e];decide
 ·rw[e];decide
theorem jUP{n:Str}(h:Key (jAA es st g) (tO n)):rm (jAA es st g) (tO n) (fR n)=1:=by
 have a:=jAp.mpr (jGz h);rcases jSB (es:=es) (st:=st) (g:=g) (p:=tO n) (q:=fR n) with(⟨_,_,_,e⟩| ⟨m,e1,_,_⟩| ⟨a,b,ne,e1,e2,_⟩| ⟨l,e⟩)|⟨z,e⟩
 ·exact e
 ·exact absurd e1.symm jBR
 ·exact absurd e1 jAa
 ·exact absurd (.inr (.inl ⟨n,rfl,rfl⟩)) l
 ·exact absurd a z
theorem jYx{n:Str}{p:Pt}(h:p≠tO n):rm (jAA es st g) p (fR n)=0:=jGQ fun l=>by
 rcases l with⟨_,m,e⟩| ⟨m,e1,e2⟩| ⟨a,b,_,_,e⟩
 ·exact jAa e.symm
 ·exact h (by rw[e1,jCc e2])
 ·exact jAa e.symm
theorem jYy{p:Pt}:rm (jAA es st g) p bgn=0:=jGQ fun l=>by
 rcases l with⟨_,m,e⟩| ⟨m,e1,e2⟩| ⟨a,b,_,_,e⟩
 ·exact jBR e
 ·exact jDC e2
 ·exact jBR e
theorem jWl{p:Pt}{n:Str}(h:p≠fR n):rm (jAA es st g) p (tO n)=0∨rm (jAA es st g) p (tO n)=2:=by
 rcases jSB (es:=es) (st:=st) (g:=g) (p:=p) (q:=tO n) with(⟨_,_,e,_⟩| ⟨m,_,_,e⟩| ⟨a,b,_,_,_,e⟩| ⟨l,e⟩)|⟨_,e⟩
 ·exact absurd e jAa
 ·exact .inr e
 ·exact .inr e
 ·exact .inl e
 ·exact .inl e
theorem jUO{p:Pt}{n:Str}{v:Int}(h:(p,tO n,v)∈wys es st g):rm (jAA es st g) p (tO n)=2:=by
 have a:Adj (jAA es st g) p (tO n):=jAp.mpr (jA8.mpr (.inl ⟨v,h⟩));have l:Lay p (tO n):=(jBA _ h).1;rcases jSB (es:=es) (st:=st) (g:=g) (p:=p) (q:=tO n) with(⟨_,_,e,_⟩| ⟨m,_,_,e⟩| ⟨a,b,_,_,_,e⟩| ⟨l',e⟩)|⟨z,e⟩
 ·exact absurd e jAa
 ·exact e
 ·exact e
 ·exact absurd l l'
 ·exact absurd a z
end
section
variable{es:LSS}{st:List Str}{g:Str}
noncomputable def vs0(es:LSS)(st:List Str)(g:Str):List Pt:=(jAA es st g).map (·.1)
noncomputable def fl(es:LSS)(st:List Str)(g:Str)(r:Rm)(p q:Pt):Int:=rm (jAA es st g) p q - rm r p q
noncomputable def out(es:LSS)(st:List Str)(g:Str)(r:Rm)(p:Pt):Int:=sm (vs0 es st g) (fl es st g r p)
structure Base(es:LSS)(st:List Str)(g:Str)(r:Rm):Prop where
 ndi:NdI r
 adj:∀p q,Adj r p q↔Adj (jAA es st g) p q
 keys:r.map (·.1)=vs0 es st g
 nn:∀p q,0<=rm r p q
 anti:∀p q,fl es st g r p q=- fl es st g r q p
structure Flow(es:LSS)(st:List Str)(g:Str)(r:Rm):Prop extends Base es st g r where
 cons:∀x,x≠bgn->x≠tO g->out es st g r x=0
theorem jDj:(vs0 es st g).Nodup:=jBj.ndk
theorem jT4:Flow es st g (jAA es st g):=by
 have e:∀p q,fl es st g (jAA es st g) p q=0:=fun p q=>by unfold fl;omega
 refine⟨⟨jBj.ndi,fun p q=>WY,rfl,fun p q=>jYw,fun p q=>by rw[e,e];rfl⟩,fun x _ _=>?_⟩;unfold out;rw[jAY (g:=fun _=>0) fun q _=>e x q];exact jDL _
theorem jAy{p q:Pt}(h:Adj (jAA es st g) p q):Adj (jAA es st g) q p:=jAp.mpr (jBj.sym p q (jAp.mp h)).1
theorem jAo{p q:Pt}(h:Adj (jAA es st g) p q):p∈vs0 es st g:=jAc.mp (jBj.sym p q (jAp.mp h)).2
theorem jJj{p q:Pt}(h:Adj (jAA es st g) p q):p≠q:=by
 rcases jA8.mp (jAp.mp h) with⟨v,m⟩| ⟨v,m⟩
 ·exact jDu (jBA _ m).1
 ·exact(jDu (jBA _ m).1).symm
section
variable{r:Rm}
theorem Base.dom(b:Base es st g r):Dom r:=fun p q h=>by
 have a:=(b.adj p q).mp (jAp.mpr h);rw[jAc,b.keys];exact jAo (jAy a)
theorem Base.bg(b:Base es st g r):Key r bgn:=by
 rw[jAc,b.keys];refine jAc.mp ?_;show Key (jAA es st g) bgn;rw[jCA];exact jGC.mpr (.inl ⟨[],if_pos rfl⟩)
theorem Base.len(b:Base es st g r):r.length=(jAA es st g).length:=by
 have:=congrArg qz b.keys;unfold vs0 at this;rw[QG,QG]at this;exact this
theorem Base.adjw(b:Base es st g r){p q:Pt}(h:0<rm r p q):Adj (jAA es st g) p q:=(b.adj p q).mp (by
 unfold rm at h;cases e:look (lk r p) q with
 |none=>rw[e]at h;exact absurd h (wq 0)
 |some v=>exact⟨v,e⟩)
theorem jH7{u:Pt}{l:Inn}(h:u∈r.map (·.1)):(put r u l).map (·.1)=r.map (·.1):=by
 rw[put_keys,if_pos h]
theorem Base.pushed(b:Base es st g r){u v:Pt}(h:0<rm r u v):Base es st g (psh r u v):=by
 have a:=b.adjw h;have ne:=jJj a;have e:=jK5 (r:=r) ne;refine⟨jQ9 ne b.ndi,fun p q=>?_,?_,fun p q=>?_,fun p q=>?_⟩
 ·rw[jR1 ne ((b.adj u v).mpr a) ((b.adj v u).mpr (jAy a))]
  exact b.adj p q
 ·have ku:u∈r.map (·.1):=by rw[b.keys];exact jAo a
  have kv:v∈r.map (·.1):=by rw[b.keys];exact jAo (jAy a)
  unfold psh;rw[jH7 (by rw[jH7 ku];exact kv),jH7 ku];exact b.keys
 ·rw[e]
  have:=b.nn p q;by_cases c:p=u/\q=v
  ·rw[if_pos c,c.1,c.2]
   split<;>omega
  ·rw[if_neg c]
   split<;>omega
 ·unfold fl
  rw[e,e];have:=b.anti p q;unfold fl at this;by_cases c1:p=v/\q=u
  ·rw[if_pos c1,if_pos (c:=q=u/\p=v) ⟨c1.2,c1.1⟩,if_neg (c:=p=u/\q=v) (fun z=>ne (z.1.symm.trans c1.1)),if_neg (c:=q=v/\p=u) (fun z=>ne (z.2.symm.trans c1.1))]
   omega
  ·rw[if_neg c1,if_neg (c:=q=u/\p=v) (fun z=>c1 ⟨z.2,z.1⟩)]
   by_cases c2:p=u/\q=v
   ·rw[if_pos c2,if_pos (c:=q=v/\p=u) ⟨c2.2,c2.1⟩]
    omega
   ·rw[if_neg c2,if_neg (c:=q=v/\p=u) (fun z=>c2 ⟨z.2,z.1⟩)]
    omega
theorem jLV(b:Base es st g r){u v:Pt}(h:0<rm r u v)(x:Pt):out es st g (psh r u v) x=out es st g r x+(if x=u then 1 else 0) - (if x=v then 1 else 0):=by
 have a:=b.adjw h;have ne:=jJj a;unfold out;have e:∀q,fl es st g (psh r u v) x q=fl es st g r x q+((if q=v then(if x=u then 1 else 0) else 0)+-(if q=u then(if x=v then 1 else 0) else 0)):=fun q=>by
  unfold fl;rw[jK5 ne];by_cases c1:x=u
  ·have c2:x≠v:=fun z=>ne (c1.symm.trans z)
   rw[if_neg (c:=x=v/\q=u) (fun z=>c2 z.1),if_pos c1,if_neg c2];by_cases c3:q=v
   ·rw[if_pos (c:=x=u/\q=v) ⟨c1,c3⟩,if_pos c3];split<;>omega
   ·rw[if_neg (c:=x=u/\q=v) (fun z=>c3 z.2),if_neg c3];split<;>omega
  ·rw[if_neg (c:=x=u/\q=v) (fun z=>c1 z.1),if_neg c1]
   by_cases c2:x=v
   ·rw[if_pos c2]
    by_cases c3:q=u
    ·rw[if_pos (c:=x=v/\q=u) ⟨c2,c3⟩,if_pos c3];split<;>omega
    ·rw[if_neg (c:=x=v/\q=u) (fun z=>c3 z.2),if_neg c3];split<;>omega
   ·rw[if_neg (c:=x=v/\q=u) (fun z=>c2 z.1),if_neg c2];split<;>split<;>omega
 rw[jAY fun q _=>e q,jEO,jEO,jFO,jFP jDj (jAo (jAy a)),jFP jDj (jAo a)]
 omega
end
theorem CF.find{r:Rm}{ks:List Pt}{vs:List D}(h:CF r ks vs){q:Pt}(m:q∈ks)(ne:q≠bgn):∃ks1 vs1 p ks2 vs2,CF r ks1 vs1/\p∈ks1/\Way r p q/\q∉ks1/\ks=ks1++q::ks2/\vs=vs1++pr p::vs2:=by
 induction h with
 |bg=>exact absurd (QJ.mp m) ne
 |@add ks vs p x c hp w n ih =>
  by_cases e:q∈ks
  ·obtain⟨ks1,vs1,p1,ks2,vs2,a1,a2,a3,a4,a5,a6⟩:=ih e
   exact⟨ks1,vs1,p1,ks2++[x],vs2++[pr p],a1,a2,a3,a4,by rw[a5,qq];rfl,by rw[a6,qq];rfl⟩
  ·have e2:q=x:=QJ.mp ((Qd.mp m).resolve_left e)
   subst e2;exact⟨ks,vs,p,[],[],c,hp,w,n,rfl,rfl⟩
structure LC(es:LSS)(st:List Str)(g:Str)(rs r:Rm)(here:Pt)(ks:List Pt):Prop extends Base es st g r where
 cons:∀x,x≠bgn->x≠tO g->out es st g r x=if x=here then 1 else 0
 val:out es st g r bgn=out es st g rs bgn+if here=bgn then 1 else 0
 fresh:∀p,∀q∈ks,rm rs p q<=rm r p q
theorem jN3{rs:Rm}(f:Flow es st g rs)(ks:List Pt):LC es st g rs rs (tO g) ks:=by
 refine⟨f.toBase,fun x h1 h2=>?_,?_,fun p q _=>Int.le_refl _⟩
 ·rw[if_neg h2];exact f.cons x h1 h2
 ·rw[if_neg (fun z=>jBR z.symm)];omega
theorem jRN{rs r:Rm}{here p:Pt}{ks ks1:List Pt}(nd:NdI rs)(l:LC es st g rs r here ks)(hh:here∈ks)(hb:here≠bgn)(w:Way rs p here)(hn:here∉ks1)(hs:∀q∈ks1,q∈ks):0<rm r p here/\LC es st g rs (psh r p here) p ks1:=by
 have h0:0<rm r p here:=Int.lt_of_lt_of_le ((jKa nd).mp w) (l.fresh p here hh);have ne:=jJj (l.adjw h0);refine⟨h0,l.toBase.pushed h0,fun x h1 h2=>?_,?_,fun x q hq=>?_⟩
 ·rw[jLV l.toBase h0,l.cons x h1 h2]
  split<;>split<;>omega
 ·rw[jLV l.toBase h0,l.val,if_neg hb,if_neg (c:=bgn=here) (fun z=>hb z.symm)]
  by_cases c:p=bgn
  ·rw[if_pos c,if_pos c.symm];omega
  ·rw[if_neg c,if_neg (fun z=>c z.symm)];omega
 ·have h1:=l.fresh x q (hs q hq)
  rw[jK5 ne,if_neg (c:=x=p/\q=here) (fun z=>hn (z.2▸hq))];split<;>omega
theorem jTj{rs r:Rm}{ks:List Pt}(l:LC es st g rs r bgn ks):Flow es st g r/\out es st g r bgn=out es st g rs bgn+1:=by
 refine⟨⟨l.toBase,fun x h1 h2=>?_⟩,?_⟩
 ·rw[l.cons x h1 h2,if_neg h1]
 ·rw[l.val,if_pos rfl]
end
section
variable{es:LSS}{st:List Str}{g:Str}{r:Rm}
theorem jGG(b:Base es st g r){p q:Pt}(h:rm (jAA es st g) q p=0):fl es st g r p q=rm r q p:=by
 have:=b.anti p q;unfold fl at this ⊢
 omega
noncomputable def thr(r:Rm)(n:Str):Int:=rm r (fR n) (tO n)
theorem jKn(b:Base es st g r)(n:Str):fl es st g r (tO n) (fR n)=thr r n:=jGG b (jGQ fun l=>jCG (.inr (.inl ⟨n,rfl,rfl⟩)) l)
theorem jGg(b:Base es st g r)(n:Str):thr r n<=1:=by
 rw[<- jKn b];have h1:=jWn (es:=es) (st:=st) (g:=g) (n:=n);have h2:=b.nn (tO n) (fR n);unfold fl
 omega
theorem jO0(b:Base es st g r){p q:Pt}(h:p∉vs0 es st g∨q∉vs0 es st g):rm r p q=0:=by
 refine jHr fun a=>?_;have a:=(b.adj p q).mp a;rcases h with h|h
 ·exact h (jAo a)
 ·exact h (jAo (jAy a))
theorem jSW(l:List Pt)(nd:l.Nodup)(u:Pt)(k:Int)(h:u∉l->k=0):sm l (fun x=>if x=u then k else 0)=k:=by
 by_cases m:u∈l
 ·exact jFP nd m
 ·rw[jHo m,h m]
noncomputable def inn(r:Rm)(n:Str)(y:Pt):Int:=if y=fR n then 0 else rm r (tO n) y
theorem jJO(f:Flow es st g r){n:Str}(h:n≠g):sm (vs0 es st g) (inn r n)=thr r n:=by
 have c:=f.cons (tO n) (fun z=>jBR z.symm) (fun z=>h (jAt z));unfold out at c;have e:∀y,fl es st g r (tO n) y=(if y=fR n then thr r n else 0)+- inn r n y:=fun y=>by
  unfold inn;by_cases e:y=fR n
  ·rw[if_pos e,if_pos e,e,jKn f.toBase];omega
  ·rw[if_neg e,if_neg e]
   unfold fl;rw[jWm e]
   omega
 rw[jAY fun y _=>e y,jEO,jFO,jSW _ jDj (fR n) (thr r n) (fun z=>jO0 f.toBase (.inl z))]at c
 omega
theorem jJN(b:Base es st g r)(n:Str)(y:Pt):0<=inn r n y:=by
 unfold inn;split
 ·decide
 ·exact b.nn _ _
noncomputable def oun(r:Rm)(n:Str)(y:Pt):Int:=if y=tO n then 0 else rm r y (fR n)
theorem jLU(f:Flow es st g r)(n:Str):sm (vs0 es st g) (oun r n)=thr r n:=by
 have c:=f.cons (fR n) (fun z=>jDC z.symm) (fun z=>jAa z.symm);unfold out at c;have e:∀y,fl es st g r (fR n) y=- (if y=tO n then thr r n else 0)+oun r n y:=fun y=>by
  unfold oun;by_cases e:y=tO n
  ·rw[if_pos e,if_pos e,e]
   have:=f.anti (fR n) (tO n);rw[jKn f.toBase]at this
   omega
  ·rw[if_neg e,if_neg e,jGG f.toBase (jYx e)]
   omega
 rw[jAY fun y _=>e y,jEO,jFO,jSW _ jDj (tO n) (thr r n) (fun z=>jO0 f.toBase (.inr z))]at c
 omega
theorem jTA(b:Base es st g r)(n:Str)(y:Pt):0<=oun r n y:=by
 unfold oun;split
 ·decide
 ·exact b.nn _ _
def Fst(r:Rm)(n:Str):Prop:=0<rm r (tO n) bgn
def Nxt(r:Rm)(a b:Str):Prop:=a≠b/\0<rm r (tO b) (fR a)
theorem jFe(b:Base es st g r){n:Str}(h:Fst r n):n∈st/\n≠g:=by
 rcases jA8.mp (jAp.mp (b.adjw h)) with⟨v,m⟩| ⟨v,m⟩
 ·exact absurd (jBA _ m).1 fun l=>by
   rcases l with⟨e,_⟩| ⟨_,_,e⟩| ⟨_,_,_,e,_⟩
   ·exact jBR e.symm
   ·exact jDC e
   ·exact jAa e
 ·rcases jCb.mp m with⟨k,mk,ne,e|e⟩| ⟨e,_,_,y|y|y⟩
  ·exact absurd (congrArg wo e) jBR
  ·have:=congrArg (fun w:Wy=>w.2.1) e
   rw[jAt this];exact⟨mk,ne⟩
  ·exact absurd (congrArg wo y) jBR
  ·exact absurd (congrArg wo y) jBR
  ·exact absurd (congrArg wo y) jDC
theorem jTT(b:Base es st g r){a c:Str}(h:Nxt r a c):(a,c)∈es/\a≠g:=by
 rcases jA8.mp (jAp.mp (b.adjw h.2)) with⟨v,m⟩| ⟨v,m⟩
 ·exact absurd (jBA _ m).1 fun l=>by
   rcases l with⟨e,_⟩| ⟨k,e1,e2⟩| ⟨_,_,_,e,_⟩
   ·exact jBR e.symm
   ·exact h.1 ((jCc e2).trans (jAt e1).symm)
   ·exact jAa e
 ·rcases jCb.mp m with⟨k,mk,ne,e|e⟩| ⟨e,me,ne,y|y|y⟩
  ·exact absurd (congrArg wo e).symm jAa
  ·exact absurd (congrArg wo e).symm jDC
  ·exact absurd (congrArg wo y).symm jAa
  ·exact absurd (congrArg wo y).symm jAa
  ·have e1:a=e.1:=jCc (congrArg wo y)
   have e2:c=e.2:=jAt (congrArg (fun w:Wy=>w.2.1) y);rw[e1,e2];exact⟨me,ne.1⟩
theorem jMO{n:Str}:inn r n bgn=rm r (tO n) bgn:=by
 unfold inn;exact if_neg jDC
theorem jI5{a n:Str}(h:a≠n):inn r n (fR a)=rm r (tO n) (fR a):=by
 unfold inn;exact if_neg fun z=>h (jCc z)
theorem jQ1{a n:Str}(h:a≠n):oun r a (tO n)=rm r (tO n) (fR a):=by
 unfold oun;exact if_neg fun z=>h (jAt z).symm
theorem jF4(b:Base es st g r){p q:Pt}(h:0<rm r p q):p∈vs0 es st g/\q∈vs0 es st g:=⟨jAo (b.adjw h),jAo (jAy (b.adjw h))⟩
theorem jMN(f:Flow es st g r)(n:Str)(h:n≠g):rm r (tO n) bgn<=1:=by
 by_cases c:0<rm r (tO n) bgn
 ·have h1:=jEN (fun x _=>jJN f.toBase n x) (jF4 f.toBase c).2
  rw[jJO f h,jMO]at h1;exact Int.le_trans h1 (jGg f.toBase n)
 ·omega
theorem jRb(f:Flow es st g r){n:Str}(h:Fst r n):thr r n=1:=by
 have ng:=(jFe f.toBase h).2;have h1:=jEN (fun x _=>jJN f.toBase n x) (jF4 f.toBase h).2;rw[jJO f ng,jMO]at h1;have:=jGg f.toBase n;unfold Fst at h
 omega
theorem jQ0(f:Flow es st g r){a n:Str}(h:Nxt r a n)(ng:n≠g):thr r n=1:=by
 have h1:=jEN (fun x _=>jJN f.toBase n x) (jF4 f.toBase h.2).2;rw[jJO f ng,jI5 h.1]at h1;have:=jGg f.toBase n;have:=h.2
 omega
theorem jOj(f:Flow es st g r){n:Str}(ng:n≠g){x y:Pt}(hx:0<inn r n x)(hy:0<inn r n y):x=y:=by
 have vx:x∈vs0 es st g:=by
  unfold inn at hx;split at hx
  ·exact absurd hx (wq 0)
  ·exact(jF4 f.toBase hx).2
 have vy:y∈vs0 es st g:=by
  unfold inn at hy;split at hy
  ·exact absurd hy (wq 0)
  ·exact(jF4 f.toBase hy).2
 by_cases e:x=y
 ·exact e
 ·have h1:=jOr (fun z _=>jJN f.toBase n z) vx vy e
  rw[jJO f ng]at h1;have:=jGg f.toBase n
  omega
theorem jLj(f:Flow es st g r){a b n:Str}(ng:n≠g)(h1:Nxt r a n)(h2:Nxt r b n):a=b :=
 jCc (jOj f ng (by rw[jI5 h1.1];exact h1.2) (by rw[jI5 h2.1];exact h2.2))
theorem jIE(f:Flow es st g r){a n:Str}(h1:Fst r n)(h2:Nxt r a n):False :=
 jDC (jOj f (jFe f.toBase h1).2 (by rw[jMO];exact h1) (by rw[jI5 h2.1];exact h2.2))
theorem jNp(f:Flow es st g r){n:Str}(h:thr r n=1):∃y,y≠tO n/\0<rm r y (fR n):=by
 obtain⟨y,_,hy⟩:=jOs (f:=oun r n) (l:=vs0 es st g) (by rw[jLU f,h];decide);unfold oun at hy;split at hy
 ·exact absurd hy (wq 0)
 ·rename_i ne
  exact⟨y,ne,hy⟩
theorem jTV(b:Base es st g r){y:Pt}{n:Str}(h:Adj r y (fR n)):∃m,y=tO m:=by
 rcases jA8.mp (jAp.mp ((b.adj _ _).mp h)) with⟨v,m⟩| ⟨v,m⟩
 ·rcases(jBA _ m).1 with⟨_,k,e⟩| ⟨k,e,_⟩| ⟨_,k,_,_,e⟩
  ·exact absurd e.symm jAa
  ·exact⟨k,e⟩
  ·exact absurd e.symm jAa
 ·rcases(jBA _ m).1 with⟨e,_⟩| ⟨k,e,_⟩| ⟨_,k,_,_,e⟩
  ·exact absurd e.symm jDC
  ·exact absurd e.symm jAa
  ·exact⟨k,e⟩
theorem jRA(b:Base es st g r){y:Pt}(h:Adj r y bgn):∃m,y=tO m:=by
 rcases jA8.mp (jAp.mp ((b.adj _ _).mp h)) with⟨v,m⟩| ⟨v,m⟩
 ·rcases(jBA _ m).1 with⟨_,k,e⟩| ⟨k,_,e⟩| ⟨_,k,_,_,e⟩
  ·exact absurd e jBR
  ·exact absurd e jDC
  ·exact absurd e jBR
 ·rcases(jBA _ m).1 with⟨_,k,e⟩| ⟨k,e,_⟩| ⟨_,k,_,e,_⟩
  ·exact⟨k,e⟩
  ·exact absurd e jBR
  ·exact absurd e jDC
theorem jTS(f:Flow es st g r){n:Str}(h:thr r n=1):∃m,Nxt r n m:=by
 obtain⟨y,ne,hy⟩:=jNp f h;obtain⟨m,rfl⟩:=jTV f.toBase ((f.adj _ _).mpr (f.toBase.adjw hy));exact⟨m,fun e=>ne (by rw[e]),hy⟩
theorem jGa(f:Flow es st g r){p:Pt}{n:Str}{v:Int}(m:(p,tO n,v)∈wys es st g):0<rm r p (tO n):=by
 have c:=jUO m;have l:=(jBA _ m).1;have back:fl es st g r p (tO n)=rm r (tO n) p:=jGG f.toBase (jGQ (jCG l));unfold fl at back;rw[c]at back;have key:rm r (tO n) p<=1:=by
  rcases jCb.mp m with⟨k,mk,ne,e|e⟩| ⟨e,me,ne,y|y|y⟩
  ·exact absurd (congrArg (fun w:Wy=>w.2.1) e) jAa
  ·have e1:p=bgn:=congrArg wo e
   have e2:n=k:=jAt (congrArg (fun w:Wy=>w.2.1) e);rw[e1];exact jMN f n (by rw[e2];exact ne)
  ·exact absurd (congrArg (fun w:Wy=>w.2.1) y) jAa
  ·exact absurd (congrArg (fun w:Wy=>w.2.1) y) jAa
  ·have e1:p=fR e.1:=congrArg wo y
   have e2:n=e.2:=jAt (congrArg (fun w:Wy=>w.2.1) y);rw[e1];by_cases c:0<rm r (tO n) (fR e.1)
   ·have nn:e.1≠n:=by rw[e2];exact ne.2
    have h1:=jEN (fun x _=>jTA f.toBase e.1 x) (jF4 f.toBase c).1;rw[jLU f,jQ1 nn]at h1;exact Int.le_trans h1 (jGg f.toBase _)
   ·omega
 omega
theorem jIs{l m:List Pt}(h1:l.Nodup)(h2:m.Nodup)(h:∀x,x∈l↔x∈m):l.length=m.length:=by
 have a:=jDX h1 fun x hx=>(h x).mp hx;have b:=jDX h2 fun x hx=>(h x).mpr hx
 omega
noncomputable def jHI(ks:List Pt)(x:Pt):Bool:=decide (x.2="to")&&!decide (fR x.1∈ks)
theorem jCK{ks:List Pt}{x:Pt}:jHI ks x=true↔∃n,x=tO n/\fR n∉ks:=by
 unfold jHI;rw[Qb,Qs,decide_eq_true_iff,decide_eq_false_iff_not];constructor
 ·rintro⟨h1,h2⟩
  exact⟨x.1,QCG rfl h1,h2⟩
 ·rintro⟨n,rfl,h⟩
  exact⟨rfl,h⟩
theorem jHp(p:Pt->Bool):∀(l:List Pt),sm l (fun x=>if p x=true then 1 else 0)=(l.filter p).length
 |[]=>rfl
 |x::l=>by
  show(if p x=true then 1 else 0)+sm l _=_;rw[jHp p l,WN];by_cases c:p x=true
  ·rw[if_pos c,if_pos c,QL];omega
  ·rw[if_neg c,if_neg c];omega
theorem jJY(f:Flow es st g r){ks:List Pt}(nd:ks.Nodup)(hk:∀p,p∈ks↔Rch r p)(hg:tO g∉ks):out es st g r bgn=(ks.filter (jHI ks)).length:=by
 have sub:∀p∈ks,p∈vs0 es st g:=fun p hp=>by
  have:=jAc.mp (jES f.toBase.dom f.toBase.bg ((hk p).mp hp));rw[f.keys]at this;exact this
 have clo:∀x∈ks,∀y,y∉ks->rm r x y=0:=fun x hx y hy=>by
  have:=f.nn x y;by_cases c:0<rm r x y
  ·exact absurd ((hk y).mpr (.go ((hk x).mp hx) ((jKa f.ndi).mpr c))) hy
  ·omega
 have s1:sm ((vs0 es st g).filter fun x=>decide (x∈ks)) (fun x=>out es st g r x)=out es st g r bgn:=by
  have hb:bgn∈ks:=(hk bgn).mpr .bg;have e:∀x∈(vs0 es st g).filter (fun x=>decide (x∈ks)),out es st g r x=if x=bgn then out es st g r bgn else 0:=fun x hx=>by
   by_cases c:x=bgn
   ·rw[if_pos c,c]
   ·rw[if_neg c]
    exact f.cons x c fun z=>hg (z▸of_decide_eq_true (Qj.mp hx).2)
  rw[jAY e];exact jFP (jDj.sublist qK) (Qj.mpr ⟨sub _ hb,dT hb⟩)
 have s2:∀x∈(vs0 es st g).filter (fun x=>decide (x∈ks)),sm ((vs0 es st g).filter fun y=>!decide (y∈ks)) (fl es st g r x)=if jHI ks x=true then 1 else 0:=fun x hx=>by
  have xk:x∈ks:=of_decide_eq_true (Qj.mp hx).2;have xv:=(Qj.mp hx).1;have c0:∀y∈(vs0 es st g).filter (fun y=>!decide (y∈ks)),y∉ks/\fl es st g r x y=rm (jAA es st g) x y:=fun y hy=>by
   have:=(Qj.mp hy).2;rw[Qs,decide_eq_false_iff_not]at this;refine⟨this,?_⟩;unfold fl;rw[clo x xk y this]
   omega
  have c1:∀y∈(vs0 es st g).filter (fun y=>!decide (y∈ks)),∀n,y=tO n->fl es st g r x y=0:=fun y hy n e=>by
   obtain⟨yk,e1⟩:=c0 y hy;rw[e1,e];by_cases cf:x=fR n
   ·rw[cf]
    exact jGQ fun l=>jCG (.inr (.inl ⟨n,rfl,rfl⟩)) l
   ·rcases jWl (es:=es) (st:=st) (g:=g) cf with z|z
    ·exact z
    ·have a:Adj (jAA es st g) x (tO n):=by
      refine wX fun na=>?_;rw[jHr na]at z;exact absurd z (by decide)
     rcases jA8.mp (jAp.mp a) with⟨v,m⟩| ⟨v,m⟩
     ·have:=jGa f m
      rw[clo x xk (tO n) (e▸yk)]at this;exact absurd this (wq 0)
     ·rw[jGQ (jCG (jBA _ m).1)]
  rcases jBj.kind x (jAc.mpr xv) with e|⟨n,e|e⟩
  ·have nc:¬ jHI ks x=true:=fun z=>by
    obtain⟨n,e2,_⟩:=jCK.mp z;exact jBR (e.symm.trans e2)
   rw[if_neg nc];rw[jAY (g:=fun _=>0),jDL];intro y hy;by_cases t:∃n,y=tO n
   ·obtain⟨n,t⟩:=t
    exact c1 y hy n t
   ·rw[(c0 y hy).2,e]
    exact jGQ fun l=>by
     rcases l with⟨_,z⟩| ⟨n,z,_⟩| ⟨_,b,_,_,z⟩
     ·exact t z
     ·exact jBR z
     ·exact t ⟨b,z⟩
  ·by_cases fk:fR n∈ks
   ·have nc:¬ jHI ks x=true:=fun z=>by
     obtain⟨m,e2,h⟩:=jCK.mp z;rw[<- jAt (e.symm.trans e2)]at h;exact h fk
    rw[if_neg nc,jAY (g:=fun _=>0),jDL];intro y hy;rw[(c0 y hy).2,e];exact jWm fun z=>(c0 y hy).1 (z▸fk)
   ·rw[if_pos (jCK.mpr ⟨n,e,fk⟩)]
    have kn:Key (jAA es st g) (tO n):=by rw[<- e];exact jAc.mpr xv
    have fv:fR n∈vs0 es st g:=jAo (jAy (jAp.mpr (jGz kn)));rw[jAY (g:=fun y=>if y=fR n then 1 else 0)]
    ·exact jFP (jDj.sublist qK) (Qj.mpr ⟨fv,by rw[dF fk];rfl⟩)
    ·intro y hy
     rw[(c0 y hy).2,e];by_cases c:y=fR n
     ·rw[if_pos c,c,jUP kn]
     ·rw[if_neg c,jWm c]
  ·have nc:¬ jHI ks x=true:=fun z=>by
    obtain⟨m,e2,_⟩:=jCK.mp z;exact jAa (e2.symm.trans e)
   rw[if_neg nc,jAY (g:=fun _=>0),jDL];intro y hy;by_cases t:∃n,y=tO n
   ·obtain⟨n,t⟩:=t
    exact c1 y hy n t
   ·rw[(c0 y hy).2,e]
    exact jGQ fun l=>by
     rcases l with⟨z,_⟩| ⟨n,z,_⟩| ⟨_,b,_,_,z⟩
     ·exact jDC z.symm
     ·exact jAa z.symm
     ·exact t ⟨b,z⟩
 have s3:∀x,out es st g r x=sm ((vs0 es st g).filter fun y=>decide (y∈ks)) (fl es st g r x)+sm ((vs0 es st g).filter fun y=>!decide (y∈ks)) (fl es st g r x):=fun x=>jIo _ _;have s4:sm ((vs0 es st g).filter fun x=>decide (x∈ks)) (fun x=>out es st g r x)=sm ((vs0 es st g).filter fun x=>decide (x∈ks)) (fun x=>if jHI ks x=true then 1 else 0):=by
  rw[jAY fun x _=>s3 x,jEO,jP8 _ fun x _ y _=>f.anti x y,jAY s2]
  omega
 rw[<- s1,s4,jHp];have:(((vs0 es st g).filter fun x=>decide (x∈ks)).filter (jHI ks)).length=(ks.filter (jHI ks)).length:=by
  refine jIs ((jDj.sublist qK).sublist qK) (nd.sublist qK) fun x=>?_;rw[Qj,Qj,Qj,decide_eq_true_iff];exact⟨fun⟨⟨_,h1⟩,h2⟩=>⟨h1,h2⟩,fun⟨h1,h2⟩=>⟨⟨sub x h1,h1⟩,h2⟩⟩
 rw[this]
theorem jRc(f:Flow es st g r):out es st g r bgn=(((lk r bgn).map (·.1)).filter fun y=>decide (0<rm r y bgn)).length:=by
 have e:∀y∈vs0 es st g,fl es st g r bgn y=if decide (0<rm r y bgn)=true then 1 else 0:=fun y hy=>by
  rw[jGG f.toBase jYy];have h0:=f.nn y bgn;by_cases c:0<rm r y bgn
  ·rw[dT c,if_pos rfl]
   obtain⟨n,e⟩:=jRA f.toBase ((f.adj _ _).mpr (f.toBase.adjw c));rw[e]at c ⊢;have:=jMN f n (jFe f.toBase c).2
   omega
  ·rw[dF c,if_neg (by decide)]
   omega
 unfold out;rw[jAY e,jHp];have:((vs0 es st g).filter fun y=>decide (0<rm r y bgn)).length=(((lk r bgn).map (·.1)).filter fun y=>decide (0<rm r y bgn)).length:=by
  refine jIs (jDj.sublist qK) ((f.ndi bgn).sublist qK) fun y=>?_;rw[Qj,Qj,decide_eq_true_iff];refine⟨fun⟨_,h⟩=>⟨?_,h⟩,fun⟨_,h⟩=>⟨(jF4 f.toBase h).1,h⟩⟩;obtain⟨v,hv⟩:=(f.adj bgn y).mpr (jAy (f.toBase.adjw h));exact Qg.mpr ⟨(y,v),jDZ hv,rfl⟩
 rw[this]
theorem jRn(f:Flow es st g r){ks:List Pt}(hk:∀p,p∈ks↔Rch r p)(hg:tO g∉ks){cut:List Str}(hc:∀n,tO n∈ks->fR n∉ks->n∈cut):¬ ∃a,(a,g)∈es/\Led es st g cut a:=by
 have go:∀p∈ks,∀n v,(p,tO n,v)∈wys es st g->tO n∈ks:=fun p hp n v m=>(hk _).mpr (.go ((hk _).mp hp) ((jKa f.ndi).mpr (jGa f m)));have key:∀n,Led es st g cut n->fR n∈ks:=fun n h=>by
  induction h with
  |@st s h k =>
   obtain⟨k1,k2⟩:=jBJ.mp k;have t:=go bgn ((hk _).mpr .bg) s 2 (jCb.mpr (.inl ⟨s,h,k1,.inr rfl⟩));exact wX fun z=>k2 (hc s t z)
  |@ed a b l m k ih =>
   obtain⟨k1,k2⟩:=jBJ.mp k;by_cases e:a=b
   ·rw[<- e];exact ih
   ·have t:=go (fR a) ih b 2 (jCb.mpr (.inr ⟨(a,b),m,⟨(jC4 l).1,e⟩,.inr (.inr rfl)⟩))
    exact wX fun z=>k2 (hc b t z)
 rintro⟨a,m,l⟩;exact hg (go (fR a) (key a l) g 2 (jCb.mpr (.inr ⟨(a,g),m,⟨(jC4 l).1,(jC4 l).1⟩,.inr (.inr rfl)⟩)))
end
inductive Run(r:Rm)(g f:Str):List Str->Str->Prop
 |nil:Run r g f [] f
 |go {c:List Str}{n m:Str}:Run r g f c n->n≠g->Nxt r n m->Run r g f (c++[n]) m
inductive Chn(es:LSS)(st:List Str)(g:Str):List Str->Str->Prop
 |st {f:Str}:f∈st->f≠g->Chn es st g [] f
 |go {c:List Str}{n m:Str}:Chn es st g c n->n≠g->(n,m)∈es->Chn es st g (c++[n]) m
section
variable{es:LSS}{st:List Str}{g:Str}{r:Rm}
theorem Run.chn(f:Flow es st g r){s:Str}(hs:Fst r s){c:List Str}{n:Str}(h:Run r g s c n):Chn es st g c n:=by
 induction h with
 |nil=>exact .st (jFe f.toBase hs).1 (jFe f.toBase hs).2
 |go _ ng nx ih=>exact .go ih ng (jTT f.toBase nx).1
theorem Run.thr1(f:Flow es st g r){s:Str}(hs:Fst r s){c:List Str}{n:Str}(h:Run r g s c n)(ng:n≠g):thr r n=1:=by
 cases h with
 |nil=>exact jRb f hs
 |go _ _ nx=>exact jQ0 f nx ng
theorem Run.pred{s:Str}{c:List Str}{n:Str}(h:Run r g s c n):∀x,x∈c∨x=n->x=s∨∃y∈c,Nxt r y x:=by
 induction h with
 |nil=>intro x hx;exact hx.elim (fun z=>(nomatch z)) .inl
 |@go c n m _ _ nx ih =>
  intro x hx;rcases hx with hx|rfl
  ·have:x∈c∨x=n:=(Qd.mp hx).imp_right QJ.mp
   rcases ih x this with z|⟨y,hy,z⟩
   ·exact .inl z
   ·exact .inr ⟨y,Qk _ hy,z⟩
  ·exact .inr ⟨n,QV _ QF,nx⟩
theorem Run.ng{s:Str}{c:List Str}{n:Str}(h:Run r g s c n):∀x∈c,x≠g:=by
 induction h with
 |nil=>exact fun x hx=>(nomatch hx)
 |go _ k _ ih =>
  intro x hx;rcases Qd.mp hx with z|z
  ·exact ih x z
  ·rw[QJ.mp z];exact k
theorem Run.nd(f:Flow es st g r){s:Str}(hs:Fst r s){c:List Str}{n:Str}(h:Run r g s c n):c.Nodup/\n∉c:=by
 induction h with
 |nil=>exact⟨Q7,fun z=>(nomatch z)⟩
 |@go c n m h k nx ih =>
  have nd:(c++[n]).Nodup:=qr.mpr ⟨ih.1,Qf.mpr ⟨fun z=>(nomatch z),Q7⟩,fun a ha b hb z=>by
   rw[QJ.mp hb]at z;exact ih.2 (z▸ha)⟩
  refine⟨nd,fun z=>?_⟩;rcases Qd.mp z with z|z
  ·rcases h.pred m (.inl z) with e|⟨y,hy,e⟩
   ·rw[e]at nx;exact jIE f hs nx
   ·rw[jLj f (h.ng m z) e nx]at hy
    exact ih.2 hy
  ·exact nx.1 (QJ.mp z).symm
theorem Run.apart(f:Flow es st g r){s s':Str}(hs:Fst r s)(hs':Fst r s'){c c':List Str}{n n':Str}(h:Run r g s c n)(h':Run r g s' c' n'):∀x∈c,x∈c'->s=s':=by
 induction h with
 |nil=>exact fun x hx=>(nomatch hx)
 |@go c n m h k nx ih =>
  intro x hx hx';rcases Qd.mp hx with z|z
  ·exact ih x z hx'
  ·have z:=QJ.mp z
   subst z;rcases h.pred x (.inr rfl) with e|⟨y,hy,e⟩<;>rcases h'.pred x (.inl hx') with e'|⟨y',hy',e'⟩
   ·exact e.symm.trans e'
   ·rw[e]at e';exact(jIE f hs e').elim
   ·rw[e']at e;exact(jIE f hs' e).elim
   ·rw[jLj f k e e']at hy
    exact ih y' hy hy'
end
section
variable{es:LSS}{st:List Str}{g:Str}
noncomputable def jIc:List (List Str)->Prop
 |[]=>True
 |c::cs=>(∀d∈cs,∀x∈c,x∉d)/\jIc cs
end
noncomputable def jDG(ks:List Pt)(vs:List D):List (D×D):=(ks.map pr).zip vs
theorem jUN(ks:List Pt)(vs:List D):(cam ks vs).er=.dict (jDG ks vs):=by
 show PyData.dict ((ks.map pr).zip (jC8 (vs.map T.d)))=_;rw[jAe]
 rfl
theorem jGO{ks:List Pt}{vs:List D}(h:vs.length=ks.length):(jDG ks vs).map (·.1)=ks.map pr:=WM (by rw[QG];omega)
theorem jRt{ks:List Pt}{vs:List D}(h:vs.length=ks.length):(jDG ks vs).map (·.2)=vs:=Wr (by rw[QG];omega)
theorem jEI{ks:List Pt}{vs:List D}(h:vs.length=ks.length){p:Pt}(m:p∈ks):jCH (jDG ks vs)=some true:=by
 cases ks with
 |nil=>exact(nomatch m)
 |cons x ks=>cases vs with
  |nil=>cases h
  |cons y vs=>rfl
theorem jJU{q:Pt}{ks2:List Pt}:∀{ks1:List Pt},q∉ks1->jAG ((ks1++q::ks2).map pr) (pr q)=some ks1.length
 |[],_=>jT5 rfl
 |x::ks1,h=>by
  show jAG (pr x::(ks1++q::ks2).map pr) (pr q)=_;rw[jRg (fun z=>h (by rw[jIu z];exact QF)),jJU fun z=>h (QE _ z)]
  rfl
theorem jVt{ks1 ks2:List Pt}{vs1 vs2:List D}{p q:Pt}{n m:Bool}{R:T->Prop}(h1:vs1.length=ks1.length)(h2:vs2.length=ks2.length)(hq:q∉ks1)(k:R (.d (pr p))):jFD (.d (.dict (jDG (ks1++q::ks2) (vs1++pr p::vs2)))) n (.d (pr q)) m R:=by
 have hl:(vs1++pr p::vs2).length=(ks1++q::ks2).length:=by rw[QM,QM,QL,QL,h1,h2]
 refine jW6 (jEI hl (p:=q) (QV _ QF)) (jBb q) (by rw[jGO hl];exact jJU hq) ?_ k;rw[jRt hl,<- h1,Qy (QU _),QA1]
 rfl
theorem jMV(a b:Pt):Q5 (pr a) (pr b)=decide (a=b):=by
 rw[qQ,decide_eq_true_iff];have e:Q5 (pr a) (pr b)=(Q5 (.str a.1) (.str b.1)&&(Q5 (.str a.2) (.str b.2)&&true)):=by
  simp[pr,Q5,PyData.eqvAll]
 rw[e,jJV,jJV,QBP,Qb,decide_eq_true_iff,decide_eq_true_iff];exact⟨fun h=>QCG h.1 h.2,fun h=>by rw[h];exact⟨rfl,rfl⟩⟩
def jIb(es:LSS)(st:List Str):Prop:=(∀s∈st,qi s=true)/\∀e∈es,qi e.1=true/\qi e.2=true
theorem jDW{a b:Str}(h1:qi a=true)(h2:qi b=true):okD (pr (a,b)):=by
 refine⟨?_,?_⟩
 ·simp only[pr,WH,wE,h1,h2,Bool.and_self]
 ·simp only[pr,QAI,w9];decide
theorem jKt:qi "to"=true:=by decide +kernel
theorem jNJ:qi "from"=true:=by decide +kernel
theorem jJ0:qi ""=true/\qi "begin"=true:=by decide +kernel
theorem jPM{es:LSS}{st:List Str}{g:Str}(h:jIb es st){p:Pt}(k:p∈vs0 es st g):okD (pr p):=by
 have k:Key (jAA es st g) p:=jAc.mpr k;rw[jCA]at k;rcases jGC.mp k with z|⟨⟨u,v,c⟩,m,z⟩
 ·rw[QJ.mp (jAc.mp z)]
  exact jDW jJ0.1 jJ0.2
 ·have z:p=u∨p=v:=z
  rcases jCb.mp m with⟨n,mn,_,e|e⟩| ⟨e,me,_,y|y|y⟩
  ·cases e
   rcases z with z|z<;>subst z
   ·exact jDW (h.1 n mn) jKt
   ·exact jDW (h.1 n mn) jNJ
  ·cases e
   rcases z with z|z<;>subst z
   ·exact jDW jJ0.1 jJ0.2
   ·exact jDW (h.1 n mn) jKt
  ·cases y
   rcases z with z|z<;>subst z
   ·exact jDW (h.2 e me).1 jKt
   ·exact jDW (h.2 e me).1 jNJ
  ·cases y
   rcases z with z|z<;>subst z
   ·exact jDW (h.2 e me).2 jKt
   ·exact jDW (h.2 e me).2 jNJ
  ·cases y
   rcases z with z|z<;>subst z
   ·exact jDW (h.2 e me).1 jNJ
   ·exact jDW (h.2 e me).2 jKt
noncomputable def lyS(r:Rm)(kd:List (D×D))(last:D)(th:Pt)(o4:Option Sl):PSt:=[some (.own (jAT r)),some (.bor (.d (.dict kd))),some (.bor (.d last)),some (.bor (.d (pr th))),o4]
section
variable{Ψ:PEv}{Z:PEnds}{q:PT}{r:Rm}{kd:List (D×D)}{last:D}{u v:Pt}
theorem jYc(hk:Key r u)(ha:Adj r u v)(hl:(lk r u).length<sizeLine)(k:pws Ψ (fun _=>False) q Z (lyS (put r u (put (lk r u) v (rm r u v - 1))) kd last v (some (.bor (.d (pr u)))))) :
  pws Ψ (fun _=>False) (.seq (.six (.idx (.var 0) (.var 4)) (.var 3) (.bin .Sub (.idx (.idx (.var 0) (.var 4)) (.var 3)) (.int 1))) q) Z (lyS r kd last v (some (.bor (.d (pr u))))):=by
 obtain⟨x,hx⟩:=ha;have e:rm r u v=x:=by unfold rm;rw[hx];rfl
 rw[e]at k;delta lyS at k ⊢
 simp_arith[↓jFA]
 refine jCg hk ?_
 simp_arith[↓jOc]
 refine jId hx ?_
 simp_arith[↓jAF]
 refine jEB (jCS hk) fun f hf=>jIm hl ?_;rw[hf];exact k
theorem jYb(hk:Key r v)(ha:Adj r v u)(hl:(lk r v).length<sizeLine)(k:pws Ψ (fun _=>False) q Z (lyS (put r v (put (lk r v) u (rm r v u+1))) kd last v (some (.bor (.d (pr u)))))) :
  pws Ψ (fun _=>False) (.seq (.six (.idx (.var 0) (.var 3)) (.var 4) (.bin .Add (.idx (.idx (.var 0) (.var 3)) (.var 4)) (.int 1))) q) Z (lyS r kd last v (some (.bor (.d (pr u))))):=by
 obtain⟨x,hx⟩:=ha;have e:rm r v u=x:=by unfold rm;rw[hx];rfl
 rw[e]at k;delta lyS at k ⊢
 simp_arith[↓jFA]
 refine jCg hk ?_
 simp_arith[↓jOc]
 refine jId hx ?_
 simp_arith[↓jAF]
 refine jEB (jCS hk) fun f hf=>jIm hl ?_;rw[hf];exact k
end
theorem Base.inn{es:LSS}{st:List Str}{g:Str}{r:Rm}(b:Base es st g r)(p:Pt):(lk r p).length<=(jAA es st g).length:=by
 have:=jDX (ns:=vs0 es st g) (b.ndi p) fun q hq=>by
  obtain⟨e,he,z⟩:=Qg.mp hq;have a:Adj r p q:=jAp.mpr ⟨e.2,by rw[<- z];exact he⟩;exact jAo (jAy ((b.adj p q).mp a))
 unfold vs0 at this;rw[QG,QG]at this;exact this
section
variable{Ψ:PEv}{Z:PEnds}{es:LSS}{st:List Str}{g:Str}
theorem jRI{rs r:Rm}{ks:List Pt}{vs:List D}{th:Pt}{last:D}{o4:Option Sl}{ks0 ks9:List Pt}{vs0' vs9:List D}(hsz:(jAA es st g).length<=1000)(hn:NdI rs)(cf:CF rs ks0 vs0')(ek:ks=ks0++ks9)(ev:vs=vs0'++vs9)(h9:vs9.length=ks9.length)(ht:th∈ks0)(hb:th≠bgn)(lc:LC es st g rs r th ks0)
  (k:∀ks1 vs1 ks8 vs8 p r',CF rs ks1 vs1->ks=ks1++ks8->vs=vs1++vs8->vs8.length=ks8.length->ks1.length<ks0.length->p∈ks1->LC es st g rs r' p ks1->Z.nx (lyS r' (jDG ks vs) last p (some (.bor (.d (pr p)))))) :
  pws Ψ (fun _=>False) jB3 Z (lyS r (jDG ks vs) last th o4):=by
 have hz:sizeLine=16777216:=QW;obtain⟨ks1,vs1,p,ks2,vs2,c1,hp,w,nt,e1,e2⟩:=cf.find ht hb;have l0:=cf.len;have l1:=c1.len;have l2:vs2.length=ks2.length:=by
  rw[e1,e2,QM,QM,QL,QL]at l0
  omega
 have ek':ks=ks1++th::(ks2++ks9):=by rw[ek,e1,qq];rfl
 have ev':vs=vs1++pr p::(vs2++vs9):=by rw[ev,e2,qq];rfl
 obtain⟨pos,lc'⟩:=jRN hn lc ht hb w nt fun q hq=>by rw[e1];exact Qk _ hq
 have a:=lc.adjw pos;have ne:=jJj a;have kp:Key r p:=by rw[jAc,lc.keys];exact jAo a
 have kt:Key r th:=by rw[jAc,lc.keys];exact jAo (jAy a)
 have li:=lc.toBase.inn;have st1:pws Ψ (fun _=>False) (.seq (.set 3 (.var 4)) .nil) Z (lyS (psh r p th) (jDG ks vs) last th (some (.bor (.d (pr p))))):=by
  have:=k ks1 vs1 (th::(ks2++ks9)) (pr p::(vs2++vs9)) p (psh r p th) c1 ek' ev' (by rw[QL,QL,QM,QM];omega) (by rw[e1,QM,QL];omega) hp lc';unfold lyS at this;delta lyS
  simp_arith[↓jAF]
  exact this
 have st2:pws Ψ (fun _=>False) (.seq (.six (.idx (.var 0) (.var 4)) (.var 3) (.bin .Sub (.idx (.idx (.var 0) (.var 4)) (.var 3)) (.int 1))) (.seq (.six (.idx (.var 0) (.var 3)) (.var 4) (.bin .Add (.idx (.idx (.var 0) (.var 3)) (.var 4)) (.int 1))) (.seq (.set 3 (.var 4)) .nil))) Z (lyS r (jDG ks vs) last th (some (.bor (.d (pr p))))):=by
  have i1:=li p;have i2:=li th;refine jYc kp ((lc.adj _ _).mpr a) (by omega) (jYb ?_ ?_ ?_ st1)
  ·exact jEf.mpr (.inr kt)
  ·show Adj _ th p
   have:=(lc.adj th p).mpr (jAy a);unfold Adj at this ⊢;rw[jCa,if_neg ne];exact this
  ·rw[jCa,if_neg ne];omega
 unfold lyS at st2;delta lyS;delta jB3
 simp_arith[↓jAF]
 rw[ek',ev']at st2 ⊢;refine jVt l1 (by rw[QM,QM];omega) nt ?_
 simp_arith[↓jAF]
 exact st2
end
noncomputable def jDm:PSp where
 md:=[.chg]
 run:=fun ds Q _=>∃(es:LSS) (st:List Str) (g:Str) (rs:Rm) (ks:List Pt) (vs:List D),ds=[jAT rs,.d (.dict (jDG ks vs)),.d (pr (tO g))]/\((jAA es st g).length<=1000/\jIb es st/\Flow es st g rs/\CF rs ks vs/\tO g∈ks)/\∀r',Flow es st g r'->out es st g r' bgn=out es st g rs bgn+1->Q (.d .none) [jAT r']
 mono:=fun h _ z=>by obtain⟨es,st,g,rs,ks,vs,e,l,q⟩:=z;exact⟨es,st,g,rs,ks,vs,e,l,fun r' a b=>h _ _ (q r' a b)⟩
theorem jQF{es:LSS}{st:List Str}{g:Str}{rs:Rm}{ks:List Pt}{vs:List D}{K:T->List T->Prop}{E:XE}(h1:(jAA es st g).length<=1000)(h2:jIb es st)(h3:Flow es st g rs)(h4:CF rs ks vs)(h5:tO g∈ks)(q:∀r',Flow es st g r'->out es st g r' bgn=out es st g rs bgn+1->K (.d .none) [jAT r']):jFF jDm [jAT rs,.d (.dict (jDG ks vs)),.d (pr (tO g))] K E:=⟨es,st,g,rs,ks,vs,rfl,⟨h1,h2,h3,h4,h5⟩,q⟩
theorem jTP{Ψ:PEv}(hB:Ψ.va "BEGIN"=some (pr bgn))(ds Q E)(h:jDm.run ds Q E):ds.length=jCD.length/\pws Ψ (fun _=>False) jCp (jAx jDm jCD.length Q) (jAH jFC jDm.md ds):=by
 obtain⟨es,st,g,rs,ks,vs,rfl,⟨h1,h2,fl,cf,hg⟩,q⟩:=h;refine jEt [some (.own (jAT rs)),some (.bor (.d (.dict (jDG ks vs)))),some (.bor (.d (pr (tO g)))),none,none] rfl rfl rfl ?_;delta jCp
 simp_arith[↓jAF]
 refine jFp (fun m ρ=>∃r ks0 vs0' ks9 vs9 th o4,m=ks0.length/\CF rs ks0 vs0'/\ks=ks0++ks9/\vs=vs0'++vs9/\vs9.length=ks9.length/\th∈ks0/\LC es st g rs r th ks0/\ρ=lyS r (jDG ks vs) (pr (tO g)) th o4) ks.length ⟨rs,ks,vs,[],[],tO g,_,rfl,cf,by rw[wH],by rw[wH],rfl,hg,jN3 fl ks,rfl⟩ ?_;rintro m ρ ⟨r,ks0,vs0',ks9,vs9,th,o4,em,c0,ek,ev,h9,ht,lc,rfl⟩;have okt:okD (pr th):=jPM h2 (by
  have:=jES fl.toBase.dom fl.toBase.bg (c0.rch th ht);rw[jAc,fl.keys]at this;exact this)
 have okb:okD (pr bgn):=jDW jJ0.1 jJ0.2;have hcmp:∀L:Bool->Prop,L (!decide (th=bgn))->jDz .NotEq (.d (pr th)) (.d (pr bgn)) L:=fun L l=>by
  show okD (pr th)/\okD (pr bgn)/\L (!PyData.eqv (pr th) (pr bgn));rw[jMV];exact⟨okt,okb,l⟩
 by_cases e:th=bgn
 ·subst e
  delta lyS
  simp_arith[↓jFK hB]
  refine hcmp _ ?_;rw[dT rfl];obtain⟨f1,f2⟩:=jTj lc;exact q r f1 f2
 ·have hp:=fun(Z:PEnds) hz=>jRI (Ψ:=Ψ) (Z:=Z) (last:=pr (tO g)) (o4:=o4) h1 fl.ndi c0 ek ev h9 ht e lc hz
  unfold lyS at hp;delta lyS
  simp_arith[↓jFK hB]
  refine hcmp _ ?_;rw[dF e];refine hp _ fun ks1 vs1 ks8 vs8 p r' a1 a2 a3 a4 a5 a6 a7=>⟨ks1.length,by omega,r',ks1,vs1,ks8,vs8,p,_,rfl,a1,a2,a3,a4,a6,a7,rfl⟩
theorem jOh{l:Inn}{W:List T->Prop}:itV .val [(jDw l,false)] W=W ((l.map fun e=>pr e.1).map T.d):=jJI _ _
theorem jSJ{kvs:List (D×D)}{n:Bool}{W:List T->Prop}(h:jCH kvs=some true):itV .val [(.d (.dict kvs),n)] W=W ((kvs.map (·.1)).map T.d):=by
 unfold itV jDK;rw[jAK];show jBP .val [jA5 kvs] W=_;unfold jA5;rw[h];exact jJI _ _
theorem jUw{Ψ:PEv}{E:XE}{ρ:PSt}{a b elt:PX}{t:Str}{x:T}{R:Option T->Prop}:jKH Ψ E [] [t] (.nm 0) (.and a b) elt ρ x R=peT Ψ (.and a b) E (some (.bor x)::lockA ρ) fun k ρ2=>if k=true then peE Ψ elt E ρ2 fun y n _=>jFE y n (R (some y)) else R none:=rfl
theorem jNA{p:Pt}{n m:Bool}{R:T->Prop}:jFD (.d (pr p)) n (.d (.int 0)) m R=R (.d (.str p.1)):=by
 delta pr;rw[jVg,jWt,jB5]
theorem jVs{p:Pt}{n m:Bool}{R:T->Prop}:jFD (.d (pr p)) n (.d (.int 1)) m R=R (.d (.str p.2)):=by
 delta pr;rw[jVg,jY3,jB5]
theorem jSw{a:Str}:(T.d (.tuple [.str a,.str "from"]))=.d (pr (fR a)):=rfl
theorem jQT{a:Str}:(T.d (.tuple [.str a,.str "to"]))=.d (pr (tO a)):=rfl
noncomputable def jA6:PSp where
 md:=[.bor]
 run:=fun ds Q _=>∃(es:LSS) (st:List Str) (g:Str) (r:Rm) (n:Str),ds=[jAT r,.d (.str n)]/\((jAA es st g).length<=1000/\Flow es st g r/\thr r n=1)/\∀m,Nxt r n m->Q (.d (.str m)) []
 mono:=fun h _ z=>by obtain⟨es,st,g,r,n,e,l,q⟩:=z;exact⟨es,st,g,r,n,e,l,fun m a=>h _ _ (q m a)⟩
theorem jJ1{es:LSS}{st:List Str}{g:Str}{r:Rm}{n:Str}{K:T->List T->Prop}{E:XE}(h1:(jAA es st g).length<=1000)(h2:Flow es st g r)(h3:thr r n=1)(q:∀m,Nxt r n m->K (.d (.str m)) []):jFF jA6 [jAT r,.d (.str n)] K E:=⟨es,st,g,r,n,rfl,⟨h1,h2,h3⟩,q⟩
theorem jLh{Ψ:PEv}(ds Q E)(h:jA6.run ds Q E):ds.length=jBf.length/\pws Ψ (fun _=>False) jB2 (jAx jA6 jBf.length Q) (jAH jDF jA6.md ds):=by
 obtain⟨es,st,g,r,n,rfl,⟨h1,fl,ht⟩,q⟩:=h;have hz:sizeLine=16777216:=QW;have hi:=fl.toBase.inn (fR n);obtain⟨m0,nx⟩:=jTS fl ht;have a0:Adj r (fR n) (tO m0):=(fl.adj _ _).mpr (jAy (fl.toBase.adjw nx.2));have kf:Key r (fR n):=by rw[jAc,fl.keys];exact jAo ((fl.adj _ _).mp a0)
 refine jAV [some (.bor (jAT r)),some (.bor (.d (.str n))),none] rfl rfl rfl ?_;delta jB2
 simp_arith[jSw,↓jFA]
 refine⟨by omega,jCg kf ?_⟩
 simp_arith[↓jR4,↓jOh]
 have e0:((lk r (fR n)).map fun e=>pr e.1).map T.d=((lk r (fR n)).map (·.1)).map fun p=>T.d (pr p):=by rw[Qq,Qq];rfl
 rw[e0];refine jAi (fun p=>T.d (pr p)) (fun(p:Pt)=>T.d (.str p.1)) (fun p=>!decide (p.1=n)&&decide (0<rm r p (fR n))) ((lk r (fR n)).map (·.1)) [] _ (fun x hx R hR=>?_) (by show 0+((lk r (fR n)).map (·.1)).length<=_;rw[QG];omega) ?_
 ·obtain⟨e,he,ee⟩:=Qg.mp hx
  have ax:Adj r (fR n) x:=jAp.mpr ⟨e.2,by rw[<- ee];exact he⟩;have ax':Adj r x (fR n):=(fl.adj _ _).mpr (jAy ((fl.adj _ _).mp ax));have kx:Key r x:=by rw[jAc,fl.keys];exact jAo ((fl.adj _ _).mp ax')
  obtain⟨v,hv⟩:=ax';have ev:rm r x (fR n)=v:=by unfold rm;rw[hv];rfl
  rw[ev]at hR
  simp_arith[↓jUw,↓jNA,↓jFA]
  by_cases c:x.1=n
  ·rw[dT c]at hR ⊢
   exact hR
  ·rw[dF c]at hR ⊢
   simp only[WF,↓reduceIte];refine jCg kx ?_
   simp_arith[↓jOc]
   refine jId hv ?_
   simp_arith[↓jNA]
   by_cases d:0<v
   ·rw[dT d]at hR ⊢
    exact hR
   ·rw[dF d]at hR ⊢
    exact hR
 ·have hm:tO m0∈((lk r (fR n)).map (·.1)).filter fun p=>!decide (p.1=n)&&decide (0<rm r p (fR n)):=by
   obtain⟨v,hv⟩:=a0;refine Qj.mpr ⟨Qg.mpr ⟨_,jDZ hv,rfl⟩,?_⟩;rw[dF (show ¬ (tO m0).1=n from fun z=>nx.1 z.symm),dT nx.2]
   rfl
  cases ef:((lk r (fR n)).map (·.1)).filter fun p=>!decide (p.1=n)&&decide (0<rm r p (fR n)) with
  |nil=>rw[ef]at hm;exact(nomatch hm)
  |cons y ys =>
   have hy:y∈((lk r (fR n)).map (·.1)).filter fun p=>!decide (p.1=n)&&decide (0<rm r p (fR n)):=by rw[ef];exact QF
   have hy2:=(Qj.mp hy).2;rw[Qb,Qs,decide_eq_false_iff_not,decide_eq_true_iff]at hy2;obtain⟨m,rfl⟩:=jTV fl.toBase ((fl.adj _ _).mpr (fl.toBase.adjw hy2.2));rw[qD,jBH (fun p:Pt=>PyData.str p.1)]
   simp_arith[↓jAF]
   rw[QR,jWt]
   simp_arith[↓jAF]
   exact q m ⟨fun z=>hy2.1 z.symm,hy2.2⟩
noncomputable def jBX:PSp where
 md:=[.bor]
 run:=fun ds Q _=>∃(es:LSS) (st:List Str) (g:Str) (r:Rm) (f:Str),ds=[jAT r,.d (.str f),.d (.str g)]/\((jAA es st g).length<=1000/\Flow es st g r/\Fst r f)/\∀c,Run r g f c g->Q (.lst ((c.map PyData.str).map T.d)) []
 mono:=fun h _ z=>by obtain⟨es,st,g,r,n,e,l,q⟩:=z;exact⟨es,st,g,r,n,e,l,fun m a=>h _ _ (q m a)⟩
theorem jK3{es:LSS}{st:List Str}{g:Str}{r:Rm}{f:Str}{K:T->List T->Prop}{E:XE}(h1:(jAA es st g).length<=1000)(h2:Flow es st g r)(h3:Fst r f)(q:∀c,Run r g f c g->K (.lst ((c.map PyData.str).map T.d)) []):jFF jBX [jAT r,.d (.str f),.d (.str g)] K E:=⟨es,st,g,r,f,rfl,⟨h1,h2,h3⟩,q⟩
theorem jSf{es:LSS}{st:List Str}{g:Str}{r:Rm}(fl:Flow es st g r){f:Str}(hf:Fst r f){c:List Str}{n:Str}(h:Run r g f c n):(∀x∈c,tO x∈vs0 es st g)/\tO n∈vs0 es st g:=by
 induction h with
 |nil=>exact⟨fun x hx=>(nomatch hx),(jF4 fl.toBase hf).1⟩
 |go _ _ nx ih =>
  refine⟨fun x hx=>?_,(jF4 fl.toBase nx.2).1⟩;rcases Qd.mp hx with z|z
  ·exact ih.1 x z
  ·rw[QJ.mp z];exact ih.2
theorem jK2{es:LSS}{st:List Str}{g:Str}{r:Rm}(fl:Flow es st g r){f:Str}(hf:Fst r f){c:List Str}{n:Str}(h:Run r g f c n):c.length<=(jAA es st g).length:=by
 have nd:=(h.nd fl hf).1;have:=jDX (ks:=c.map tO) (ns:=vs0 es st g) (Wg tO (fun a b ne z=>ne (jAt z)) nd) fun p hp=>by
  obtain⟨x,hx,e⟩:=Qg.mp hp;rw[<- e];exact(jSf fl hf h).1 x hx
 unfold vs0 at this;rw[QG,QG]at this;exact this
noncomputable def chS(r:Rm)(f g:Str)(c:List Str)(n:Str):PSt:=[some (.bor (jAT r)),some (.bor (.d (.str f))),some (.bor (.d (.str g))),some (.own (.lst ((c.map PyData.str).map T.d))),some (.bor (.d (.str n)))]
theorem jRs{Ψ:PEv}{Z:PEnds}(h1:Ψ.sp "name_behind"=jA6){es:LSS}{st:List Str}{g:Str}{r:Rm}{f:Str}{c:List Str}{n:Str}(hs:(jAA es st g).length<=1000)(fl:Flow es st g r)(ht:thr r n=1)(hl:c.length<=1000)(k:∀m,Nxt r n m->Z.nx (chS r f g (c++[n]) m)) :
  pws Ψ (fun _=>False) jBi Z (chS r f g c n):=by
 have hz:sizeLine=16777216:=QW;delta chS at k ⊢;delta jBi
 simp_arith[↓jJo,↓jAS (md:=[.bor]) h1 rfl rfl]
 refine⟨by rw[QG,QG];omega,jJ1 hs fl ht fun m nx=>?_⟩;have:=k m nx;rw[Qe,Qe]at this
 simp_arith[↓jAF]
 exact this
theorem jNn{Ψ:PEv}(h1:Ψ.sp "name_behind"=jA6)(ds Q E)(h:jBX.run ds Q E):ds.length=jBw.length/\pws Ψ (fun _=>False) jCO (jAx jBX jBw.length Q) (jAH jD2 jBX.md ds):=by
 obtain⟨es,st,g,r,f,rfl,⟨hs,fl,hf⟩,q⟩:=h;have hz:sizeLine=16777216:=QW;refine jAV [some (.bor (jAT r)),some (.bor (.d (.str f))),some (.bor (.d (.str g))),none,none] rfl rfl rfl ?_;delta jCO
 simp_arith[↓jAF]
 refine⟨qG _,jFp (fun m ρ=>∃c n,m+c.length=1001/\Run r g f c n/\ρ=chS r f g c n) 1001 ⟨[],f,rfl,.nil,rfl⟩ ?_⟩;rintro m ρ ⟨c,n,em,rn,rfl⟩;have hl:=jK2 fl hf rn;by_cases e:n=g
 ·subst e
  delta chS
  simp_arith[↓jAF]
  exact q c rn
 ·have hp:=fun(Z:PEnds) hz=>jRs (Ψ:=Ψ) (Z:=Z) (f:=f) (g:=g) (c:=c) h1 hs fl (rn.thr1 fl hf e) (by omega) hz
  unfold chS at hp;delta chS
  simp_arith[↓jAF]
  rw[dF e];refine hp _ fun m' nx=>?_;have rn':=rn.go e nx;have hl':=jK2 fl hf rn';rw[QM,Ql]at hl';exact⟨m - 1,by omega,c++[n],m',by rw[QM,Ql];omega,rn',rfl⟩
theorem jUQ{ks:List Pt}{vs:List D}{q:Pt}{L:Bool->Prop}(hv:vs.length=ks.length)(hb:bgn∈ks):jDz .NotIn (.d (pr q)) (.d (.dict (jDG ks vs))) L=L (!decide (q∈ks)):=by
 show(∃b,jCH (jDG ks vs)=some b/\jFH b (pr q)/\L (!(jAG ((jDG ks vs).map (·.1)) (pr q)).isSome))=_;rw[jEI hv hb,jGO hv,jGH];exact propext ⟨fun⟨_,_,_,h⟩=>h,fun h=>⟨true,rfl,jBb q,h⟩⟩
theorem jUY{ks:List Pt}{vs:List D}{q:Pt}{L:Bool->Prop}(hv:vs.length=ks.length)(hb:bgn∈ks):jDz .In (.d (pr q)) (.d (.dict (jDG ks vs))) L=L (decide (q∈ks)):=by
 show(∃b,jCH (jDG ks vs)=some b/\jFH b (pr q)/\L (jAG ((jDG ks vs).map (·.1)) (pr q)).isSome)=_;rw[jEI hv hb,jGO hv,jGH];exact propext ⟨fun⟨_,_,_,h⟩=>h,fun h=>⟨true,rfl,jBb q,h⟩⟩
theorem jWV{ss:List Str}{n:Bool}{Q:T->Bool->Prop}(h64:ss.length<64)(q:∀ss':List Str,ss'.Perm ss->sortedS ss'=true->Q (.lst ((ss'.map PyData.str).map T.d)) true):biV .sorted [(.lst ((ss.map PyData.str).map T.d),n)] Q:=by
 unfold biV jDK;rw[jCF];exact .inl ⟨_,ss,rfl,jAN _,h64,q⟩
theorem jWW{ls:List (List Str)}{n:Bool}{Q:T->Bool->Prop}(h64:ls.length<64)(q:∀ls':List (List Str),ls'.Perm ls->Q (.lst ((ls'.map jBs).map T.d)) true):biV .sorted [(.d (.list (ls.map jBs)),n)] Q:=by
 unfold biV jDK;rw[jAK];exact .inr ⟨_,ls,rfl,jAN _,h64,q⟩
noncomputable def jKW(ks:List Pt):List Str:=(ks.filter (jHI ks)).map fun p=>p.1
noncomputable def jCh:PSp where
 md:=[]
 run:=fun ds Q _=>∃(ks:List Pt) (vs:List D),ds=[.d (.dict (jDG ks vs))]/\(vs.length=ks.length/\bgn∈ks/\ks.length<=1000/\(ks.filter (jHI ks)).length<64)/\∀cut:List Str,cut.Perm (jKW ks)->sortedS cut=true->Q (.lst ((cut.map PyData.str).map T.d)) []
 mono:=fun h _ z=>by obtain⟨ks,vs,e,l,q⟩:=z;exact⟨ks,vs,e,l,fun m a b=>h _ _ (q m a b)⟩
theorem jNP{ks:List Pt}{vs:List D}{K:T->List T->Prop}{E:XE}(h1:vs.length=ks.length)(h2:bgn∈ks)(h3:ks.length<=1000)(h4:(ks.filter (jHI ks)).length<64)(q:∀cut:List Str,cut.Perm (jKW ks)->sortedS cut=true->K (.lst ((cut.map PyData.str).map T.d)) []):jFF jCh [.d (.dict (jDG ks vs))] K E:=⟨ks,vs,rfl,⟨h1,h2,h3,h4⟩,q⟩
theorem jQv{Ψ:PEv}(ds Q E)(h:jCh.run ds Q E):ds.length=jBv.length/\pws Ψ (fun _=>False) jCN (jAx jCh jBv.length Q) (jAH jD1 jCh.md ds):=by
 obtain⟨ks,vs,rfl,⟨hv,hb,h3,h4⟩,q⟩:=h;have hz:sizeLine=16777216:=QW;refine jAV [some (.bor (.d (.dict (jDG ks vs))))] rfl rfl rfl ?_;delta jCN
 simp_arith[↓jSJ (jEI hv hb),jGO hv]
 rw[<- jBH];refine jAi (fun p=>T.d (pr p)) (fun(p:Pt)=>T.d (.str p.1)) (jHI ks) ks [] _ (fun x hx R hR=>?_) (by show 0+ks.length<=_;omega) ?_
 ·have hR:R (if(decide (x.2="to")&&!decide (fR x.1∈ks))=true then some (T.d (.str x.1)) else none):=hR
  simp_arith[↓jUw,↓jNA,↓jVs,jSw,↓jUQ hv hb]
  by_cases c:x.2="to"
  ·rw[dT c]at hR ⊢
   refine⟨by omega,?_⟩;by_cases d:fR x.1∈ks
   ·rw[dT d]at hR ⊢
    exact hR
   ·rw[dF d]at hR ⊢
    exact hR
  ·rw[dF c]at hR ⊢
   exact hR
 ·rw[qD,jBH (fun p:Pt=>PyData.str p.1),show((ks.filter (jHI ks)).map fun p=>PyData.str p.1)=(jKW ks).map PyData.str by unfold jKW;rw[Qq];rfl]
  refine jWV (by unfold jKW;rw[QG];exact h4) fun ss' p1 p2=>?_
  simp_arith[↓jAF]
  exact q ss' p1 p2
theorem jMP{es:LSS}{st:List Str}{g:Str}{r:Rm}(f:Flow es st g r):(((lk r bgn).map (·.1)).filter fun y=>decide (0<rm r y bgn)).length<=st.length:=by
 have hn:∀y∈((lk r bgn).map (·.1)).filter (fun y=>decide (0<rm r y bgn)),y=tO y.1/\Fst r y.1:=fun y hy=>by
  have h:=of_decide_eq_true (Qj.mp hy).2;obtain⟨n,rfl⟩:=jRA f.toBase ((f.adj _ _).mpr (f.toBase.adjw h));exact⟨rfl,h⟩
 have nd:(((lk r bgn).map (·.1)).filter fun y=>decide (0<rm r y bgn)).Nodup:=(f.ndi bgn).sublist qK;have:=jFY (ks:=(((lk r bgn).map (·.1)).filter fun y=>decide (0<rm r y bgn)).map (·.1)) (ns:=st) (by
  refine Wg _ (fun a b h=>h) (WS (fun {a b} ha hb ne z=>?_) nd);exact ne (by rw[(hn a ha).1,(hn b hb).1,z])) fun s hs=>by
  obtain⟨y,hy,e⟩:=Qg.mp hs;rw[<- e];exact(jFe f.toBase (hn y hy).2).1
 rw[QG]at this;exact this
theorem jHJ{α β:Type}{body:T->(Option T->Prop)->Prop}(P:α->β->Prop)(g:α->T)(f:β->T):∀(l:List α) (acc:List T) (Q:List T->Prop),(∀x∈l,∀R:Option T->Prop,(∀y,P x y->R (some (f y)))->body (g x) R)->acc.length+l.length<=sizeLine->(∀ys,Paired P l ys->Q (acc++ys.map f))->jCm body (l.map g) acc Q
 |[],acc,Q,_,hl,q=>by
  have:=q [] .nil;rw[w8,wH]at this;exact⟨by rw[Qi]at hl;omega,this⟩
 |x::r,acc,Q,hb,hl,q=>by
  rw[QL]at hl;refine hb x QF _ fun y hy=>⟨by omega,?_⟩
  refine jHJ P g f r _ Q (fun z hz=>hb z (QE _ hz)) (by rw[QM,Ql];omega) fun ys hp=>?_;have:=q (y::ys) (.cons hy hp);rw[QR]at this;rw[qq];exact this
theorem jVQ{Ψ:PEv}{E:XE}{r:PT}{Z:PEnds}{i:Nat}{ρ:PSt}{ks:List Pt}{vs:List D}:jNN Ψ E r Z i (cam ks vs) true ρ=pws Ψ E r Z (ρ.set i (some (.bor (.d (.dict (jDG ks vs)))))):=by
 unfold jNN;rw[jUN];exact propext ⟨fun h=>h.2,fun h=>⟨rfl,h⟩⟩
noncomputable def chT(c:List Str):T:=.lst ((c.map PyData.str).map T.d)
theorem jUL(cs:List (List Str)):jC8 (cs.map chT)=cs.map jBs:=by
 rw[jII,Qq]
 congr 1
 funext c
 show PyData.list (jC8 ((c.map PyData.str).map T.d))=_;rw[jAe]
 rfl
theorem jZD{Ψ:PEv}{E:XE}{r:PT}{Z:PEnds}{i:Nat}{ρ:PSt}{cs:List (List Str)}:jNN Ψ E r Z i (.lst (cs.map chT)) true ρ=pws Ψ E r Z (ρ.set i (some (.bor (.d (.list (cs.map jBs)))))):=by
 have e:(T.lst (cs.map chT)).er=.list (cs.map jBs):=by
  show PyData.list (jC8 (cs.map chT))=_;rw[jUL]
 unfold jNN;rw[e];exact propext ⟨fun h=>h.2,fun h=>⟨rfl,h⟩⟩
theorem jWb{a b:List T}:jF9 [.lst a,.lst b]=.tup [.lst a,.lst b]:=rfl
theorem jE6:∀{cs:List (List Str)},jIc cs↔cs.Pairwise fun c d=>∀x∈c,x∉d
 |[]=>⟨fun _=>.nil,fun _=>trivial⟩
 |c::cs=>by
  rw[QAL,<- jE6];exact WY
theorem jKS{cs ds:List (List Str)}(h:ds.Perm cs)(a:jIc cs):jIc ds:=jE6.mpr ((h.pairwise_iff (fun {a b} z x hx hy=>z x hy hx)).mpr (jE6.mp a))
structure Good(es:LSS)(st:List Str)(g:Str)(cs:List (List Str))(cut:List Str):Prop where
 chn:∀c∈cs,Chn es st g c g/\c.Nodup/\∀x∈c,x≠g
 apart:jIc cs
 len:cs.length=cut.length
 few:cut.length<=11
 nd:cut.Nodup
 srt:sortedS cut=true
 ng:g∉cut
 led:¬ ∃a,(a,g)∈es/\Led es st g cut a
 okn:∀s∈cut,qi s=true
section
variable{es:LSS}{st:List Str}{g:Str}{r:Rm}
theorem jFS(f:Flow es st g r):∀{fs:List Str}{cs:List (List Str)},fs.Nodup->(∀s∈fs,Fst r s)->Paired (fun s c=>Run r g s c g) fs cs->jIc cs/\(∀c∈cs,∃s∈fs,Run r g s c g)
 |_,_,_,_,.nil=>⟨trivial,fun _ h=>(nomatch h)⟩
 |s::fs,c::cs,nd,hf,.cons h t=>by
  obtain⟨n1,n2⟩:=Qf.mp nd;obtain⟨a1,a2⟩:=jFS f n2 (fun s hs=>hf s (QE _ hs)) t;refine⟨⟨fun d hd x hx hy=>?_,a1⟩,fun d hd=>?_⟩
  ·obtain⟨s',hs',r'⟩:=a2 d hd
   have:=Run.apart f (hf s QF) (hf s' (QE _ hs')) h r' x hx hy;exact n1 (this▸hs')
  ·rcases QK.mp hd with z|z
   ·rw[z];exact⟨s,QF,h⟩
   ·obtain⟨s',hs',r'⟩:=a2 d z
    exact⟨s',QE _ hs',r'⟩
noncomputable def fsP(r:Rm):List Pt:=((lk r bgn).map fun e=>e.1).filter fun y=>decide (0<rm r y bgn)
noncomputable def fsN(r:Rm):List Str:=(fsP r).map fun p=>p.1
theorem jRd(f:Flow es st g r):∀y∈fsP r,y=tO y.1/\Fst r y.1:=fun y hy=>by
 have h:=of_decide_eq_true (Qj.mp hy).2;obtain⟨n,rfl⟩:=jRA f.toBase ((f.adj _ _).mpr (f.toBase.adjw h));exact⟨rfl,h⟩
theorem jWh(f:Flow es st g r):(fsN r).Nodup:=by
 have nd:(fsP r).Nodup:=(f.ndi bgn).sublist qK;refine Wg _ (fun a b h=>h) (WS (fun {a b} ha hb ne z=>?_) nd);exact ne (by rw[(jRd f a ha).1,(jRd f b hb).1,z])
theorem jMQ(f:Flow es st g r):∀s∈fsN r,Fst r s:=fun s hs=>by
 obtain⟨y,hy,e⟩:=Qg.mp hs;rw[<- e];exact(jRd f y hy).2
theorem jFf(f:Flow es st g r):out es st g r bgn=(fsN r).length/\(fsN r).length<=st.length:=by
 have h1:=jRc f;have h2:=jMP f;unfold fsN;rw[QG];exact⟨h1,h2⟩
theorem jFW{α β:Type}{P:α->β->Prop}{l:List α}{m:List β}(h:Paired P l m):l.length=m.length:=qS h
theorem jRa(f:Flow es st g r)(hn:jIb es st)(h11:st.length<=11){ks:List Pt}{vs:List D}(cf:CF r ks vs)(hk:∀p,p∈ks↔Rch r p)(hg:tO g∉ks){cs ds:List (List Str)}(hp:Paired (fun s c=>Run r g s c g) (fsN r) cs)(pd:ds.Perm cs){cut:List Str}(pc:cut.Perm (jKW ks))(sc:sortedS cut=true):Good es st g ds cut:=by
 obtain⟨a1,a2⟩:=jFS f (jWh f) (jMQ f) hp;obtain⟨l1,l2⟩:=jFf f;have l3:=jJY f cf.nd hk hg;have l4:(jKW ks).length=(ks.filter (jHI ks)).length:=by unfold jKW;rw[QG]
 have l5:=jFW hp;have inK:∀s,s∈jKW ks↔tO s∈ks/\fR s∉ks:=fun s=>by
  unfold jKW;rw[Qg];constructor
  ·rintro⟨y,hy,e⟩
   obtain⟨h1,h2⟩:=Qj.mp hy;obtain⟨n,e2,h3⟩:=jCK.mp h2;subst e2;have e:n=s:=e;subst e;exact⟨h1,h3⟩
  ·rintro⟨h1,h2⟩
   exact⟨tO s,Qj.mpr ⟨h1,jCK.mpr ⟨s,rfl,h2⟩⟩,rfl⟩
 have ndc:(jKW ks).Nodup:=by
  unfold jKW;refine Wg _ (fun a b h=>h) (WS (fun {a b} ha hb ne z=>?_) (cf.nd.sublist (qK (p:=jHI ks))));obtain⟨n,e1,_⟩:=jCK.mp (Qj.mp ha).2;obtain⟨m,e2,_⟩:=jCK.mp (Qj.mp hb).2;subst e1 e2;have z:n=m:=z;exact ne (by rw[z])
 have pl:=pc.length_eq;refine⟨fun c hc=>?_,jKS pd a1,by rw[pd.length_eq,pl];omega,by omega,pc.nodup_iff.mpr ndc,sc,fun z=>hg ((inK g).mp (pc.mem_iff.mp z)).1,?_,fun s hs=>?_⟩
 ·obtain⟨s,hs,rn⟩:=a2 c (pd.mem_iff.mp hc)
  have hf:=jMQ f s hs;exact⟨rn.chn f hf,(rn.nd f hf).1,rn.ng⟩
 ·exact jRn f hk hg fun n h1 h2=>pc.mem_iff.mpr ((inK n).mpr ⟨h1,h2⟩)
 ·have h1:=((inK s).mp (pc.mem_iff.mp hs)).1
  have h2:=jAc.mp (jES f.toBase.dom f.toBase.bg ((hk _).mp h1));rw[f.keys]at h2;have h3:=(jPM hn h2).1;simp only[pr,tO,WH,wE,Qb]at h3;exact h3.1
end
noncomputable def apS(es:LSS)(st:List Str)(g:Str)(r:Rm)(kd:List (D×D))(o5 o6:Option Sl):PSt:=[some (.bor (.d (.list (es.map pr)))),some (.bor (.d (.list (st.map PyData.str)))),some (.bor (.d (.str g))),some (.own (jAT r)),some (.bor (.d (.dict kd))),o5,o6]
section
variable{Ψ:PEv}{Z:PEnds}{es:LSS}{st:List Str}{g:Str}{r:Rm}
theorem jY8(h1:Ψ.sp "rooms_of"=jBF)(h2:Ψ.sp "points_reached"=jA4){q:PT}(l1:es.length<=126)(l2:st.length<=11)(k:∀ks vs,CF (jAA es st g) ks vs->(∀p,p∈ks↔Rch (jAA es st g) p)->pws Ψ (fun _=>False) q Z (apS es st g (jAA es st g) (jDG ks vs) none none)) :
  pws Ψ (fun _=>False) (.seq (.own 3 (.call "rooms_of" (.acons (.var 0) (.acons (.var 1) (.acons (.var 2) .anil))))) (.seq (.set 4 (.call "points_reached" (.acons (.var 3) .anil))) q)) Z [some (.bor (.d (.list (es.map pr)))),some (.bor (.d (.list (st.map PyData.str)))),some (.bor (.d (.str g))),none,none,none,none]:=by
 have ok:=jF7 (g:=g) l1 l2;delta apS at k
 simp_arith[↓jAS (md:=[]) h1 rfl rfl,↓jAS (md:=[.bor]) h2 rfl rfl]
 refine jGn l1 l2 ?_
 simp_arith[↓jJo,↓jAS (md:=[.bor]) h2 rfl rfl]
 refine jEQ (.inl rfl) ok.dom ok.bg ok.sz.1 fun ks vs hc hk=>?_
 simp_arith[↓jVQ]
 exact k ks vs hc hk
theorem jY7(h2:Ψ.sp "points_reached"=jA4)(h3:Ψ.sp "lay_chain"=jDm){ks:List Pt}{vs:List D}(hs:(jAA es st g).length<=1000)(hn:jIb es st)(f:Flow es st g r)(cf:CF r ks vs)(hg:tO g∈ks)
  (k:∀r' ks' vs',Flow es st g r'->out es st g r' bgn=out es st g r bgn+1->CF r' ks' vs'->(∀p,p∈ks'↔Rch r' p)->Z.nx (apS es st g r' (jDG ks' vs') none none)) :
  pws Ψ (fun _=>False) jBE Z (apS es st g r (jDG ks vs) none none):=by
 have hz:sizeLine=16777216:=QW;delta apS at k ⊢;delta jBE
 simp_arith[jQT,↓jDi (md:=[]) h3 rfl rfl,↓jAS (md:=[.bor]) h2 rfl rfl]
 refine⟨by omega,jQF hs hn f cf hg fun r' f' e=>⟨_,rfl,?_⟩⟩
 simp_arith[↓jJo,↓jAS (md:=[.bor]) h2 rfl rfl]
 refine jEQ (.inl rfl) f'.toBase.dom f'.toBase.bg (by rw[f'.toBase.len];exact hs) fun ks' vs' hc hk=>?_
 simp_arith[↓jVQ]
 exact k r' ks' vs' f' e hc hk
theorem jY6(hB:Ψ.va "BEGIN"=some (pr bgn)){q:PT}{kd:List (D×D)}{o5 o6:Option Sl}(hs:(jAA es st g).length<=1000)(f:Flow es st g r)(k:pws Ψ (fun _=>False) q Z (apS es st g r kd (some (.bor (.d (.list ((fsN r).map PyData.str))))) o6)) :
  pws Ψ (fun _=>False) (.seq (.set 5 (.comp [] ["point"] (.nm 0) .val (.acons (.idx (.var 3) (.glo "BEGIN")) .anil) (.cmp .Gt (.idx (.idx (.var 4) (.var 0)) (.glo "BEGIN")) (.int 0)) (.idx (.var 0) (.int 0)))) q) Z (apS es st g r kd o5 o6):=by
 have hz:sizeLine=16777216:=QW;have hi:=f.toBase.inn bgn;delta apS at k ⊢
 simp_arith[↓jFA,↓jFK hB]
 refine jCg f.toBase.bg ?_
 simp_arith[↓jR4,↓jOh]
 have e0:((lk r bgn).map fun e=>pr e.1).map T.d=((lk r bgn).map fun e=>e.1).map fun p=>T.d (pr p):=by rw[Qq,Qq];rfl
 rw[e0];refine jAi (fun p=>T.d (pr p)) (fun(p:Pt)=>T.d (.str p.1)) (fun y=>decide (0<rm r y bgn)) ((lk r bgn).map fun e=>e.1) [] _ (fun x hx R hR=>?_) (by show 0+((lk r bgn).map fun e=>e.1).length<=_;rw[QG];omega) ?_
 ·obtain⟨e,he,ee⟩:=Qg.mp hx
  have ax:Adj r bgn x:=jAp.mpr ⟨e.2,by rw[<- ee];exact he⟩;have ax':Adj r x bgn:=(f.adj _ _).mpr (jAy ((f.adj _ _).mp ax));have kx:Key r x:=by rw[jAc,f.keys];exact jAo ((f.adj _ _).mp ax')
  obtain⟨v,hv⟩:=ax';have ev:rm r x bgn=v:=by unfold rm;rw[hv];rfl
  rw[ev]at hR
  simp_arith[↓jFA,↓jFK hB]
  refine jCg kx ?_
  simp_arith[↓jOc,↓jFK hB]
  refine jId hv ?_
  simp_arith[↓jNA]
  by_cases d:0<v
  ·rw[dT d]at hR ⊢
   exact hR
  ·rw[dF d]at hR ⊢
   exact hR
 ·rw[qD,jBH (fun p:Pt=>PyData.str p.1)]
  have e1:((((lk r bgn).map fun e=>e.1).filter fun y=>decide (0<rm r y bgn)).map fun p=>PyData.str p.1)=(fsN r).map PyData.str:=by unfold fsN fsP;rw[Qq];rfl
  rw[e1]
  simp_arith[↓jAF]
  exact k
theorem jY5(h4:Ψ.sp "chain_from"=jBX){q:PT}{kd:List (D×D)}{o6:Option Sl}(hs:(jAA es st g).length<=1000)(h11:st.length<=11)(f:Flow es st g r)(k:∀cs,Paired (fun s c=>Run r g s c g) (fsN r) cs->pws Ψ (fun _=>False) q Z (apS es st g r kd (some (.bor (.d (.list ((fsN r).map PyData.str))))) (some (.bor (.d (.list (cs.map jBs))))))) :
  pws Ψ (fun _=>False) (.seq (.set 6 (.comp [] ["first"] (.nm 0) .val (.acons (.var 5) .anil) .nop (.call "chain_from" (.acons (.var 4) (.acons (.var 0) (.acons (.var 3) .anil)))))) q) Z (apS es st g r kd (some (.bor (.d (.list ((fsN r).map PyData.str))))) o6):=by
 have hz:sizeLine=16777216:=QW;have hl:=(jFf f).2;delta apS at k ⊢
 simp_arith[↓jAF]
 rw[<- jBH PyData.str (fsN r)];refine jHJ (fun s c=>Run r g s c g) (fun s=>T.d (.str s)) chT (fsN r) [] _ (fun x hx R hR=>?_) (by show 0+(fsN r).length<=_;omega) fun cs hp=>?_
 ·simp_arith[↓jJo,↓jAS (md:=[.bor]) h4 rfl rfl]
  refine jK3 hs f (jMQ f x hx) fun c rn=>?_
  simp_arith[↓jAF]
  exact hR c rn
 ·rw[qD]
  simp_arith[↓jZD]
  exact k cs hp
end
noncomputable def jBY:PSp where
 md:=[]
 run:=fun ds Q _=>∃(es:LSS) (st:List Str) (g:Str),ds=[.d (.list (es.map pr)),.d (.list (st.map PyData.str)),.d (.str g)]/\(es.length<=126/\st.length<=11/\jIb es st)/\∀cs cut,Good es st g cs cut->Q (.tup [.lst ((cs.map jBs).map T.d),.lst ((cut.map PyData.str).map T.d)]) []
 mono:=fun h _ z=>by obtain⟨es,st,g,e,l,q⟩:=z;exact⟨es,st,g,e,l,fun cs cut a=>h _ _ (q cs cut a)⟩
theorem jK4{es:LSS}{st:List Str}{g:Str}{K:T->List T->Prop}{E:XE}(h1:es.length<=126)(h2:st.length<=11)(h3:jIb es st)(q:∀cs cut,Good es st g cs cut->K (.tup [.lst ((cs.map jBs).map T.d),.lst ((cut.map PyData.str).map T.d)]) []):jFF jBY [.d (.list (es.map pr)),.d (.list (st.map PyData.str)),.d (.str g)] K E:=⟨es,st,g,rfl,⟨h1,h2,h3⟩,q⟩
theorem jNo{Ψ:PEv}(h1:Ψ.sp "rooms_of"=jBF)(h2:Ψ.sp "points_reached"=jA4)(h3:Ψ.sp "lay_chain"=jDm)(h4:Ψ.sp "chain_from"=jBX)(h5:Ψ.sp "full_names"=jCh)(hB:Ψ.va "BEGIN"=some (pr bgn))(ds Q E)(h:jBY.run ds Q E):ds.length=jBM.length/\pws Ψ (fun _=>False) jCe (jAx jBY jBM.length Q) (jAH jCf jBY.md ds):=by
 obtain⟨es,st,g,rfl,⟨l1,l2,hn⟩,q⟩:=h;have hz:sizeLine=16777216:=QW;have hs:(jAA es st g).length<=1000:=(jF7 (g:=g) l1 l2).sz.1;refine jAV [some (.bor (.d (.list (es.map pr)))),some (.bor (.d (.list (st.map PyData.str)))),some (.bor (.d (.str g))),none,none,none,none] rfl rfl rfl ?_;refine jY8 h1 h2 l1 l2 fun ks0 vs0' c0 k0=>?_;have b0:=jFf (jT4 (es:=es) (st:=st) (g:=g));delta apS
 simp_arith[↓jAF]
 refine jFp (fun m ρ=>∃r ks vs,(m:Int)+out es st g r bgn=12/\Flow es st g r/\CF r ks vs/\(∀p,p∈ks↔Rch r p)/\ρ=apS es st g r (jDG ks vs) none none) (12 - out es st g (jAA es st g) bgn).toNat ⟨jAA es st g,ks0,vs0',by omega,jT4,c0,k0,rfl⟩ ?_;rintro m ρ ⟨r,ks,vs,em,f,cf,hk,rfl⟩;have bd:=jFf f;by_cases hg:tO g∈ks
 ·have hp:=fun(Z:PEnds) hz=>jY7 (Ψ:=Ψ) (Z:=Z) h2 h3 hs hn f cf hg hz
  unfold apS at hp;delta apS
  simp_arith[jQT,↓jUY cf.len cf.hb]
  refine⟨by omega,?_⟩;rw[dT hg];refine hp _ fun r' ks' vs' f' e c' k'=>⟨m - 1,?_,r',ks',vs',?_,f',c',k',rfl⟩
  ·have:=jFf f'
   omega
  ·have:=jFf f'
   omega
 ·have hr:pws Ψ (fun _=>False) (.seq (.set 5 (.comp [] ["point"] (.nm 0) .val (.acons (.idx (.var 3) (.glo "BEGIN")) .anil) (.cmp .Gt (.idx (.idx (.var 4) (.var 0)) (.glo "BEGIN")) (.int 0)) (.idx (.var 0) (.int 0)))) (.seq (.set 6 (.comp [] ["first"] (.nm 0) .val (.acons (.var 5) .anil) .nop (.call "chain_from" (.acons (.var 4) (.acons (.var 0) (.acons (.var 3) .anil)))))) (.seq (.ret (.tup (.acons (.bi .sorted (.acons (.var 6) .anil)) (.acons (.call "full_names" (.acons (.var 4) .anil)) .anil)))) .nil))) (eZ Q) (apS es st g r (jDG ks vs) none none):=by
   refine jY6 hB hs f (jY5 h4 hs l2 f fun cs hp=>?_);have lc:=jFW hp;have l3:=jJY f cf.nd hk hg;delta apS
   simp_arith[↓jAS (md:=[]) h5 rfl rfl]
   refine jWW (by omega) fun ds pd=>?_
   simp_arith[↓jAS (md:=[]) h5 rfl rfl]
   refine jNP cf.len cf.hb (QX (cf.le f.toBase.dom f.toBase.bg) (by rw[f.toBase.len];exact hs)) (by omega) fun cut pc sc=>?_
   simp_arith[jWb]
   exact⟨by omega,q ds cut (jRa f hn l2 cf hk hg hp pd pc sc)⟩
  unfold apS at hr;delta apS
  simp_arith[jQT,↓jUY cf.len cf.hb]
  refine⟨by omega,?_⟩;rw[dF hg];exact hr
theorem jQu{s:Str}(h:okT s):qi s=true:=by
 unfold qi;rw[Array.all_eq_true_iff_forall_mem];intro c hc;have:=h.2 c (QA3.mpr hc);exact dT (by omega)
theorem jOg{ns:List Str}{es:LSS}{st:List Str}{g:Str}(w:jE9 ns es st g):jIb es st:=by
 obtain⟨w1,w2,w3,w4,w5,w6,w7⟩:=w;exact⟨fun s hs=>jQu (w2 s (w6 s hs)),fun e he=>⟨jQu (w2 _ (w4 e he).1),jQu (w2 _ (w4 e he).2)⟩⟩
theorem jRh(a b:List D):(T.tup [.lst (a.map T.d),.lst (b.map T.d)]).er=.tuple [.list a,.list b]:=by
 show PyData.tuple [.list (jC8 (a.map T.d)),.list (jC8 (b.map T.d))]=_;rw[jAe,jAe]
section
variable{Ψ:PEv}{E:XE}{ρ:PSt}{a b:PX}{K:T->Bool->PSt->Prop}{n m:Bool}{Q:T->Bool->Prop}{L:Bool->Prop}{ds:List D}{Z:PEnds}{r:PT}{i:Nat}
theorem jPi:peE Ψ (.lset a) E ρ K=peE Ψ a E ρ fun x n ρ1=>jN1 (jAU x n).vw fun z k=>K z k ρ1:=rfl
theorem jVU:peE Ψ (.sset a) E ρ K=peE Ψ a E ρ fun x n ρ1=>jNI (jAU x n).vw fun z k=>K z k ρ1:=rfl
theorem jZE:peE Ψ (.neg (.int 1)) E ρ K=K (.d (.int (-1))) false ρ:=propext ⟨fun⟨_,e,q⟩=>by cases e;exact q,fun q=>⟨1,rfl,q⟩⟩
theorem jY9{t:T}:jGY .Add (.d (.list ds)) n t m Q=jGY .Add (.lst (ds.map T.d)) false t m Q:=by unfold jGY;rw[jAK];rfl
theorem jWy:jNN Ψ E r Z i (.lst []) true ρ=pws Ψ E r Z (ρ.set i (some (.bor (.d (.list []))))):=K_l (ds:=[])
theorem jYs{x:Str}:jVk (.bty x "list") (.d (.list ds)) L=L true:=jXj rfl rfl
theorem jWo{b c:Bool}:jDz .Is (.d (.bool b)) (.d (.bool c)) L=L (decide (b=c)):=propext ⟨fun⟨_,_,e1,e2,q⟩=>by cases e1;cases e2;exact q,fun q=>⟨b,c,rfl,rfl,q⟩⟩
theorem jPI{α:Type}{l:List α}(q:Q (.d (.bool true)) false):biV .all [(.lst ((l.map fun _=>PyData.bool true).map T.d),n)] Q:=by
 unfold biV jDK;rw[jCF];refine⟨_,l.map fun _=>true,rfl,by rw[jAN,Qq];rfl,?_⟩;rw[QBt];show Q (.d (.bool (l.all fun _=>true))) false;rw[qM.mpr fun _ _=>rfl];exact q
theorem jTY{α:Type}{l:List α}(q:Q (.d (.bool false)) false):biV .any [(.lst ((l.map fun _=>PyData.bool false).map T.d),n)] Q:=by
 rw[jWX];refine⟨l.map fun _=>false,by rw[Qq];rfl,?_⟩;rw[QBv];show Q (.d (.bool (l.any fun _=>false))) false;rw[QAQ.mpr fun _ _=>QC];exact q
theorem jL0{ss:List Str}(h:ss.length<4000)(nd:ss.Nodup)(q:Q (.d (.int ss.length)) false):jN1 (jAU (.d (.list (ss.map PyData.str))) n).vw Q:=by
 rw[jAK];refine⟨_,ss,rfl,jAN _,h,fun zs hz hm=>?_⟩;rw[Nat.le_antisymm (jFY hz fun s=>(hm s).mp) (jFY nd fun s=>(hm s).mpr)];exact q
theorem jK6:∀{l:List Str}{p:Str},risingS p l=true->(p::l).Pairwise fun a b=>a.cps.toList<=b.cps.toList
 |[],p,_=>List.pairwise_singleton _ _
 |x::r,p,h=>by
  obtain⟨h1,h2⟩:=jAE h;have ih:=jK6 h2;rw[Qs,ltCps_eq,decide_eq_false_iff_not]at h1;have h1:=List.not_lt.mp h1;refine QAL.mpr ⟨fun y hy=>?_,ih⟩;rcases QK.mp hy with rfl|hy
  ·exact h1
  ·exact List.le_trans h1 ((QAL.mp ih).1 y hy)
theorem jOq{l:List Str}(h:sortedS l=true):l.Pairwise fun a b=>a.cps.toList<=b.cps.toList:=by
 cases l with
 |nil=>exact .nil
 |cons x r=>exact jK6 h
theorem jSU{a b:Str}(h:a.cps.toList=b.cps.toList):a=b:=by
 obtain⟨⟨a⟩⟩:=a;obtain⟨⟨b⟩⟩:=b;cases h
 rfl
theorem jP5{a b:List Str}(ha:sortedS a=true)(hb:sortedS b=true)(na:a.Nodup)(nb:b.Nodup)(h:∀s,s∈a↔s∈b):a=b :=
 ((List.perm_ext_iff_of_nodup na nb).mpr fun s=>h s).eq_of_pairwise (fun x y _ _ h1 h2=>jSU (List.le_antisymm h1 h2)) (jOq ha) (jOq hb)
theorem jP4{ss:List Str}(h:ss.length<64)(nd:ss.Nodup)(so:sortedS ss=true)(q:Q (.lst ((ss.map PyData.str).map T.d)) true):jNI (jAU (.d (.list (ss.map PyData.str))) n).vw Q:=by
 rw[jAK];refine⟨_,ss,rfl,jAN _,h,fun zs hz hm hs=>?_⟩;rw[jP5 hs so hz nd hm];exact q
end
theorem jL5:∀{l:List D},(∀x∈l,x.canLay0=true/\x.depth<=1)->wE l=true/\w9 l<=1
 |[],_=>by simp[wE,w9]
 |x::l,h=>by
  obtain⟨h1,h2⟩:=h x QF;obtain⟨i1,i2⟩:=jL5 (l:=l) fun y hy=>h y (QE _ hy);simp only[wE,w9,h1,i1,Bool.and_self,true_and]
  omega
theorem jPF{l:List D}(h:∀x∈l,x.canLay0=true/\x.depth<=1):okD (.list l):=by
 obtain⟨h1,h2⟩:=jL5 h;refine⟨?_,?_⟩
 ·simp only[WH]
  exact h1
 ·simp only[QAI]
  omega
theorem jQt{l:List Str}(h:∀s∈l,qi s=true):okD (.list (l.map PyData.str)):=jPF fun x hx=>by
 obtain⟨s,hs,rfl⟩:=Qg.mp hx;simp only[WH,QAI];exact⟨h s hs,by omega⟩
theorem jTM{es:LSS}{st:List Str}(h:jIb es st):okD (.list (es.map pr)):=jPF fun x hx=>by
 obtain⟨e,he,rfl⟩:=Qg.mp hx;obtain⟨h1,h2⟩:=h.2 e he;simp only[pr,WH,QAI,wE,w9,h1,h2];decide
theorem jUs(es:LSS)(e:Str×Str):((es.map pr).any fun y=>Q5 y (pr e))=decide (e∈es):=by
 rw[QBv,qQ,Wt,decide_eq_true_iff];constructor
 ·rintro⟨x,hx,z⟩
  have z:Q5 (pr x) (pr e)=true:=z;rw[jMV,decide_eq_true_iff]at z;exact z▸hx
 ·intro h
  exact⟨e,h,by show Q5 (pr e) (pr e)=true;rw[jMV];exact dT rfl⟩
theorem jPP{es:LSS}{st:List Str}{a b:Str}{L:Bool->Prop}(h:jIb es st)(m:(a,b)∈es)(l:L true):jDz .In (.d (.tuple [.str a,.str b])) (.d (.list (es.map pr))) L:=by
 obtain⟨h1,h2⟩:=h.2 _ m;refine⟨.inr ⟨jDW h1 h2,jTM h⟩,?_⟩;have:=jUs es (a,b);rw[dT m]at this;show L ((es.map pr).any fun y=>Q5 y (pr (a,b)));rw[this];exact l
theorem jQ6{es:LSS}{st:List Str}{a b:Str}{L:Bool->Prop}(h:jIb es st)(m:(a,b)∈es)(l:L false):jDz .NotIn (.d (.tuple [.str a,.str b])) (.d (.list (es.map pr))) L:=jPP (L:=fun k=>L (!k)) h m l
section
variable{es:LSS}{st:List Str}{g:Str}
theorem jUK{c:List Str}(h:Chn es st g c g):c≠[]:=fun e=>by
 cases h with
 |st _ h=>exact h rfl
 |go=>exact List.append_ne_nil_of_right_ne_nil _ (List.cons_ne_nil _ _) e
theorem jRr{c:List Str}{n:Str}(h:Chn es st g c n):∃x∈st,(c++[n])[0]?=some x:=by
 induction h with
 |st h _=>exact⟨_,h,rfl⟩
 |go _ _ _ ih =>
  obtain⟨x,hx,e⟩:=ih;exact⟨x,hx,by rw[Qr (by rw[QM,Ql];omega)];exact e⟩
theorem jJb{c:List Str}{n:Str}(h:Chn es st g c n):∀k,k<c.length->∃x y,(c++[n])[k]?=some x/\(c++[n])[k+1]?=some y/\(x,y)∈es:=by
 induction h with
 |st h _=>exact fun k hk=>(nomatch hk)
 |@go c n m _ _ he ih =>
  intro k hk;rw[QM,Ql]at hk;have e:∀j,j<c.length+1->(c++[n]++[m])[j]?=(c++[n])[j]?:=fun j hj=>Qr (by rw[QM,Ql];exact hj);rw[e k hk];by_cases z:k<c.length
  ·rw[e (k+1) (by omega)]
   exact ih k z
  ·have e2:k=c.length:=by omega
   subst e2;refine⟨n,m,?_,?_,he⟩
   ·rw[Qy (QU _),QA1]
    rfl
   ·rw[Qy (by rw[QM,Ql];omega),QM,Ql,QA1]
    rfl
theorem jMl{c:List Str}{n:Str}(h:Chn es st g c n){ns:List Str}(h1:∀s∈st,s∈ns)(h2:∀e∈es,e.2∈ns):∀x∈c++[n],x∈ns:=by
 induction h with
 |st h _=>exact fun x hx=>QJ.mp hx▸h1 _ h
 |go _ _ he ih =>
  intro x hx;rcases Qd.mp hx with z|z
  ·exact ih x z
  ·exact QJ.mp z▸h2 _ he
end
theorem jJg:∀{cs:List (List Str)},jIc cs->(∀c∈cs,c.Nodup)->cs.flatten.Nodup
 |[],_,_=>.nil
 |c::cs,h,hn=>by
  rw[qp];refine qr.mpr ⟨hn c QF,jJg h.2 fun d hd=>hn d (QE _ hd),fun a ha b hb e=>?_⟩;subst e;obtain⟨d,hd,hm⟩:=QB4.mp hb;exact h.1 d hd a ha hm
noncomputable def jR2(ks:List Str)(s:Str):List Str:=if s∈ks then ks else ks++[s]
theorem jJk{ks:List Str}{s x:Str}(h:x∈jR2 ks s):x∈ks∨x=s:=by
 unfold jR2 at h;split at h
 ·exact .inl h
 ·rw[Qd,QJ]at h
  exact h
theorem jJl(ks:List Str)(s:Str):(jR2 ks s).length<=ks.length+1:=by
 unfold jR2;split
 ·exact wJ _
 ·rw[QM,Ql];exact QU _
noncomputable def jRj(ks:List Str):T:=.dct false (ks.map PyData.str) (ks.map fun _=>T.d (.bool true))
theorem jOK(ks:List Str)(z:Str):(jAG (ks.map PyData.str) (.str z)).isSome=decide (z∈ks):=by
 rw[qQ,jFh,jHn,decide_eq_true_iff]
theorem jQN(ks:List Str)(s:Str):jM0 false (ks.map PyData.str) (ks.map fun _=>T.d (.bool true)) (.str s) (.d (.bool true))=jRj (jR2 ks s):=by
 unfold jM0 jR2 jRj;cases h:jAG (ks.map PyData.str) (.str s) with
 |none =>
  rw[if_neg fun z=>jA1.mp h (jHn.mpr z),Qe,Qe]
  rfl
 |some n =>
  rw[if_pos (jHn.mp (qC (jB1 h)))];show T.dct false _ ((ks.map fun _=>T.d (.bool true)).set n (.d (.bool true)))=_;rw[List.map_const',List.set_replicate_self]
theorem jOo{ks:List Str}{s:Str}{Q:T->Prop}(hl:ks.length<sizeLine)(q:Q (jRj (jR2 ks s))):stV (jRj ks) (.d (.str s)) (.d (.bool true)) Q:=by
 refine⟨⟨s,rfl⟩,by rw[QG];exact hl,?_⟩;show Q (jM0 false (ks.map PyData.str) (ks.map fun _=>T.d (.bool true)) (.str s) (.d (.bool true)));rw[jQN];exact q
theorem jUX{ks:List Str}{z:Str}{L:Bool->Prop}:jDz .In (.d (.str z)) (jRj ks) L=L (decide (z∈ks)):=by
 unfold jRj;rw[jRv,jOK];exact propext ⟨fun h=>h.2,fun h=>⟨⟨z,rfl⟩,h⟩⟩
noncomputable def ldS(es:LSS)(st:List Str)(g:Str)(cut:List Str)(ks:List Str)(o5 o6 o7 o8:Option Sl):PSt:=[some (.bor (.d (.list (es.map pr)))),some (.bor (.d (.list (st.map PyData.str)))),some (.bor (.d (.str g))),some (.bor (.d (.list (cut.map PyData.str)))),some (.own (jRj ks)),o5,o6,o7,o8]
section
variable{Ψ:PEv}{Z:PEnds}{es:LSS}{st:List Str}{g:Str}{cut ks:List Str}{o5 o6 o7 o8:Option Sl}
theorem jTi{s:Str}(hl:ks.length<sizeLine)(hs:s∈st)(h:∀x∈ks,Led es st g cut x)(q:∀ks',ks'.length<=ks.length+1->(∀x∈ks',Led es st g cut x)->Z.nx (ldS es st g cut ks' (some (.bor (.d (.str s)))) o6 o7 o8)) :
  pws Ψ (fun _=>False) jE3 Z (ldS es st g cut ks (some (.bor (.d (.str s)))) o6 o7 o8):=by
 delta ldS at q ⊢;have q0:=q ks (wJ _) h;delta jE3
 simp_arith[jDh,jCT,jBo,true_or]
 by_cases h1:s=g
 ·rw[dT h1]
  exact q0
 ·rw[dF h1]
  by_cases h2:s∈cut
  ·rw[dT h2]
   exact q0
  ·rw[dF h2]
   simp only[WF,↓reduceIte];refine jOo hl (q _ (jJl _ _) fun x hx=>(jJk hx).elim (h x) fun e=>e▸.st hs (jBJ.mpr ⟨h1,h2⟩))
theorem jTh{a b:Str}(hl:ks.length<sizeLine)(he:(a,b)∈es)(h:∀x∈ks,Led es st g cut x)(q:∀ks',ks'.length<=ks.length+1->(∀x∈ks',Led es st g cut x)->Z.nx (ldS es st g cut ks' o5 o6 (some (.bor (.d (.str a)))) (some (.bor (.d (.str b)))))) :
  pws Ψ (fun _=>False) jE2 Z (ldS es st g cut ks o5 o6 (some (.bor (.d (.str a)))) (some (.bor (.d (.str b))))):=by
 delta ldS at q ⊢;have q0:=q ks (wJ _) h;delta jE2
 simp_arith[↓jUX,jDh,jCT,jBo,true_or]
 by_cases h0:a∈ks
 ·rw[dT h0]
  by_cases h1:b=g
  ·rw[dT h1]
   exact q0
  ·rw[dF h1]
   by_cases h2:b∈cut
   ·rw[dT h2]
    exact q0
   ·rw[dF h2]
    simp only[WF,↓reduceIte];refine jOo hl (q _ (jJl _ _) fun x hx=>(jJk hx).elim (h x) fun e=>e▸.ed (h a h0) he (jBJ.mpr ⟨h1,h2⟩))
 ·rw[dF h0]
  exact q0
theorem jTg(l1:es.length<=126)(hl:ks.length<=2000)(h:∀x∈ks,Led es st g cut x)(q:∀ks' o7 o8,ks'.length<=ks.length+126->(∀x∈ks',Led es st g cut x)->Z.nx (ldS es st g cut ks' o5 o6 o7 o8)) :
  pws Ψ (fun _=>False) jE1 Z (ldS es st g cut ks o5 o6 o7 o8):=by
 have hz:sizeLine=16777216:=QW;delta ldS;delta jE1
 simp_arith[↓jAF]
 rw[<- jBH];refine jAw (fun(p:Str×Str)=>T.d (pr p)) (fun l ρ=>∃ks' o7 o8,ks'.length+l.length<=ks.length+126/\(∀p∈l,p∈es)/\(∀x∈ks',Led es st g cut x)/\ρ=ldS es st g cut ks' o5 o6 o7 o8) ?_ ?_ _ _ ⟨ks,_,_,by omega,fun _ z=>z,h,rfl⟩
 ·rintro ρ ⟨ks',p7,p8,e0,_,i,rfl⟩
  exact q ks' _ _ e0 i
 ·rintro⟨a,b⟩ l ρ N hN ⟨ks',p7,p8,e0,m,i,rfl⟩
  rw[QL]at e0;refine jDq.mk rfl ?_;exact jTh (a:=a) (b:=b) (by omega) (m _ QF) i fun ks2 l2 i2=>hN _ ⟨ks2,_,_,by omega,fun p hp=>m p (QE _ hp),i2,rfl⟩
end
noncomputable def jDl:PSp where
 md:=[]
 run:=fun ds Q _=>∃(es:LSS) (st:List Str) (g:Str) (cut:List Str),ds=[.d (.list (es.map pr)),.d (.list (st.map PyData.str)),.d (.str g),.d (.list (cut.map PyData.str))]/\(es.length<=126/\st.length<=11/\¬ ∃a,(a,g)∈es/\Led es st g cut a)/\Q (.d (.bool false)) []
 mono:=fun h _ z=>by obtain⟨es,st,g,cut,e,l,q⟩:=z;exact⟨es,st,g,cut,e,l,h _ _ q⟩
theorem jQD{es:LSS}{st:List Str}{g:Str}{cut:List Str}{K:T->List T->Prop}{E:XE}(h1:es.length<=126)(h2:st.length<=11)(h3:¬ ∃a,(a,g)∈es/\Led es st g cut a)(q:K (.d (.bool false)) []):jFF jDl [.d (.list (es.map pr)),.d (.list (st.map PyData.str)),.d (.str g),.d (.list (cut.map PyData.str))] K E:=⟨es,st,g,cut,rfl,⟨h1,h2,h3⟩,q⟩
theorem jTN{Ψ:PEv}(ds Q E)(h:jDl.run ds Q E):ds.length=jF3.length/\pws Ψ (fun _=>False) jIV (jAx jDl jF3.length Q) (jAH jMx jDl.md ds):=by
 obtain⟨es,st,g,cut,rfl,⟨l1,l2,hn⟩,q⟩:=h;have hz:sizeLine=16777216:=QW;refine jAV [some (.bor (.d (.list (es.map pr)))),some (.bor (.d (.list (st.map PyData.str)))),some (.bor (.d (.str g))),some (.bor (.d (.list (cut.map PyData.str)))),none,none,none,none,none] rfl rfl rfl ?_;delta jIV
 simp_arith[↓jAF]
 rw[<- jBH];refine jAw (fun(s:Str)=>T.d (.str s)) (fun l ρ=>∃ks o5,ks.length+l.length<=11/\(∀s∈l,s∈st)/\(∀x∈ks,Led es st g cut x)/\ρ=ldS es st g cut ks o5 none none none) ?_ ?_ _ _ ⟨[],_,by rw[Qi];omega,fun _ z=>z,fun _ z=>(nomatch z),rfl⟩
 ·rintro ρ ⟨ks,o5,kl,_,i,rfl⟩
  rw[Qi]at kl;delta ldS
  simp_arith[↓jAF]
  refine jAw (fun(i:Nat)=>T.d (.int (i:Int))) (fun l ρ=>∃ks o6 o7 o8,ks.length+126 * l.length<=1271/\(∀x∈ks,Led es st g cut x)/\ρ=ldS es st g cut ks (jD6 o5) o6 o7 o8) ?_ ?_ _ _ ⟨ks,_,_,_,by rw[qN];show ks.length+126 * 10<=1271;omega,i,rfl⟩
  ·rintro ρ ⟨ks,p6,p7,p8,_,i,rfl⟩
   delta ldS
   simp_arith[↓jAF]
   rw[<- jBH pr es];refine jBp (fun(p:Str×Str)=>T.d (pr p)) (fun _=>T.d (.bool false)) es _ _ (fun x hx R hR=>?_) (by rw[Qi];omega) ?_
   ·obtain⟨a,b⟩:=x
    delta pr
    simp_arith[↓jUX]
    by_cases h0:a∈ks
    ·rw[dT h0]
     simp_arith[↓jAF]
     rw[dF fun(e:b=g)=>hn ⟨a,e▸hx,i a h0⟩];exact hR
    ·rw[dF h0]
     exact hR
   ·rw[qD,jBH]
    refine jTY ?_
    simp_arith[↓jAF]
    exact q
  ·rintro j l ρ N hN ⟨ks,p6,p7,p8,e0,i,rfl⟩
   rw[QL]at e0;exact jTg (o6:=some (.bor (.d (.int (j:Int))))) (o7:=p7) (o8:=p8) l1 (by omega) i fun ks2 r7 r8 l2 i2=>hN _ ⟨ks2,_,r7,r8,by omega,i2,rfl⟩
 ·rintro s l ρ N hN ⟨ks,o5,kl,m,i,rfl⟩
  rw[QL]at kl;exact jTi (s:=s) (by omega) (m s QF) i fun ks2 l2 i2=>hN _ ⟨ks2,_,by omega,fun p hp=>m p (QE _ hp),i2,rfl⟩
noncomputable def jA3:PSp where
 md:=[]
 run:=fun ds Q _=>∃ss:List Str,ds=[.d (.list (ss.map PyData.str))]/\ss.length<=1000/\Q (.d (.bool true)) []
 mono:=fun h _ z=>by obtain⟨ss,e,l,q⟩:=z;exact⟨ss,e,l,h _ _ q⟩
theorem jGm{ss:List Str}{K:T->List T->Prop}{E:XE}(h:ss.length<=1000)(q:K (.d (.bool true)) []):jFF jA3 [.d (.list (ss.map PyData.str))] K E:=⟨ss,rfl,h,q⟩
theorem jNi{Ψ:PEv}(ds Q E)(h:jA3.run ds Q E):ds.length=jDN.length/\pws Ψ (fun _=>False) jEy (jAx jA3 jDN.length Q) (jAH jHc jA3.md ds):=by
 obtain⟨ss,rfl,hl,q⟩:=h;have hz:sizeLine=16777216:=QW;refine jAV [some (.bor (.d (.list (ss.map PyData.str))))] rfl rfl rfl ?_;delta jEy
 simp_arith[↓jU5,↓jYs]
 rw[<- jBH];refine jBp (fun(s:Str)=>T.d (.str s)) (fun _=>T.d (.bool true)) ss _ _ (fun x _ R hR=>?_) (by rw[Qi];omega) ?_
 ·simp_arith[↓jW1,↓jU5,↓jYr]
  exact hR
 ·rw[qD,jBH]
  refine jPI ?_
  simp_arith[↓jAF]
  exact q
noncomputable def lcS(c:List Str)(es:LSS)(st:List Str)(g:Str):PSt:=[some (.bor (.d (.list (c.map PyData.str)))),some (.bor (.d (.list (es.map pr)))),some (.bor (.d (.list (st.map PyData.str)))),some (.bor (.d (.str g)))]
section
variable{Ψ:PEv}{Z:PEnds}{c:List Str}{es:LSS}{st:List Str}{g:Str}{q:PT}
theorem jYn(h1:Ψ.sp "_law_texts"=jA3){x:Str}(hl:c.length<=1000)(hx:c[0]?=some x)(hs:x∈st)(hg:g∉c)(k:pws Ψ (fun _=>False) q Z (lcS c es st g)) :
  pws Ψ (fun _=>False) (.seq (.ife (.or (.not (.call "_law_texts" (.acons (.var 0) .anil))) (.or (.cmp .Eq (.bi .len (.acons (.var 0) .anil)) (.int 0)) (.or (.cmp .NotIn (.idx (.var 0) (.int 0)) (.var 2)) (.cmp .In (.var 3) (.var 0))))) (.seq (.ret (.bl false)) .nil) .nil) q) Z (lcS c es st g):=by
 have e0:atI (c.map PyData.str) 0=some (.str x):=jDg (j:=0) (by rw[QY,hx];rfl);have e1:¬ (c.length:Int)=0:=by
  have:=(Qa.mp hx).1
  omega
 delta lcS at k ⊢
 simp_arith[↓jR3,↓jAS (md:=[]) h1 rfl rfl]
 refine jGm hl ?_
 simp_arith[↓jR3,↓jIz e0,jDh,jCT,jBo,true_or,QG,dF e1,dT hs,dF hg]
 exact k
theorem jYm(hn:jIb es st){x:Str}(hl:c.length<=1000)(hx:c[c.length - 1]?=some x)(he:(x,g)∈es)(nd:c.Nodup)(k:pws Ψ (fun _=>False) q Z (lcS c es st g)) :
  pws Ψ (fun _=>False) (.seq (.ife (.or (.cmp .NotEq (.lset (.var 0)) (.bi .len (.acons (.var 0) .anil))) (.cmp .NotIn (.tup (.acons (.idx (.var 0) (.neg (.int 1))) (.acons (.var 3) .anil))) (.var 1))) (.seq (.ret (.bl false)) .nil) .nil) q) Z (lcS c es st g):=by
 have hz:sizeLine=16777216:=QW;have e0:atI (c.map PyData.str) (-1)=some (.str x):=by
  have:=(Qa.mp hx).1;unfold atI ixN;rw[QG,if_neg (by decide),if_pos (by omega),Option.bind_some,show(-1+(c.length:Int)).toNat=c.length - 1 by omega,QY,hx]
  rfl
 delta lcS at k ⊢
 simp_arith[↓jR3,↓jPi]
 refine jL0 (by omega) nd ?_
 simp_arith[↓jR3,↓jZE,↓jIz e0,QG]
 refine⟨by omega,jQ6 hn he ?_⟩
 simp_arith[↓jAF]
 exact k
theorem jYl{Q:T->List T->Prop}(hn:jIb es st)(hl:c.length<=1000)(he:∀k,k+1<c.length->∃x y,c[k]?=some x/\c[k+1]?=some y/\(x,y)∈es)(k:Q (.d (.bool true)) []) :
  pws Ψ (fun _=>False) (.seq (.ret (.bi .all (.acons (.comp [] ["_law_k"] (.nm 0) .rng1 (.acons (.bin .Sub (.bi .len (.acons (.var 0) .anil)) (.int 1)) .anil) .nop (.cmp .In (.tup (.acons (.idx (.var 1) (.var 0)) (.acons (.idx (.var 1) (.bin .Add (.var 0) (.int 1))) .anil))) (.var 2))) .anil))) .nil) (eZ Q) (lcS c es st g):=by
 have hz:sizeLine=16777216:=QW;delta lcS
 simp_arith[QG]
 refine⟨by omega,by omega,?_⟩;refine jBp (fun(i:Nat)=>T.d (.int (i:Int))) (fun _=>T.d (.bool true)) _ _ _ (fun i hi R hR=>?_) (by rw[Qi,qN];omega) ?_
 ·have hi:=Wh.mp hi
  obtain⟨x,y,hx,hy,hm⟩:=he i (by omega);have e0:atI (c.map PyData.str) (i:Int)=some (.str x):=jDg (by rw[QY,hx];rfl);have e1:atI (c.map PyData.str) ((i:Int)+1)=some (.str y):=jDg (j:=i+1) (by rw[QY,hy];rfl)
  simp_arith[↓jIz e0,↓jIz e1]
  exact⟨by omega,jPP hn hm hR⟩
 ·rw[qD,jBH]
  refine jPI ?_
  simp_arith[↓jAF]
  exact k
end
noncomputable def jCu:PSp where
 md:=[]
 run:=fun ds Q _=>∃(c:List Str) (es:LSS) (st:List Str) (g:Str),ds=[.d (.list (c.map PyData.str)),.d (.list (es.map pr)),.d (.list (st.map PyData.str)),.d (.str g)]/\(jIb es st/\c.length<=1000/\Chn es st g c g/\c.Nodup/\∀x∈c,x≠g)/\Q (.d (.bool true)) []
 mono:=fun h _ z=>by obtain⟨c,es,st,g,e,l,q⟩:=z;exact⟨c,es,st,g,e,l,h _ _ q⟩
theorem jQE{c:List Str}{es:LSS}{st:List Str}{g:Str}{K:T->List T->Prop}{E:XE}(h:jIb es st/\c.length<=1000/\Chn es st g c g/\c.Nodup/\∀x∈c,x≠g)(q:K (.d (.bool true)) []):jFF jCu [.d (.list (c.map PyData.str)),.d (.list (es.map pr)),.d (.list (st.map PyData.str)),.d (.str g)] K E:=⟨c,es,st,g,rfl,h,q⟩
theorem jTO{Ψ:PEv}(h1:Ψ.sp "_law_texts"=jA3)(ds Q E)(h:jCu.run ds Q E):ds.length=jDQ.length/\pws Ψ (fun _=>False) jE4 (jAx jCu jDQ.length Q) (jAH jHf jCu.md ds):=by
 obtain⟨c,es,st,g,rfl,⟨hn,hl,ch,nd,ng⟩,q⟩:=h;have hp:=List.length_pos_iff.mpr (jUK ch);obtain⟨x,hs,hx⟩:=jRr ch;obtain⟨y,z,hy,hz,he⟩:=jJb ch (c.length - 1) (by omega);rw[Qr hp]at hx;rw[Qr (by omega)]at hy;rw[show c.length - 1+1=c.length by omega,Qy (QU _),QA1]at hz;cases hz;refine jAV (lcS c es st g) rfl rfl rfl ?_;delta jE4;refine jYn h1 hl hx hs (fun z=>ng g z rfl) (jYm hn hl hy he nd (jYl hn hl (fun k hk=>?_) q));obtain⟨u,v,hu,hv,hm⟩:=jJb ch k (by omega);rw[Qr (by omega)]at hu hv;exact⟨u,v,hu,hv,hm⟩
noncomputable def jDn:PSp where
 md:=[]
 run:=fun ds Q _=>∃cs:List (List Str),ds=[.d (.list (cs.map jBs))]/\(cs.flatten.Nodup/\cs.flatten.length<=1000)/\Q (.d (.bool true)) []
 mono:=fun h _ z=>by obtain⟨cs,e,l,q⟩:=z;exact⟨cs,e,l,h _ _ q⟩
theorem jQG{cs:List (List Str)}{K:T->List T->Prop}{E:XE}(h1:cs.flatten.Nodup)(h2:cs.flatten.length<=1000)(q:K (.d (.bool true)) []):jFF jDn [.d (.list (cs.map jBs))] K E:=⟨cs,rfl,⟨h1,h2⟩,q⟩
theorem jTR{Ψ:PEv}(ds Q E)(h:jDn.run ds Q E):ds.length=jDR.length/\pws Ψ (fun _=>False) jE5 (jAx jDn jDR.length Q) (jAH jHg jDn.md ds):=by
 obtain⟨cs,rfl,⟨nd,hl⟩,q⟩:=h;have hz:sizeLine=16777216:=QW;refine jAV [some (.bor (.d (.list (cs.map jBs)))),none,none] rfl rfl rfl ?_;delta jE5
 simp_arith[↓jWy]
 refine⟨by omega,?_⟩;rw[<- jBH];refine jAw (fun c=>T.d (jBs c)) (fun l ρ=>∃(ms:List Str) (o2:Option Sl),ms++l.flatten=cs.flatten/\ρ=[some (.bor (.d (.list (cs.map jBs)))),some (.bor (.d (.list (ms.map PyData.str)))),o2]) ?_ ?_ _ _ ⟨[],_,rfl,rfl⟩
 ·rintro ρ ⟨ms,o2,e,rfl⟩
  rw[List.flatten_nil,wH]at e;subst e
  simp_arith[↓jPi]
  refine jL0 (by omega) nd ?_
  simp_arith[QG]
  exact q
 ·rintro c l ρ N hN ⟨ms,o2,e,rfl⟩
  rw[qp,<- qq]at e;have hm:ms.length+c.length<=1000:=by
   have:=congrArg qz e;rw[QM,QM]at this
   omega
  show pws Ψ (fun _=>False) jCq _ [some (.bor (.d (.list (cs.map jBs)))),some (.bor (.d (.list (ms.map PyData.str)))),some (.bor (.d (.list (c.map PyData.str))))];delta jCq
  simp_arith[↓jY9,QG]
  rw[<- Qe];exact⟨by omega,hN _ ⟨ms++c,_,e,rfl⟩⟩
noncomputable def lwS(sc:Sl)(ns:List Str)(es:LSS)(st:List Str)(g:Str)(cs:List (List Str))(cut:List Str)(o7:Option Sl):PSt:=[some sc,some (.bor (.d (.list (ns.map PyData.str)))),some (.bor (.d (.list (es.map pr)))),some (.bor (.d (.list (st.map PyData.str)))),some (.bor (.d (.str g))),some (.bor (.d (.list (cs.map jBs)))),some (.bor (.d (.list (cut.map PyData.str)))),o7]
section
variable{Ψ:PEv}{Z:PEnds}{sc:Sl}{ns:List Str}{es:LSS}{st:List Str}{g:Str}{cs:List (List Str)}{cut:List Str}{o7:Option Sl}{q:PT}
theorem jYj(h4:Ψ.sp "_law_web"=jDk){is:List Int}(k:∀ns es st g,jE9 ns es st g->pws Ψ (fun _=>False) q Z [some (.bor (.lst ((is.map PyData.int).map T.d))),some (.bor (.d (.list (ns.map PyData.str)))),some (.bor (.d (.list (es.map pr)))),some (.bor (.d (.list (st.map PyData.str)))),some (.bor (.d (.str g))),none,none,none]) :
  pws Ψ (fun _=>False) (.seq (.tset [1,2,3,4] (.call "_law_web" (.acons (.var 0) (.acons (.int 10) .anil)))) q) Z [some (.bor (.lst ((is.map PyData.int).map T.d))),none,none,none,none,none,none,none]:=by
 simp_arith[↓jAS (md:=[.shal]) h4 rfl rfl]
 refine jQC fun ns es st g w=>?_;exact⟨rfl,_,rfl,k ns es st g w⟩
theorem jYi(h5:Ψ.sp "apart_chains"=jBY)(w:jE9 ns es st g)(k:∀cs cut,Good es st g cs cut->pws Ψ (fun _=>False) q Z (lwS sc ns es st g cs cut none)) :
  pws Ψ (fun _=>False) (.seq (.tset [5,6] (.call "apart_chains" (.acons (.bi .list (.acons (.var 2) .anil)) (.acons (.bi .list (.acons (.var 3) .anil)) (.acons (.var 4) .anil))))) q) Z [some sc,some (.bor (.d (.list (ns.map PyData.str)))),some (.bor (.d (.list (es.map pr)))),some (.bor (.d (.list (st.map PyData.str)))),some (.bor (.d (.str g))),none,none,none]:=by
 obtain⟨w1,w2,w3,w4,w5,w6,w7⟩:=id w;delta lwS at k
 simp_arith[↓jAS (md:=[]) h5 rfl rfl]
 refine jK4 w3 w5 (jOg w) fun cs cut gd=>?_;refine⟨rfl,?_⟩;rw[jRh]
 simp_arith[↓jAF]
 exact k cs cut gd
theorem jRq(w:jE9 ns es st g){c:List Str}(h:Chn es st g c g)(nd:c.Nodup):c.length<=10:=by
 obtain⟨w1,w2,w3,w4,w5,w6,w7⟩:=w;exact QX (jFY nd fun x hx=>jMl h w6 (fun e he=>(w4 e he).2) x (Qk _ hx)) w1
theorem jYh(h6:Ψ.sp "_law_chain"=jCu)(w:jE9 ns es st g){c:List Str}(h:Chn es st g c g/\c.Nodup/\∀x∈c,x≠g)(k:Z.nx (lwS sc ns es st g cs cut (some (.bor (.d (.list (c.map PyData.str))))))) :
  pws Ψ (fun _=>False) jGT Z (lwS sc ns es st g cs cut (some (.bor (.d (.list (c.map PyData.str)))))):=by
 have hl:=jRq w h.1 h.2.1;delta lwS at k ⊢;delta jGT
 simp_arith[↓jAS (md:=[]) h6 rfl rfl]
 refine jQE ⟨jOg w,by omega,h⟩ ?_
 simp_arith[↓jAF]
 exact k
theorem jYg(h6:Ψ.sp "_law_chain"=jCu)(w:jE9 ns es st g)(gd:Good es st g cs cut)(k:∀o7,pws Ψ (fun _=>False) q Z (lwS sc ns es st g cs cut o7)) :
  pws Ψ (fun _=>False) (.seq (.for_ (.nm 7) .val (.acons (.var 5) .anil) jGT) q) Z (lwS sc ns es st g cs cut o7):=by
 delta lwS
 simp_arith[↓jAF]
 rw[<- jBH];refine jAw (fun c=>T.d (jBs c)) (fun l ρ=>∃o7,(∀c∈l,c∈cs)/\ρ=lwS sc ns es st g cs cut o7) ?_ ?_ _ _ ⟨_,fun _ z=>z,rfl⟩
 ·rintro ρ ⟨o7,_,rfl⟩
  exact k _
 ·rintro c l ρ N hN ⟨p7,m,rfl⟩
  exact jYh (c:=c) h6 w (gd.chn c (m c QF)) (hN _ ⟨_,fun d hd=>m d (QE _ hd),rfl⟩)
theorem jYf(h7:Ψ.sp "_law_apart"=jDn)(h8:Ψ.sp "_law_texts"=jA3)(w:jE9 ns es st g)(gd:Good es st g cs cut)(k:pws Ψ (fun _=>False) q Z (lwS sc ns es st g cs cut o7)) :
  pws Ψ (fun _=>False) (.seq (.ife (.or (.not (.call "_law_apart" (.acons (.var 5) .anil))) (.or (.not (.call "_law_texts" (.acons (.var 6) .anil))) (.cmp .NotEq (.var 6) (.sset (.var 6))))) (.seq (.ret (.bl false)) .nil) .nil) q) Z (lwS sc ns es st g cs cut o7):=by
 have hf:=gd.few;have ok:=jQt gd.okn;have nd:=jJg gd.apart fun c hc=>(gd.chn c hc).2.1;have hl:cs.flatten.length<=10:=by
  obtain⟨w1,w2,w3,w4,w5,w6,w7⟩:=w;refine QX (jFY nd fun x hx=>?_) w1;obtain⟨c,hc,hx⟩:=QB4.mp hx;exact jMl (gd.chn c hc).1 w6 (fun e he=>(w4 e he).2) x (Qk _ hx)
 delta lwS at k ⊢
 simp_arith[↓jR3,↓jAS (md:=[]) h7 rfl rfl]
 refine jQG nd (by omega) ?_
 simp_arith[↓jR3,↓jAS (md:=[]) h8 rfl rfl]
 refine jGm (by omega) ?_
 simp_arith[↓jVU]
 refine jP4 (by omega) gd.nd gd.srt ?_
 simp_arith[↓jAF]
 refine⟨ok,ok,?_⟩;rw[PySem.SeqAt.eqv_refl _ ok.1];exact k
theorem jYe(h3:Ψ.sp "_law_led"=jDl)(w:jE9 ns es st g)(gd:Good es st g cs cut)(k:pws Ψ (fun _=>False) q Z (lwS sc ns es st g cs cut o7)) :
  pws Ψ (fun _=>False) (.seq (.ife (.or (.cmp .NotEq (.bi .len (.acons (.var 6) .anil)) (.bi .len (.acons (.var 5) .anil))) (.or (.cmp .In (.var 4) (.var 6)) (.call "_law_led" (.acons (.var 2) (.acons (.var 3) (.acons (.var 4) (.acons (.var 6) .anil))))))) (.seq (.ret (.bl false)) .nil) .nil) q) Z (lwS sc ns es st g cs cut o7):=by
 have hc:(cut.length:Int)=cs.length:=by rw[gd.len]
 delta lwS at k ⊢
 simp_arith[↓jR3,QG,dT hc,jDh,jCT,jBo,true_or,dF gd.ng,↓jAS (md:=[]) h3 rfl rfl]
 refine jQD w.2.2.1 w.2.2.2.2.1 gd.led ?_
 simp_arith[↓jAF]
 exact k
theorem jYd(h1:Ψ.sp "meets_all"=jBW){Q:T->List T->Prop}(w:jE9 ns es st g)(gd:Good es st g cs cut)(k:Q (.d (.bool true)) []) :
  pws Ψ (fun _=>False) (.seq (.ret (.cmp .Is (.call "meets_all" (.acons (.bi .list (.acons (.var 2) .anil)) (.acons (.bi .list (.acons (.var 3) .anil)) (.acons (.var 4) (.acons (.bi .list (.acons (.var 6) .anil)) .anil))))) (.bl true))) .nil) (eZ Q) (lwS sc ns es st g cs cut o7):=by
 delta lwS
 simp_arith[↓jAS (md:=[]) h1 rfl rfl]
 refine jK1 w.2.2.1 w.2.2.2.2.1 fun b hb=>?_;have e:b=true:=hb.mpr gd.led;subst e
 simp_arith[↓jWo]
 exact k
end
theorem jTQ{Ψ:PEv}(h1:Ψ.sp "meets_all"=jBW)(h3:Ψ.sp "_law_led"=jDl)(h4:Ψ.sp "_law_web"=jDk)(h5:Ψ.sp "apart_chains"=jBY)(h6:Ψ.sp "_law_chain"=jCu)(h7:Ψ.sp "_law_apart"=jDn)(h8:Ψ.sp "_law_texts"=jA3)(ds Q E)(h:jLS.run ds Q E):ds.length=jLJ.length/\pws Ψ (fun _=>False) jUp (jAx jLS jLJ.length Q) (jAH jVO jLS.md ds):=by
 obtain⟨is,hl,hb,rfl,q⟩:=h;refine jAV [some (.bor (.lst ((is.map PyData.int).map T.d))),none,none,none,none,none,none,none] rfl rfl rfl ?_;exact jYj h4 fun ns es st g w=>jYi h5 w fun cs cut gd=>jYg h6 w gd fun o7=>jYf h7 h8 w gd (jYe h3 w gd (jYd h1 w gd q))
noncomputable def spT:List (Str×PSp):=[("_law_fold",jCi),("_law_mixed",jAv),("_law_names",jBt),("_law_web",jDk),("add_way",jBe),("add_name",jBu),("rooms_of",jBF),("points_reached",jA4),("lay_chain",jDm),("name_behind",jA6),("chain_from",jBX),("full_names",jCh),("apart_chains",jBY),("_law_texts",jA3),("_law_chain",jCu),("_law_apart",jDn),("_law_led",jDl),("meets_all",jBW),("law",jLS)]
noncomputable def vaT:List (Str×D):=[("BEGIN",.tuple ((["","begin"]:List Str).map PyData.str)),("WIDE",.int 2)]
noncomputable def Ψ:PEv:=jSR spT vaT
theorem jJX:Ψ.sp "_law_fold"=jCi:=by kernel_rfl
theorem jEo:Ψ.sp "_law_mixed"=jAv:=by kernel_rfl
theorem jHE:Ψ.sp "_law_names"=jBt:=by kernel_rfl
theorem jMb:Ψ.sp "_law_web"=jDk:=by kernel_rfl
theorem jEp:Ψ.sp "add_way"=jBe:=by kernel_rfl
theorem jFj:Ψ.sp "add_name"=jBu:=by kernel_rfl
theorem jDb:Ψ.sp "rooms_of"=jBF:=by kernel_rfl
theorem jBD:Ψ.sp "points_reached"=jA4:=by kernel_rfl
theorem jEm:Ψ.sp "lay_chain"=jDm:=by kernel_rfl
theorem jDA:Ψ.sp "name_behind"=jA6:=by kernel_rfl
theorem jDy:Ψ.sp "chain_from"=jBX:=by kernel_rfl
theorem jDx:Ψ.sp "full_names"=jCh:=by kernel_rfl
theorem jCd:Ψ.sp "apart_chains"=jBY:=by kernel_rfl
theorem jEn:Ψ.sp "_law_texts"=jA3:=by kernel_rfl
theorem jHF:Ψ.sp "_law_chain"=jCu:=by kernel_rfl
theorem jHG:Ψ.sp "_law_apart"=jDn:=by kernel_rfl
theorem jMc:Ψ.sp "_law_led"=jDl:=by kernel_rfl
theorem jEl:Ψ.sp "meets_all"=jBW:=by kernel_rfl
theorem jUA:Ψ.sp "law"=jLS:=by kernel_rfl
theorem jFs:Ψ.va "BEGIN"=some (pr bgn):=by kernel_rfl
theorem jSO:Ψ.va "WIDE"=some (.int 2):=by kernel_rfl
theorem jYk{α:Type}{us:List α}(h:us.length=0):us=[]:=qg.mp h
theorem jRL{α:Type}{us:List α}(h:us.length=1):∃a0,us=[a0]:=by
 cases us with
 |nil=>cases h
 |cons x r =>
  obtain rfl:=jYk (QAJ h);exact⟨x,rfl⟩
theorem jR9{α:Type}{us:List α}(h:us.length=2):∃a0 a1,us=[a0,a1]:=by
 cases us with
 |nil=>cases h
 |cons x r =>
  obtain⟨b0,rfl⟩:=jRL (QAJ h);exact⟨x,b0,rfl⟩
theorem jTe{α:Type}{us:List α}(h:us.length=3):∃a0 a1 a2,us=[a0,a1,a2]:=by
 cases us with
 |nil=>cases h
 |cons x r =>
  obtain⟨b0,b1,rfl⟩:=jR9 (QAJ h);exact⟨x,b0,b1,rfl⟩
theorem jVj{α:Type}{us:List α}(h:us.length=4):∃a0 a1 a2 a3,us=[a0,a1,a2,a3]:=by
 cases us with
 |nil=>cases h
 |cons x r =>
  obtain⟨b0,b1,b2,rfl⟩:=jTe (QAJ h);exact⟨x,b0,b1,b2,rfl⟩
theorem all{P:Program}{w:World}{K:QD}{h:Heap}{mg:Str->Option Value}{fa:Addr}(X:K.In h)(G:h.Ns mainGlobals mg)(hfa:mg "law"=some (.ref fa))(d_l_fold:jBS K "_law_fold" (top 17))(d_l_mixed:jBS K "_law_mixed" (top 15))(d_l_names:jBS K "_law_names" (top 16))(d_l_web:jBS K "_law_web" (top 18))(d_add_way:jBS K "add_way" (top 7))(d_add_name:jBS K "add_name" (top 6))(d_rooms_of:jBS K "rooms_of" (top 5))(d_points_reached:jBS K "points_reached" (top 8))(d_lay_chain:jBS K "lay_chain" (top 9))(d_name_behind:jBS K "name_behind" (top 11))(d_chain_from:jBS K "chain_from" (top 10))(d_full_names:jBS K "full_names" (top 12))(d_apart_chains:jBS K "apart_chains" (top 3))(d_l_texts:jBS K "_law_texts" (top 20))(d_l_chain:jBS K "_law_chain" (top 21))(d_l_apart:jBS K "_law_apart" (top 22))(d_l_led:jBS K "_law_led" (top 19))(d_meets_all:jBS K "meets_all" (top 4))(d_law:jBS K "law" (top 23))(w_BEGIN:jGV K "BEGIN" (.tuple ((["","begin"]:List Str).map PyData.str)))(w_WIDE:jGV K "WIDE" (.int 2))(z_all:qB K mainGlobals "all"=some none)(z_any:qB K mainGlobals "any"=some none)(z_enumerate:qB K mainGlobals "enumerate"=some none)(z_isinstance:qB K mainGlobals "isinstance"=some none)(z_len:qB K mainGlobals "len"=some none)(z_list:qB K mainGlobals "list"=some none)(z_range:qB K mainGlobals "range"=some none)(z_set:qB K mainGlobals "set"=some none)(z_sorted:qB K mainGlobals "sorted"=some none)(z_str:qB K mainGlobals "str"=some none) :
  ∃fd:FuncData,(∀(s:Shared) (u:Value),BindsTo s fd ⟨[u],[]⟩ [("_law_script",u)])/\∀base:Heap,K.In base->base.Ns mainGlobals mg->FnOk P w K mg base CX0 19 fa fd ["_law_script"] (lift K jLS):=by
 have VT:∀p∈vaT,jGV K p.1 p.2:=by
  intro p hp;simp only[vaT,QK,Q4,or_false]at hp;rcases hp with rfl|rfl
  ·exact w_BEGIN
  ·exact w_WIDE
 have NT:∀y∈(["all","any","enumerate","isinstance","len","list","range","set","sorted","str"]:List Str),qB K mainGlobals y=some none:=by
  intro y hy;simp only[QK,Q4,or_false]at hy;rcases hy with rfl|rfl|rfl|rfl|rfl|rfl|rfl|rfl|rfl|rfl
  ·exact z_all
  ·exact z_any
  ·exact z_enumerate
  ·exact z_isinstance
  ·exact z_len
  ·exact z_list
  ·exact z_range
  ·exact z_set
  ·exact z_sorted
  ·exact z_str
 refine jTl X G d_law rfl hfa jUA (fun _ _ _ _ _ _ us hl=>by obtain⟨_,rfl⟩:=jRL hl;rfl) fun base kb nb f fd F hm=>?_;have H_l_fold:jDH P w K mg base Ψ 1 "_law_fold":=jAd X G d_l_fold jMm (by kernel_rfl) (fun _ _ _ _ _ _ us hl=>by obtain⟨_,rfl⟩:=jRL hl;rfl) (fun g hg=>by cases hg) (jAX X G VT (by kernel_rfl)) (fun y hy=>NT y (jAu (by kernel_rfl) y hy)) (by rw[jJX];exact jQw );have H_l_mixed:jDH P w K mg base Ψ 2 "_law_mixed":=jAd X G d_l_mixed jKL (by kernel_rfl) (fun _ _ _ _ _ _ us hl=>by obtain⟨_,_,rfl⟩:=jR9 hl;rfl) (fun g hg=>by cases hg) (jAX X G VT (by kernel_rfl)) (fun y hy=>NT y (jAu (by kernel_rfl) y hy)) (by rw[jEo];exact jNl );have H_l_names:jDH P w K mg base Ψ 3 "_law_names":=jAd X G d_l_names jKK (by kernel_rfl) (fun _ _ _ _ _ _ us hl=>by obtain⟨_,_,rfl⟩:=jR9 hl;rfl) (fun g hg=>by simp only[jG0,QK,Q4,or_false]at hg;rcases hg with rfl<;>first|exact H_l_mixed.mono (by decide)) (jAX X G VT (by kernel_rfl)) (fun y hy=>NT y (jAu (by kernel_rfl) y hy)) (by rw[jHE];exact jNk jEo);have H_l_web:jDH P w K mg base Ψ 4 "_law_web":=jAd X G d_l_web jOT (by kernel_rfl) (fun _ _ _ _ _ _ us hl=>by obtain⟨_,_,rfl⟩:=jR9 hl;rfl) (fun g hg=>by simp only[jLq,QK,Q4,or_false]at hg;rcases hg with rfl|rfl|rfl<;>first|exact H_l_fold.mono (by decide)|exact H_l_mixed.mono (by decide)|exact H_l_names.mono (by decide)) (jAX X G VT (by kernel_rfl)) (fun y hy=>NT y (jAu (by kernel_rfl) y hy)) (by rw[jMb];exact jTL jJX jEo jHE);have H_add_way:jDH P w K mg base Ψ 5 "add_way":=jAd X G d_add_way jKO (by kernel_rfl) (fun _ _ _ _ _ _ us hl=>by obtain⟨_,_,_,_,rfl⟩:=jVj hl;rfl) (fun g hg=>by cases hg) (jAX X G VT (by kernel_rfl)) (fun y hy=>NT y (jAu (by kernel_rfl) y hy)) (by rw[jEp];exact jQx );have H_add_name:jDH P w K mg base Ψ 6 "add_name":=jAd X G d_add_name jIQ (by kernel_rfl) (fun _ _ _ _ _ _ us hl=>by obtain⟨_,_,rfl⟩:=jR9 hl;rfl) (fun g hg=>by simp only[jFa,QK,Q4,or_false]at hg;rcases hg with rfl<;>first|exact H_add_way.mono (by decide)) (jAX X G VT (by kernel_rfl)) (fun y hy=>NT y (jAu (by kernel_rfl) y hy)) (by rw[jFj];exact jQy jEp);have H_rooms_of:jDH P w K mg base Ψ 7 "rooms_of":=jAd X G d_rooms_of jIP (by kernel_rfl) (fun _ _ _ _ _ _ us hl=>by obtain⟨_,_,_,rfl⟩:=jTe hl;rfl) (fun g hg=>by simp only[jFZ,QK,Q4,or_false]at hg;rcases hg with rfl|rfl<;>first|exact H_add_name.mono (by decide)|exact H_add_way.mono (by decide)) (jAX X G VT (by kernel_rfl)) (fun y hy=>NT y (jAu (by kernel_rfl) y hy)) (by rw[jDb];exact jLg jFj jEp jFs jSO);have H_points_reached:jDH P w K mg base Ψ 8 "points_reached":=jAd X G d_points_reached jDc (by kernel_rfl) (fun _ _ _ _ _ _ us hl=>by obtain⟨_,rfl⟩:=jRL hl;rfl) (fun g hg=>by cases hg) (jAX X G VT (by kernel_rfl)) (fun y hy=>NT y (jAu (by kernel_rfl) y hy)) (by rw[jBD];exact jNj jFs);have H_lay_chain:jDH P w K mg base Ψ 9 "lay_chain":=jAd X G d_lay_chain jHO (by kernel_rfl) (fun _ _ _ _ _ _ us hl=>by obtain⟨_,_,_,rfl⟩:=jTe hl;rfl) (fun g hg=>by cases hg) (jAX X G VT (by kernel_rfl)) (fun y hy=>NT y (jAu (by kernel_rfl) y hy)) (by rw[jEm];exact jTP jFs);have H_name_behind:jDH P w K mg base Ψ 10 "name_behind":=jAd X G d_name_behind jFI (by kernel_rfl) (fun _ _ _ _ _ _ us hl=>by obtain⟨_,_,rfl⟩:=jR9 hl;rfl) (fun g hg=>by cases hg) (jAX X G VT (by kernel_rfl)) (fun y hy=>NT y (jAu (by kernel_rfl) y hy)) (by rw[jDA];exact jLh );have H_chain_from:jDH P w K mg base Ψ 11 "chain_from":=jAd X G d_chain_from jGN (by kernel_rfl) (fun _ _ _ _ _ _ us hl=>by obtain⟨_,_,_,rfl⟩:=jTe hl;rfl) (fun g hg=>by simp only[jDs,QK,Q4,or_false]at hg;rcases hg with rfl<;>first|exact H_name_behind.mono (by decide)) (jAX X G VT (by kernel_rfl)) (fun y hy=>NT y (jAu (by kernel_rfl) y hy)) (by rw[jDy];exact jNn jDA);have H_full_names:jDH P w K mg base Ψ 12 "full_names":=jAd X G d_full_names jGM (by kernel_rfl) (fun _ _ _ _ _ _ us hl=>by obtain⟨_,rfl⟩:=jRL hl;rfl) (fun g hg=>by cases hg) (jAX X G VT (by kernel_rfl)) (fun y hy=>NT y (jAu (by kernel_rfl) y hy)) (by rw[jDx];exact jQv );have H_apart_chains:jDH P w K mg base Ψ 13 "apart_chains":=jAd X G d_apart_chains jEs (by kernel_rfl) (fun _ _ _ _ _ _ us hl=>by obtain⟨_,_,_,rfl⟩:=jTe hl;rfl) (fun g hg=>by simp only[jCY,QK,Q4,or_false]at hg;rcases hg with rfl|rfl|rfl|rfl|rfl<;>first|exact H_rooms_of.mono (by decide)|exact H_points_reached.mono (by decide)|exact H_lay_chain.mono (by decide)|exact H_chain_from.mono (by decide)|exact H_full_names.mono (by decide)) (jAX X G VT (by kernel_rfl)) (fun y hy=>NT y (jAu (by kernel_rfl) y hy)) (by rw[jCd];exact jNo jDb jBD jEm jDy jDx jFs);have H_l_texts:jDH P w K mg base Ψ 14 "_law_texts":=jAd X G d_l_texts jKJ (by kernel_rfl) (fun _ _ _ _ _ _ us hl=>by obtain⟨_,rfl⟩:=jRL hl;rfl) (fun g hg=>by cases hg) (jAX X G VT (by kernel_rfl)) (fun y hy=>NT y (jAu (by kernel_rfl) y hy)) (by rw[jEn];exact jNi );have H_l_chain:jDH P w K mg base Ψ 15 "_law_chain":=jAd X G d_l_chain jKM (by kernel_rfl) (fun _ _ _ _ _ _ us hl=>by obtain⟨_,_,_,_,rfl⟩:=jVj hl;rfl) (fun g hg=>by simp only[jG1,QK,Q4,or_false]at hg;rcases hg with rfl<;>first|exact H_l_texts.mono (by decide)) (jAX X G VT (by kernel_rfl)) (fun y hy=>NT y (jAu (by kernel_rfl) y hy)) (by rw[jHF];exact jTO jEn);have H_l_apart:jDH P w K mg base Ψ 16 "_law_apart":=jAd X G d_l_apart jKN (by kernel_rfl) (fun _ _ _ _ _ _ us hl=>by obtain⟨_,rfl⟩:=jRL hl;rfl) (fun g hg=>by cases hg) (jAX X G VT (by kernel_rfl)) (fun y hy=>NT y (jAu (by kernel_rfl) y hy)) (by rw[jHG];exact jTR );have H_l_led:jDH P w K mg base Ψ 17 "_law_led":=jAd X G d_l_led jOU (by kernel_rfl) (fun _ _ _ _ _ _ us hl=>by obtain⟨_,_,_,_,rfl⟩:=jVj hl;rfl) (fun g hg=>by cases hg) (jAX X G VT (by kernel_rfl)) (fun y hy=>NT y (jAu (by kernel_rfl) y hy)) (by rw[jMc];exact jTN );have H_meets_all:jDH P w K mg base Ψ 18 "meets_all":=jAd X G d_meets_all jHN (by kernel_rfl) (fun _ _ _ _ _ _ us hl=>by obtain⟨_,_,_,_,rfl⟩:=jVj hl;rfl) (fun g hg=>by simp only[jEa,QK,Q4,or_false]at hg;rcases hg with rfl|rfl<;>first|exact H_points_reached.mono (by decide)|exact H_rooms_of.mono (by decide)) (jAX X G VT (by kernel_rfl)) (fun y hy=>NT y (jAu (by kernel_rfl) y hy)) (by rw[jEl];exact jNm jDb jBD);exact jPS (R:=Ψ.sp "law") F jUM (by kernel_rfl) (fun g hg=>by simp only[jTX,QK,Q4,or_false]at hg;rcases hg with rfl|rfl|rfl|rfl|rfl|rfl|rfl<;>first|exact H_l_web.mono (by decide)|exact H_apart_chains.mono (by decide)|exact H_l_chain.mono (by decide)|exact H_l_texts.mono (by decide)|exact H_l_apart.mono (by decide)|exact H_l_led.mono (by decide)|exact H_meets_all.mono (by decide)) (jAX X G VT (by kernel_rfl)) (fun y hy=>QBb X G (NT y (jAu (by kernel_rfl) y hy))) (by rw[jUA];exact jTQ jEl jMc jMb jCd jHF jHG jEn)
end L2.L3.K12
open PySem PySem.W PyProof.Rows
set_option maxRecDepth 100000 in
set_option maxHeartbeats 0 in
theorem PySem.Challenge.cw_quoteweave_k12_whole_cut_walked_holds : PySem.Challenge.rw_quoteweave_k12_whole_cut_walked.Holds := by
 w_on;o_law;k_head;(case hw=>w_witness2)
 k_fill
 refine L2.L3.walk_bits (l:=wN) (k:=19) (x:="_law_script") rfl rfl ⟨rfl,by decide,by decide⟩ (fun w h Y=>PySem.W.kIn_of Y) ?F
 case F =>
  intro w mg fa h KX G hmg;refine' L2.L3.K12.all KX G hmg ?d0 ?d1 ?d2 ?d3 ?d4 ?d5 ?d6 ?d7 ?d8 ?d9 ?d10 ?d11 ?d12 ?d13 ?d14 ?d15 ?d16 ?d17 ?d18 ?w0 ?w1 ?z0 ?z1 ?z2 ?z3 ?z4 ?z5 ?z6 ?z7 ?z8 ?z9
  (case d0=>refine' L2.L3.def_at ?a0 ?l0 ?c0 ?k0;(case a0=>k_is);(case l0=>k_is);(case c0=>k_is);(case k0=>k_is))
  (case d1=>refine' L2.L3.def_at ?a1 ?l1 ?c1 ?k1;(case a1=>k_is);(case l1=>k_is);(case c1=>k_is);(case k1=>k_is))
  (case d2=>refine' L2.L3.def_at ?a2 ?l2 ?c2 ?k2;(case a2=>k_is);(case l2=>k_is);(case c2=>k_is);(case k2=>k_is))
  (case d3=>refine' L2.L3.def_at ?a3 ?l3 ?c3 ?k3;(case a3=>k_is);(case l3=>k_is);(case c3=>k_is);(case k3=>k_is))
  (case d4=>refine' L2.L3.def_at ?a4 ?l4 ?c4 ?k4;(case a4=>k_is);(case l4=>k_is);(case c4=>k_is);(case k4=>k_is))
  (case d5=>refine' L2.L3.def_at ?a5 ?l5 ?c5 ?k5;(case a5=>k_is);(case l5=>k_is);(case c5=>k_is);(case k5=>k_is))
  (case d6=>refine' L2.L3.def_at ?a6 ?l6 ?c6 ?k6;(case a6=>k_is);(case l6=>k_is);(case c6=>k_is);(case k6=>k_is))
  (case d7=>refine' L2.L3.def_at ?a7 ?l7 ?c7 ?k7;(case a7=>k_is);(case l7=>k_is);(case c7=>k_is);(case k7=>k_is))
  (case d8=>refine' L2.L3.def_at ?a8 ?l8 ?c8 ?k8;(case a8=>k_is);(case l8=>k_is);(case c8=>k_is);(case k8=>k_is))
  (case d9=>refine' L2.L3.def_at ?a9 ?l9 ?c9 ?k9;(case a9=>k_is);(case l9=>k_is);(case c9=>k_is);(case k9=>k_is))
  (case d10=>refine' L2.L3.def_at ?a10 ?l10 ?c10 ?k10;(case a10=>k_is);(case l10=>k_is);(case c10=>k_is);(case k10=>k_is))
  (case d11=>refine' L2.L3.def_at ?a11 ?l11 ?c11 ?k11;(case a11=>k_is);(case l11=>k_is);(case c11=>k_is);(case k11=>k_is))
  (case d12=>refine' L2.L3.def_at ?a12 ?l12 ?c12 ?k12;(case a12=>k_is);(case l12=>k_is);(case c12=>k_is);(case k12=>k_is))
  (case d13=>refine' L2.L3.def_at ?a13 ?l13 ?c13 ?k13;(case a13=>k_is);(case l13=>k_is);(case c13=>k_is);(case k13=>k_is))
  (case d14=>refine' L2.L3.def_at ?a14 ?l14 ?c14 ?k14;(case a14=>k_is);(case l14=>k_is);(case c14=>k_is);(case k14=>k_is))
  (case d15=>refine' L2.L3.def_at ?a15 ?l15 ?c15 ?k15;(case a15=>k_is);(case l15=>k_is);(case c15=>k_is);(case k15=>k_is))
  (case d16=>refine' L2.L3.def_at ?a16 ?l16 ?c16 ?k16;(case a16=>k_is);(case l16=>k_is);(case c16=>k_is);(case k16=>k_is))
  (case d17=>refine' L2.L3.def_at ?a17 ?l17 ?c17 ?k17;(case a17=>k_is);(case l17=>k_is);(case c17=>k_is);(case k17=>k_is))
  (case d18=>refine' L2.L3.def_at ?a18 ?l18 ?c18 ?k18;(case a18=>k_is);(case l18=>k_is);(case c18=>k_is);(case k18=>k_is))
  (case w0=>refine' L2.L3.val_strs ?wa0 ?wl0 ?wh0 ?wz0;(case wa0=>k_is);(case wl0=>k_is);(case wh0=>kernel_rfl);(case wz0=>decide))
  (case w1=>refine' L2.L3.val_int' ?wa1 ?we1;(case wa1=>k_is);(case we1=>kernel_rfl))
  (case z0=>k_is)
  (case z1=>k_is)
  (case z2=>k_is)
  (case z3=>k_is)
  (case z4=>k_is)
  (case z5=>k_is)
  (case z6=>k_is)
  (case z7=>k_is)
  (case z8=>k_is)
  (case z9=>k_is)
