import PyProof.Rows.All
import Wide.All
import OpenK.AllK
import Wide.FinOn
import Lean
import PyProof.EqAt
import PyProof.EqKinds
import PyProof.TupleCall
import PySem.Challenge.RW_quoteweave_k05_worlds_read
set_option Elab.async false
set_option linter.all false
set_option genInjectivity false
set_option genSizeOf false
set_option maxRecDepth 100000
set_option maxHeartbeats 4000000
open PySem.W renaming Frag->QA,nsIn->Qt,kia_one->qB,fnOf->qh,keepIn->we,WData->Wi,mg_of->Wj,codeIn->Wz,methodObj->W7,kitx_list->W8,cellsFrom_some->QAW,instObj->QAd,lookIn->QAw,kitOne->QAx,kitx_tuple->QBM,mg_none_of->QBR,kitx_dict->QBW,plainGet->QBv
open Bool renaming false_ne_true->QC,and_eq_true->QU,false_eq_true->Qk,or_eq_true->qi,eq_iff_iff->wA,not_eq_true'->wQ,not_true->wt,not_false->WU,and_eq_true_iff->Wg,and_true->QAH,and_false->QAv,true_and->QBF,or_false->QBG
open PySem.Str renaming ofString->QD,length_append->Q2,join->Wy,length->QBZ
open PySem.Heap renaming get?_push_of_some->QE,lt_size->QV,get?_push_size->QY,SameBut->qt,size_push->qu,get?_update_other->QAY,get?_update_self->QAg,get?_push_cases->QAq,ExtBut->QA6,IsList->QA7
open PySem renaming wpAny_bind->QF,wpAny_pure->QW,sizeLine_eq->QZ,mem_of_lookup->Q9,wpAny_truthy_bool->qS,wpAny_field->qX,wpAny_callSpecial?_slot->qY,wpAny_mono->qw,wpAny_newObj_type->qy,Spec->wE,wpAny_setField_rec->wG,wpAny_seqItems->wJ,call_meets->wO,wpAny_call_entry->wd,wpAny_Call_Name_kw->wg,wpAny_holding->wu,wpAny_passesOwn->WG,strKind->WK,wpAny_Call_method_late->WQ,wpAny_pyIter_list->WT,wpAny_updateSeq_pair->Wd,codeAny_mono->Wu,wpAny_binaryOp_repeat_ref->W5,typeIs_str->QAC,wpAny_standAt->QAI,wpAny_onRaise->QAL,wpAny_pyNext_range_end->QAU,wpAny_pyIter_rangeiter->QAV,wpAny_execs_nil->QAe,typeIs_int->QAp,codeAny_call_builtin->QAr,wpAny_pyIter_range->QBJ,intBits_le_64->QBL,wpAny_pyIter_tuple->QBP,wpAny_assign_Name->QBV,wpAny_sequenceKey->QBX,slot_list_getitem->QBY,wpAny_rule->QBc,wpAny_pyIter_enum->QBd,concat_meets->QBo,wpAny_typeOf->QBp,seqIndex_neg->QBq,wpAny_execs_cons->QBu,noFill_tuple_add->QBw,wpAny_pyIter_zip->QB3,seqSlot_of->QB4,strKind_is->QB6,seqIndex_of->QCC,wpAny_letGo->QCG,wpAny_Name->QCK,strKind_is->QCL
open List renaming length_map->QG,replicate->QH,mem_cons->QI,mem_cons_of_mem->QJ,length_append->QK,length_cons->QL,mem_cons_self->QM,size_toArray->QO,not_mem_nil->QR,map_cons->QS,mem_append_right->Qb,range->Qc,getElem?_map->Qd,replicate_succ->Qe,filterMap_eq_nil_iff->Qf,filterMap_map->Qh,append_nil->Qi,getElem?_eq_some_iff->Qj,forall_mem_cons->Qm,all_eq_true->Qn,contains_iff_mem->Qo,getD_eq_getElem?_getD->Qp,getElem?_append_right->Qv,mem_singleton->Qz,isEmpty_iff->Q0,nil_append->Q3,all_cons->Q5,map_append->Q6,length_replicate->Q7,mem_map->Q8,getElem?_append_left->qD,flatten_cons->qF,length_range->qG,mem_append->qH,filterMap_append->qL,lookup_cons->qM,append_assoc->qN,getElem?_set_ne->qO,mem_of_getElem?->qP,mem_range->qQ,getElem?_eq_getElem->qT,mem_append_left->qZ,length_drop->qa,getElem?_set_self->qe,take_of_length_le->qf,getElem?_drop->ql,getElem?_replicate->qp,any_cons->qq,getElem?_set->qz,nodup_cons->wB,length_set->wC,cons_append->wD,getElem?_eq_none->wH,map->wK,length_nil->wL,ext_getElem?->wT,map_map->wW,getElem?_range->wX,length_take->wb,foldl_cons->wk,zipIdx_cons->wy,filterMap_cons->w4,length->w6,filterMap_some->w9,map_nil->WA,eq_of_mem_replicate->WC,getElem?_cons_succ->WE,set_cons_zero->WF,length_eq_zero_iff->WM,mem_iff_getElem?->WZ,drop_length->Wb,getElem?_modify->We,set->Wk,foldl->Wl,forIn_cons->Wm,range_succ->Wp,set_cons_succ->Wt,zip_cons_cons->Wx,forIn_nil->W0,drop_eq_getElem_cons->W6,nodup_append->QAD,append_cancel_right->QAG,lookup->QAK,getElem_mem->QAS,drop_eq_nil_of_le->QAb,append_eq_nil_iff->QAc,of_mem_zip->QAf,length_singleton->QAh,getD->QAi,zipIdx_nil->QAj,all_map->QAl,take_append_drop->QAm,mem_of_mem_take->QAs,mem_of_mem_drop->QAt,pairwise_append->QAu,nodup_nil->QAz,drop_zero->QA0,getElem_of_mem->QA4,map_congr_left->QBB,takeWhile_cons->QBC,dropWhile_cons->QBD,length_pos_iff->QBE,mem_filterMap->QBK,map_replicate->QBU,foldl_append->QBk,any_eq_true->QB2,take_length->QB5,filter_cons->QB7,mem_filter->QCA,length_zip->QCH
open PySem.Challenge renaming pw_quoteweave_k05_worlds_read->QN,rw_quoteweave_k05_worlds_read->Qa
open False renaming elim->QT
open Nat renaming le_refl->QX,lt_of_lt_of_le->Ql,ne_of_lt->Qu,lt_irrefl->qm,le_trans->wF,le_add_right->wz,ne_of_gt->WW,lt_or_ge->Wv,add_sub_cancel_left->QAP,zero_le->QA2,lt_succ_of_lt->QBa,le_of_lt->QBm,mul_comm->QBr,toDigits->QBt,min_eq_right->QB8,log2_lt->QCD,min_eq_left->QCJ
open Array renaming length_toList->Qg,toList_append->wa,toList->QBn,toList_inj->QB1
open Int renaming emod_lt_of_pos->Qq,emod_nonneg->Qx,toNat->WN,eq_ofNat_of_zero_le->WO,toNat_natCast->QAF,toNat_of_nonneg->QA3,emod_eq_of_lt->QBl,natCast_mul->QCF,ediv_nonneg->QCI
open Option.some renaming injEq->Qr,inj->Qw
open PySem.Builtin.SmallTypes renaming nextOf->Qs,ownedTupleIsFree->qR,fitsIndex->qr,ownedTupleHandOut->wx
open PySem.PyData renaming eqv->Qy,depthAll->wm,canLayAll0->WS,keyHash->WV,depth->WX,canLay0->QAy
open Ne renaming symm->Q4
open Option renaming map_some->qA,map_none->wU,isSome_iff_exists->QAA,getD_none->QBx,getD_some->QBy
open LawfulBEq renaming eq_of_beq->qC
open PySem.Txt renaming split->qJ,rstrip->WB,join->WL,slice->WY,slice_le->QBs
open PySem.Builtin.Int renaming intBits->qK
open PySem.Builtin.Range renaming rangeSize->qU,small->QBA
open PySem.Builtin.Str renaming occurrences->qV,strKind->QA5
open PyProof.Rows renaming callWith_type1->qW,slot_tuple_getitem->wM,slot_tuple_getitem->WI,subscriptTail_builtinR->WP,entry_tuple_getitem->QA1,args_tuple_getitem->QBN
open PySem.F renaming slot_tuple_iterator_next->qd,called_enumerate->wP,plainAttrs_list->wY,slot_zip_next->wn,slot_dict_get->wo,args_tuple_iterator_next_1->WD,entry_tuple_iterator_next->WJ,plainAttrs_str->WR,slot_tuple_mul->Wa,slot_int_rmul->Wn,entry_enumerate_new->Wo,args_str_split_2->Ww,args_tuple_add_2->QAB,entry_str_split->QAE,entry_tuple_add->QAJ,args_zip_next_1->QAM,plainAttrs_dict->QAN,slot_str_split->QAT,slot_tuple_add->QAX,entry_zip_next->QAZ,entry_dict_get->QAa,type_dict_get->QAk,args_tuple_mul_2->QBQ,args_int_rmul_2->QBb,slot_tuple_rmul->QBe,entry_tuple_mul->QBf,slot_int_index->QBz,entry_int_rmul->QB0,fills_int_mul->QCE
open PySem.SeqAt renaming EqAt->qg
open List.cons renaming injEq->qj,inj->QAO
open PySem.Builtin.List renaming listTooLong->qk
open PySem.Builtin.Slice renaming slicePlaces->wI,sliceAdjust->ww,sliceApplied->Wr
open PySem.Builtin.Tuple renaming tupleExact->wN,tupleTooMany->wv,tupleItemsOf->Ws
open PySem.Unicode renaming isSpace->wV
open PySem.W.WData renaming weightAll->wZ,weight->Wf
open PySem.Calls renaming callWith_builtin->wf,spliced_cons->WH,evalArgs_plain->Wc,Name_function_global->Wq,spliced_nil->W9
open Prod renaming fst->wj,snd->QB9
open PySem.W.KIN renaming signs_num->wq
open Iff renaming rfl->w8
open PySem.Paired renaming length->Wh
open Prod.mk renaming injEq->QAQ,inj->QAR
open Nat.succ renaming inj->QAn
open PySem.Obj renaming mapSeq->QAo,data_mapFields->QBO
open PySem.Heap.SameBut renaming update->QA8
open PySem.Shared renaming heap->QA9
open PySem.SeqAt.EqAt renaming int_str->QBH,str_int->QBI
open PySem.StrLaws renaming join_split->QBS,split_free->QBT,sliceText->QBj
open PySem.NumText renaming digitsVal->QBg,AllDigits->QBh
open Function renaming comp_def->QBi
open PyProof.Rows.IsTup renaming new->QCB
theorem dF{p:Prop}[Decidable p](h:¬p):decide p=false:=_root_.decide_eq_false h
theorem dT{p:Prop}[Decidable p](h:p):decide p=true:=_root_.decide_eq_true h
abbrev rC:=List (PySem.Addr×PySem.Obj)
abbrev xD:=PySem.Value -> PySem.Shared -> Prop
abbrev KA:=PySem.Addr -> Prop
abbrev LSS:=List (PySem.Str×PySem.Str)
set_option hygiene false in
local macro_rules | `(tactic| simp? [$ls,*])=>do
 let a<-("S_frz S_six S_pap E_join E_extend E_insert R_tup R_join R_slc X_m1 G_m G_m0 mk_1 mk_2 c_gt c_ge c_ink c_nink c_itk n_any n_lot n_tol n_tod m_jn m_tj x_l3 x_l4 x_l6 w_td lA S_set S_own S_expr S_ret S_rse S_ife S_for E_var E_int E_str E_non E_bin T_cmp E_cmp T_chn E_chn E_and T_and E_or T_or E_not T_not T_call T_isi E_isi E_bi E_prm E_split E_rstrip E_append E_idx E_slc_lo E_lst E_tup E_comp X_nop X_nop2 X_cmp A_nil A_cons A_cons_s A_cons_b R_var R_ife R_non R_bl R_call R_bin R_cmp R_and R_or R_bi R_idx R_comp G_s G_b G_o G_l H_s H_b H_o Q_d Q_n Q_l J_d J_n J_l M_d K_d K_l O_n C_d C_n nil_and if_t if_f N_0 N_1 N_2 N_3 N_4 N_5 N_6 N_7 N_8 N_9 P_nil P_d P_b P_sl L_nil L_d B_tp2 bv_k V_add V_cat V_sub V_mul V_rep V_div V_mod V_pow V_ls V_tp V_l1 V_l1' V_l2 c_eqi c_eqs c_nei c_nes c_neb c_le c_isn c_isi c_iss c_ist c_isl c_nin c_nil c_inc c_int c_nint c_inl c_innl t_b a_b i_si i_ss i_ii i_bi i_lt i_tt n_lst n_ld n_td n_ll n_all n_ib n_is n_si n_ss x_l x_ld x_td x_l2 x_s s_s s_l m_sp m_rs m_ty m_tr w_s w_l w_ll w_r1 w_zt w_ztl w_en p_tm eZ_rt eZ_nx optP_s reduceIte".splitOn " ").toArray.mapM fun x=>`(Lean.Parser.Tactic.simpLemma| ↓ $(Lean.mkIdent x.toName):ident)
 let b<-("esc escB tsOf allD T.isD lockA lockS lock kill killS Tg.ix jD vrs_var vrs_acons vrs_anil isMut frzAt frzS ownV.eq_1 ownV.eq_2 ownO.eq_1 ownO.eq_2 ownO.eq_3 ownO.eq_4 mutT_1 mutT_2 mutT_3 mutTy.eq_1 List.modify_succ_cons List.modify_zero_cons Option.map_some List.length_cons List.length_nil List.getElem?_cons_zero List.getElem?_cons_succ List.cons_append List.nil_append List.set_cons_zero List.set_cons_succ Nat.reduceAdd Nat.reduceSub Nat.zero_add Bool.and_true Bool.true_and Bool.not_true Bool.not_false Bool.or_true Bool.true_or Bool.or_false Bool.false_or Bool.and_false Bool.false_and if_true if_false Bool.false_eq_true true_and and_true false_implies ne_eq reduceCtorEq not_false_eq_true not_true_eq_false implies_true forall_const Int.reduceLT Int.reduceLE Int.reducePow Int.reduceNeg Nat.reducePow and_self eq_self Option.some.injEq Sl.own.injEq Sl.nj.injEq and_assoc decide_true decide_false".splitOn " ").toArray.mapM fun x=>`(Lean.Parser.Tactic.simpLemma| $(Lean.mkIdent x.toName):ident)
 `(tactic| simp -implicitDefEqProofs only [$ls,*,$a,*,$b,*])
namespace L2.L3.Q
open PySem PySem.Spec PyProof.Rows
noncomputable def frA(as:List Addr)(h:Heap):QA:=as.filterMap fun a=>(h.get? a).map fun o=>(a,o)
noncomputable abbrev FnV:=(Str×Str×Arguments×FuncBody×Scope)×(Addr×List (Str×Addr)×Value×Addr)×Bool
noncomputable def fnV(fd:FuncData)(b:Bool):FnV:=((fd.name,fd.qualname,fd.params,fd.body,fd.scope),(fd.globals,fd.closure,fd.defaults,fd.builtins),b)
noncomputable def XA(K:QA)(x:Str):Option FnV:=match Qt K mainGlobals x with
 |some (some (.ref f))=>(match K.lookup f with
  |some ⟨_,_,.func fd,_⟩=>some (fnV fd (Wz K fd.code x&&we K (.ref f)))
  |_=>none)
 |_=>none
noncomputable def EA(x:Str)(st:Stmt):Option FnV:=match st with
 | .FunctionDef _ a b _ _ _ sc _ _ _=>some (fnV (qh x x a b sc .none .none .none .none none .none .none) true)
 |_=>none
noncomputable def scQ:Value->Option PyData
 | .int i _=>some (.int i)
 | .str z _=>some (.str z)
 | .bool b=>some (.bool b)
 | .none=>some .none
 |_=>none
noncomputable def tupD(K:QA)(f:Addr):Option (List (Option PyData)):=match K.lookup f with
 |some ⟨.type t,_,.seq its _,_⟩=>if t="tuple" then some (its.toList.map scQ) else none
 |_=>none
noncomputable def refV:Value->Option Addr
 | .ref f=>some f
 |_=>none
noncomputable def seeV(K:QA)(u:Value):Option PyData×Option (List (Option PyData)):=match refV u with
 |some f=>(none,tupD K f)
 |none=>(scQ u,none)
noncomputable def dueV:PyData->Option PyData×Option (List (Option PyData))
 | .tuple ds=>(none,some (ds.map some))
 |d=>(some d,none)
noncomputable def keyS:Value->Option Str
 | .str z _=>some z
 |_=>none
noncomputable abbrev EntS:=Int×Option Str×Option PyData×Option (List (Option PyData))
noncomputable def seeE(K:QA)(e:DictEntry):EntS:=(e.hash,keyS e.key,seeV K e.val)
noncomputable def dueE(w:World)(p:Str×PyData):EntS:=(WV w.params p.1,some p.1,dueV p.2)
noncomputable def tD(K:QA)(x:Str):Option (List EntS):=match Qt K mainGlobals x with
 |some (some (.ref a))=>if(a==sysModules)=false then(match K.lookup a with
  |some ⟨.type t,none,.dict es _,sl⟩=>if t="dict"/\sl.size=0 then some (es.toList.map (seeE K)) else none
  |_=>none) else none
 |_=>none
noncomputable def tupX(K:QA)(x:Str):Option (List (Option PyData)):=match Qt K mainGlobals x with
 |some (some (.ref f))=>tupD K f
 |_=>none
noncomputable def valQ(K:QA)(x:Str):Option PyData:=match Qt K mainGlobals x with
 |some (some u)=>scQ u
 |_=>none
noncomputable def NC(K:QA)(x:Str):Bool:=match Qt K mainGlobals x with
 |some none=>true
 |_=>false
noncomputable def top(i:Nat):Stmt:=QN.main.body.getD i (.Pass ⟨0,0,0,0⟩)
noncomputable def qv:Program:={ QN with main:={ QN.main with body:=[top 1,top 2,top 3,top 4,top 5,top 6,top 7,top 9,top 10,top 11,top 12,top 13,top 14,top 15,top 16,top 17,top 18,top 20,top 21,top 22,top 23,top 24,top 25,top 26,top 27,top 28,top 29,top 30,top 32,top 33,top 34,top 35,top 36,top 37,top 38,top 39,top 40,top 41,top 42,top 43,top 45,top 46,top 47,top 48,top 49,top 50,top 51,top 52,top 53,top 54,top 55,top 56] } }
noncomputable abbrev SeenT:=List (Option FnV)×List (Option (List (Option PyData)))×List (Option PyData)×List Bool×List (Option (List EntS))
noncomputable def seen(K:QA):SeenT:=([XA K "_law_draw",XA K "_law_next",XA K "_law_keywords",XA K "_law_name",XA K "_law_against",XA K "_law_event",XA K "_law_world",XA K "_law_spaced",XA K "_law_text_by",XA K "_law_lines",XA K "words_in",XA K "is_made_of",XA K "is_word",XA K "is_name",XA K "number_in",XA K "number_within",XA K "value_of",XA K "values_by",XA K "form_for",XA K "are_unlike",XA K "row_of",XA K "names_of",XA K "is_told",XA K "quote_in",XA K "has_stranger",XA K "check_row",XA K "entry_of",XA K "read_world",XA K "_law_same",XA K "law"],[tupX K "KEYWORDS",tupX K "NAMED",tupX K "MOST"],[valQ K "LETTERS",valQ K "FIGURES",valQ K "MOST_LETTERS",valQ K "MOST_FIGURES",valQ K "MOST_QUOTED",valQ K "WORDING_ENDS"],[NC K "all",NC K "any",NC K "bool",NC K "enumerate",NC K "int",NC K "isinstance",NC K "len",NC K "list",NC K "range",NC K "str",NC K "tuple",NC K "zip"],[tD K "FORMS",tD K "RANGES",tD K "UNLIKE",tD K "SECTIONS",tD K "PEOPLE_AT",tD K "MATTERS_AT"])
noncomputable def due(w:World):SeenT:=([EA "_law_draw" (top 46),EA "_law_next" (top 47),EA "_law_keywords" (top 45),EA "_law_name" (top 48),EA "_law_against" (top 49),EA "_law_event" (top 50),EA "_law_world" (top 51),EA "_law_spaced" (top 53),EA "_law_text_by" (top 55),EA "_law_lines" (top 52),EA "words_in" (top 14),EA "is_made_of" (top 15),EA "is_word" (top 16),EA "is_name" (top 17),EA "number_in" (top 18),EA "number_within" (top 29),EA "value_of" (top 28),EA "values_by" (top 26),EA "form_for" (top 27),EA "are_unlike" (top 30),EA "row_of" (top 25),EA "names_of" (top 41),EA "is_told" (top 39),EA "quote_in" (top 42),EA "has_stranger" (top 40),EA "check_row" (top 38),EA "entry_of" (top 43),EA "read_world" (top 37),EA "_law_same" (top 54),EA "law" (top 56)],[some (([.str "person",.str "matter",.str "against",.str "see",.str "tell",.str "by",.str "at",.str "who",.str "what",.str "since",.str "tellers",.str "wordings",.str "apart",.str "leans",.str "hidden",.str "strike",.str "quote",.str "ground",.str "cut"]:List PyData).map some),some (([.str "name",.str "person",.str "matter"]:List PyData).map some),some (([.int 10,.int 6,.int 15,.int 80]:List PyData).map some)],[some (.str "abcdefghijklmnopqrstuvwxyz"),some (.str "0123456789"),some (.int 8),some (.int 9),some (.int 6),some (.int 6)],[true,true,true,true,true,true,true,true,true,true,true,true],[some (([("person",.tuple [.str "name",.str "rank",.str "floor",.str "needs"]),("matter",.tuple [.str "name"]),("against",.tuple [.str "name",.str "name"]),("see",.tuple [.str "time",.str "name",.str "name",.str "word"]),("tell",.tuple [.str "time",.str "name",.str "name",.str "name",.str "word"])]:List (Str×PyData)).map (dueE w)),some (([("rank",.tuple [.int 0,.int 99]),("floor",.tuple [.int 0,.int 99]),("needs",.tuple [.int 1,.int 4]),("time",.tuple [.int 0,.int 999999999]),("number",.tuple [.int 0,.int 999999999])]:List (Str×PyData)).map (dueE w)),some (([("against",.tuple [.int 1,.int 2]),("tell",.tuple [.int 2,.int 3])]:List (Str×PyData)).map (dueE w)),some (([("person",.int 0),("matter",.int 1),("against",.int 2),("see",.int 3),("tell",.int 3)]:List (Str×PyData)).map (dueE w)),some (([("see",.tuple [.int 2]),("tell",.tuple [.int 2,.int 3])]:List (Str×PyData)).map (dueE w)),some (([("against",.tuple [.int 1,.int 2]),("see",.tuple [.int 3]),("tell",.tuple [.int 4])]:List (Str×PyData)).map (dueE w))])
noncomputable def obs(s:Shared):SeenT:=seen (frA [3,6,4,31,44,56,68,80,92,104,107,112,111,117,116,124,123,131,130,138,137,139,140,141,142,143,144,145,146,147,148,149,150,151,152,153,154,161,160,166,165,173,172,180,179,187,186,194,193,195,196,197,198,199,200,201,202,203,210,209,215,214,222,221,227,226,232,231,239,238,246,245,253,252,260,259,267,266,272,271,279,278,284,283,289,288,294,293,301,300,308,307,315,314,322,321] s.heap)
end L2.L3.Q
section
open PySem PySem.W PyProof.Rows
set_option maxRecDepth 100000 in
set_option maxHeartbeats 0 in
theorem L2.L3.Q.a_false:∀w:World,(openEnds treeTable QN (w.withFollow "special-get-raises" false) 6080).map (fun s=>((openSeen L2.L3.Q.qv ["FORMS","RANGES","UNLIKE","SECTIONS","PEOPLE_AT","MATTERS_AT"] (importedModules QN.main.body) (fun s=>xlAt L2.L3.Q.qv [] s&&recOk (RowW.records Qa.row.toRowW) s) true s).1,L2.L3.Q.obs s))=some ((openGood L2.L3.Q.qv ["FORMS","RANGES","UNLIKE","SECTIONS","PEOPLE_AT","MATTERS_AT"]).1,L2.L3.Q.due (w.withFollow "special-get-raises" false)):=by intro w;kernel_rfl
set_option maxRecDepth 100000 in
set_option maxHeartbeats 0 in
theorem L2.L3.Q.b_false:∀w:World,(openEnds treeTable QN (w.withFollow "special-get-raises" false) 6080).map (fun s=>(openSeen L2.L3.Q.qv ["FORMS","RANGES","UNLIKE","SECTIONS","PEOPLE_AT","MATTERS_AT"] (importedModules QN.main.body) (fun s=>xlAt L2.L3.Q.qv [] s&&recOk (RowW.records Qa.row.toRowW) s) true s).2)=some (openGood L2.L3.Q.qv ["FORMS","RANGES","UNLIKE","SECTIONS","PEOPLE_AT","MATTERS_AT"]).2:=by intro w;kernel_rfl
set_option maxRecDepth 100000 in
set_option maxHeartbeats 0 in
theorem L2.L3.Q.a_true:∀w:World,(openEnds treeTable QN (w.withFollow "special-get-raises" true) 6080).map (fun s=>((openSeen L2.L3.Q.qv ["FORMS","RANGES","UNLIKE","SECTIONS","PEOPLE_AT","MATTERS_AT"] (importedModules QN.main.body) (fun s=>xlAt L2.L3.Q.qv [] s&&recOk (RowW.records Qa.row.toRowW) s) true s).1,L2.L3.Q.obs s))=some ((openGood L2.L3.Q.qv ["FORMS","RANGES","UNLIKE","SECTIONS","PEOPLE_AT","MATTERS_AT"]).1,L2.L3.Q.due (w.withFollow "special-get-raises" true)):=by intro w;kernel_rfl
set_option maxRecDepth 100000 in
set_option maxHeartbeats 0 in
theorem L2.L3.Q.b_true:∀w:World,(openEnds treeTable QN (w.withFollow "special-get-raises" true) 6080).map (fun s=>(openSeen L2.L3.Q.qv ["FORMS","RANGES","UNLIKE","SECTIONS","PEOPLE_AT","MATTERS_AT"] (importedModules QN.main.body) (fun s=>xlAt L2.L3.Q.qv [] s&&recOk (RowW.records Qa.row.toRowW) s) true s).2)=some (openGood L2.L3.Q.qv ["FORMS","RANGES","UNLIKE","SECTIONS","PEOPLE_AT","MATTERS_AT"]).2:=by intro w;kernel_rfl
end
namespace L2
open PySem PySem.Spec PyProof.Rows
noncomputable abbrev Key:=Sum Int Str
noncomputable def keyIs:Key->Value->Bool
 | .inl k,v=>Value.isInt k v
 | .inr x,v=>Value.isStrOf x v
noncomputable def keyH(w:World):Key->Int
 | .inl k=>hashInt k
 | .inr x=>hashStr w x
theorem aB:∀{k:Key}{v:Value},keyIs k v=true->(∃i t,k=Sum.inl i/\v=Value.int i t)∨(∃x t,k=Sum.inr x/\v=Value.str x t)
 | .inl i,v,h=>by obtain⟨t,e⟩:=Value.isInt_shape (k:=i) (v:=v) h;exact .inl ⟨i,t,rfl,e⟩
 | .inr x,v,h=>by obtain⟨t,e⟩:=Value.isStrOf_shape (x:=x) (v:=v) h;exact .inr ⟨x,t,rfl,e⟩
theorem key_ll(a b:Int):decide ((Sum.inl a:Key)=Sum.inl b)=(a==b):=by by_cases e:a=b;subst e;simp;have h:¬ (Sum.inl a:Key)=Sum.inl b:=fun q=>e (Sum.inl.inj q);rw[dF h];exact(beq_eq_false_iff_ne.mpr e).symm
theorem key_rr(a b:Str):decide ((Sum.inr a:Key)=Sum.inr b)=decide (a=b):=by by_cases e:a=b;subst e;simp;have h:¬ (Sum.inr a:Key)=Sum.inr b:=fun q=>e (Sum.inr.inj q);rw[dF h,dF e]
theorem key_lr(a:Int)(b:Str):decide ((Sum.inl a:Key)=Sum.inr b)=false:=dF (fun q=>nomatch q)
theorem key_rl(a:Str)(b:Int):decide ((Sum.inr a:Key)=Sum.inl b)=false:=dF (fun q=>nomatch q)
noncomputable def mixKind(prog:Program)(w:World):PySem.KeyKind prog w Key where
 is:=keyIs
 hash:=keyH w
 inj:=fun v a b ha hb=>by
  rcases aB ha with⟨i,t,rfl,rfl⟩| ⟨x,t,rfl,rfl⟩
  rcases aB hb with⟨j,u,rfl,e⟩| ⟨y,u,rfl,e⟩
  ·injection e with e1 _;rw[e1]
  exact nomatch e;rcases aB hb with⟨j,u,rfl,e⟩| ⟨y,u,rfl,e⟩
  ·exact nomatch e
  injection e with e1 _;rw[e1]
 byValue:=fun k v h=>by rcases aB h with⟨i,t,rfl,rfl⟩| ⟨x,t,rfl,rfl⟩<;>rfl
 pyHash:=fun hv h=>by
  rcases aB hv with⟨i,t,rfl,rfl⟩| ⟨x,t,rfl,rfl⟩
  exact wpAny_pyHash_int h;exact wpAny_pyHash_str h
 eqBool:=fun hu hv h=>by
  rcases aB hu with⟨i,t,rfl,rfl⟩| ⟨x,t,rfl,rfl⟩
  rcases aB hv with⟨j,u,rfl,rfl⟩| ⟨y,u,rfl,rfl⟩
  ·rw[key_ll]at h;exact wpAny_eqBool_int h
  rw[key_lr]at h;exact QBH i t y u _ _ _ _ h;rcases aB hv with⟨j,u,rfl,rfl⟩| ⟨y,u,rfl,rfl⟩
  ·rw[key_rl]at h;exact QBI x t j u _ _ _ _ h
  rw[key_rr]at h;exact wpAny_eqBool_str h
 «strs»:=fun k x t v h=>by
  rcases aB h with⟨i,u,rfl,e⟩| ⟨y,u,rfl,e⟩
  exact nomatch e;injection e with e1 _;subst e1;cases v<;>rfl
set_option genInjectivity true in
inductive V where
 |non|bl (b:Bool)|int (i:Int)|str (x:Str)|byt (b:Array UInt8)|flt (b:UInt64)|ref (a:Addr)|ty (n:String)
 deriving DecidableEq
noncomputable def FA:V->Value->Prop
 | .non,u=>u=Value.none
 | .bl b,u=>u=Value.bool b
 | .int i,u=>∃t,u=Value.int i t
 | .str x,u=>∃t,u=Value.str x t
 | .byt b,u=>∃t,u=Value.bytes b t
 | .flt b,u=>∃t,u=Value.float b t
 | .ref a,u=>u=Value.ref a
 | .ty n,u=>u=Value.type n
noncomputable abbrev aA:List V->List Value->Prop:=Paired FA
theorem aA.length{xs:List V}{us:List Value}(r:aA xs us):xs.length=us.length:=Wh r
theorem aA.get:∀{xs:List V}{us:List Value}{i:Nat}{x:V},aA xs us->xs[i]?=some x->∃u,us[i]?=some u/\FA x u
 |_,_,_,_,.nil,e=>by simp at e
 |_,_,0,_,.cons r _,e=>by simp at e;subst e;exact⟨_,rfl,r⟩
 |_,_,i+1,x,.cons _ t,e=>by obtain⟨u,h1,h2⟩:=aA.get (i:=i) (x:=x) t (by simpa using e);exact⟨u,by simpa using h1,h2⟩
theorem aA.set{x:V}{u:Value}(r:FA x u):∀{xs:List V}{us:List Value}(i:Nat),aA xs us->aA (xs.set i x) (us.set i u)
 |_,_,_,.nil=>.nil
 |_,_,0,.cons _ t=>.cons r t
 |_,_,i+1,.cons q t=>.cons q (aA.set r i t)
theorem aA.append:∀{xs ys:List V}{us ws:List Value},aA xs us->aA ys ws->aA (xs++ys) (us++ws)
 |_,_,_,_,.nil,s=>s
 |_,_,_,_,.cons r t,s=>.cons r (aA.append t s)
theorem aA.take:∀{xs:List V}{us:List Value}(n:Nat),aA xs us->aA (xs.take n) (us.take n)
 |_,_,0,_=>.nil
 |_,_,_+1,.nil=>.nil
 |_,_,n+1,.cons r t=>.cons r (aA.take n t)
theorem aA.drop:∀{xs:List V}{us:List Value}(n:Nat),aA xs us->aA (xs.drop n) (us.drop n)
 |_,_,0,r=>r
 |_,_,_+1,.nil=>.nil
 |_,_,n+1,.cons _ t=>aA.drop n t
noncomputable def RelO:Option V->Option Value->Prop
 |some v,some u=>FA v u
 |none,none=>True
 |_,_=>False
noncomputable def KV{κ:Type}:List (κ×V)->List (κ×Value)->Prop:=Paired fun(p:κ×V) (q:κ×Value)=>p.1=q.1/\FA p.2 q.2
noncomputable def kV:Key->V
 | .inl i=>.int i
 | .inr x=>.str x
inductive HO where
 |lst (xs:List V)
 |tup (xs:List V)
 |dK (kvs:List (Key×V))|dT (kvs:List (List Key×V))
 |set (S:Int->Bool) (n:Nat)
 |ins (C dx:Addr) (fs:List (Str×V))
 |own (x:Addr)
 |xd (fs:List (Str×V))
 |met (f x:Addr)
 |rng (lo hi:Int)
 |frz (o:Obj) (u:HO)
 |tbl (ps:Array Value)
 |ext (φ:Heap->Prop)
noncomputable abbrev Hp:=Addr->Option HO
noncomputable def FB(H:Hp)(a:Addr)(o:HO):Hp:=fun b=>if b=a then some o else H b
theorem nB{H:Hp}{a:Addr}{o:HO}:FB H a o a=some o:=by unfold FB;rw[if_pos rfl]
theorem fA{H:Hp}{a b:Addr}{o:HO}(h:b≠a):FB H a o b=H b:=by unfold FB;rw[if_neg h]
theorem SA{H:Hp}{a b:Addr}{o:HO}(h:H a=some o)(h':H b=none):a≠b:=by intro e;subst e;rw[h]at h';cases h'
section
variable(P:Program)(w:World)
noncomputable def GC(H:Hp)(h:Heap)(a:Addr):HO->Prop
 | .lst xs=>xs.length<=sizeLine/\∃(its:List Value) (n:Nat),aA xs its/\h.get? a=some { cls:=.type "list",data:=.seq its.toArray n }
 | .tup xs=>xs.length<=sizeLine/\∃its:List Value,aA xs its/\IsTup h a its.toArray
 | .dK kvs=>kvs.length<=sizeLine/\(a==sysModules)=false/\∃vs,KV kvs vs/\h.DictOf (mixKind P w) a vs
 | .dT kvs=>kvs.length<=sizeLine/\(a==sysModules)=false/\∃xs:List (List Key×Addr×Value),
   Paired (fun(p:List Key×V) (q:List Key×Addr×Value)=>p.1=q.1/\H q.2.1=some (.tup (p.1.map kV))/\FA p.2 q.2.2) kvs xs /\
   ∃o es ep,h.get? a=some o/\o.ExactDict/\o.data=.dict es ep/\es.toList=xs.map (entryOfKey (tupleKind (mixKind P w)))/\(xs.map (·.1)).Nodup
 | .set S n=>h.SetOf (intKind P w) a S n
 | .ins C dx fs=>H dx=some (.own a)/\fs.length<=1000/\dx≠a/\h.get? a=some (QAd C dx) /\
   ∃mA,h.Ns1 dx mA/\(∀f,RelO (fs.lookup f) (mA f))/\PySem.Within mA (fs.map (·.1))
 | .own _=>∃o,h.get? a=some o
 | .xd fs=>∃mA,h.Ns1 a mA/\∀f,RelO (fs.lookup f) (mA f)
 | .rng lo hi=>∃t u v,h.get? a=some { cls:=.type "range",data:=.fields #[.int lo t,.int hi u,.int 1 v] }
 | .frz o u=>h.get? a=some o/\GC H h a u
 | .tbl ps=>h.get? a=some { cls:=.none,data:=.fields ps }
 | .met f x=>h.get? a=some (W7 (.ref f) (.ref x))
 | .ext φ=>φ h/\(∃o,h.get? a=some o)/\∀h1 h2:Heap,φ h1->(∀o,h1.get? a=some o->h2.get? a=some o)->φ h2
def HOk(H:Hp)(h:Heap):Prop:=∀a o,H a=some o->GC P w H h a o
end
section
variable{P:Program}{w:World}{H H':Hp}{h h':Heap}{a:Addr}{o:HO}
theorem GC.lt(x:GC P w H h a o):a<h.objs.size:=by
 cases o with
 |lst xs=>obtain⟨_,_,_,_,e⟩:=x;exact QV e
 |tup xs=>obtain⟨_,_,_,p⟩:=x;exact p.lt
 |dK kvs=>obtain⟨_,_,_,_,o,_,_,e,_⟩:=x;exact QV e
 |dT kvs=>obtain⟨_,_,_,_,o,_,_,e,_⟩:=x;exact QV e
 |set S n=>obtain⟨o,_,_,_,e,_⟩:=x;exact QV e
 |ins C dx fs=>obtain⟨_,_,_,e,_⟩:=x;exact QV e
 |own y=>obtain⟨_,e⟩:=x;exact QV e
 |xd fs=>obtain⟨_,⟨_,_,_,e,_⟩,_⟩:=x;exact QV e
 |rng lo hi=>obtain⟨_,_,_,e⟩:=x;exact QV e
 |frz ob u=>obtain⟨e,_⟩:=x;exact QV e
 |tbl ps=>exact QV (show h.get? a=some _ from x)
 |met f y=>exact QV (show h.get? a=some _ from x)
 |ext φ=>obtain⟨_,⟨_,e⟩,_⟩:=x;exact QV e
theorem Paired.mapP{α β:Type}{F G:α->β->Prop}:∀{l₁:List α}{l₂:List β},Paired F l₁ l₂->(∀a b,F a b->G a b)->Paired G l₁ l₂
 |_,_,.nil,_=>.nil
 |_,_,.cons r t,f=>.cons (f _ _ r) (Paired.mapP t f)
theorem GC.stay(x:GC P w H h a o)(k:∀b u,(b=a∨H b=some (.own a))->h.get? b=some u->h'.get? b=some u)
  (ho:∀b,H b=some (.own a)->H' b=some (.own a)) (ht:∀b xs,H b=some (.tup xs)->H' b=some (.tup xs)):GC P w H' h' a o:=by
 induction o with
 |lst xs=>obtain⟨z,its,n,r,e⟩:=x;exact⟨z,its,n,r,k _ _ (.inl rfl) e⟩
 |tup xs=>obtain⟨z,its,r,ob,e,c⟩:=x;exact⟨z,its,r,ob,k _ _ (.inl rfl) e,c⟩
 |dK kvs=>obtain⟨z,y,vs,r,ob,es,ep,e,c⟩:=x;exact⟨z,y,vs,r,ob,es,ep,k _ _ (.inl rfl) e,c⟩
 |dT kvs=>obtain⟨z,y,xs,r,ob,es,ep,e,c⟩:=x;exact⟨z,y,xs,Paired.mapP r fun p q z=>⟨z.1,ht _ _ z.2.1,z.2.2⟩,ob,es,ep,k _ _ (.inl rfl) e,c⟩
 |set S n=>obtain⟨ob,es,ep,t,e,c⟩:=x;exact⟨ob,es,ep,t,k _ _ (.inl rfl) e,c⟩
 |ins C dx fs=>obtain⟨d,z,ne,e,mA,⟨od,es,ep,e2,c⟩,r⟩:=x;exact⟨ho _ d,z,ne,k _ _ (.inl rfl) e,mA,⟨od,es,ep,k _ _ (.inr d) e2,c⟩,r⟩
 |own y=>obtain⟨ob,e⟩:=x;exact⟨ob,k _ _ (.inl rfl) e⟩
 |xd fs=>obtain⟨mA,⟨od,es,ep,e,c⟩,r⟩:=x;exact⟨mA,⟨od,es,ep,k _ _ (.inl rfl) e,c⟩,r⟩
 |rng lo hi=>obtain⟨t,u,v,e⟩:=x;exact⟨t,u,v,k _ _ (.inl rfl) e⟩
 |frz ob u ih=>obtain⟨e,q⟩:=x;exact⟨k _ _ (.inl rfl) e,ih q⟩
 |tbl ps=>have e:h.get? a=some { cls:=.none,data:=.fields ps }:=x;show h'.get? a=some { cls:=.none,data:=.fields ps };exact k a _ (.inl rfl) e
 |met f y=>have e:h.get? a=some (W7 (.ref f) (.ref y)):=x;show h'.get? a=some (W7 (.ref f) (.ref y));exact k a _ (.inl rfl) e
 |ext φ=>obtain⟨p,⟨o,e⟩,st⟩:=x;exact⟨st _ _ p fun o q=>k _ _ (.inl rfl) q,⟨o,k _ _ (.inl rfl) e⟩,st⟩
theorem HOk.lt(x:HOk P w H h)(e:H a=some o):a<h.objs.size:=(x a o e).lt
theorem HOk.fresh(x:HOk P w H h)(e:h.objs.size<=a):H a=none:=by
 cases q:H a with
 |none=>rfl
 |some u=>exact absurd (Ql (x.lt q) e) (qm _)
theorem HOk.kept(x:HOk P w H h)(k:∀b u,h.get? b=some u->h'.get? b=some u):HOk P w H h':=fun a o e =>
 (x a o e).stay (fun b u _ q=>k b u q) (fun _ q=>q) fun _ _ q=>q
theorem HOk.laid(x:HOk P w H h)(k:∀b u,h.get? b=some u->h'.get? b=some u)(hp:h.objs.size<=a)(new:GC P w (FB H a o) h' a o):HOk P w (FB H a o) h':=fun b u e=>by have hn:=x.fresh hp;by_cases hb:b=a;subst hb;rw[nB]at e;cases e;exact new;rw[fA hb]at e;exact(x b u e).stay (fun c v _ q=>k c v q) (fun c q=>by rw[fA (SA q hn)];exact q) fun c xs q=>by rw[fA (SA q hn)];exact q
end
def Rd(H:Hp)(a:Addr)(u:HO):Prop:=H a=some u∨∃o,H a=some (.frz o u)
theorem Rd.ok{P:Program}{w:World}{H:Hp}{h:Heap}{a:Addr}{u:HO}(r:Rd H a u)(x:HOk P w H h):GC P w H h a u:=by
 rcases r with r|⟨o,r⟩
 exact x a u r;obtain⟨_,q⟩:=x a _ r;exact q
noncomputable def Mut:Option HO->Prop
 |some (.lst _)=>True
 |some (.dK _)=>True
 |some (.dT _)=>True
 |some (.set _ _)=>True
 |some (.ins _ _ _)=>True
 |some (.ext _)=>True
 |_=>False
section
variable{P:Program}{w:World}{H:Hp}{h h':Heap}{x e:Addr}{o':HO}
theorem HOk.write(ok:HOk P w H h)(mu:Mut (H x))(he:e=x∨H e=some (.own x))(k:∀b u,b≠e->h.get? b=some u->h'.get? b=some u)(heo:∃u,h'.get? e=some u)
  (new:GC P w (FB H x o') h' x o'):HOk P w (FB H x o') h':=fun b u q=>by
 have nown:∀c y,H c=some (.own y)->c≠x:=fun c y r z=>by subst z;rw[r]at mu;exact mu
 have ntup:∀c xs,H c=some (.tup xs)->c≠x:=fun c xs r z=>by subst z;rw[r]at mu;exact mu
 by_cases hb:b=x;subst hb;rw[nB]at q;cases q;exact new;rw[fA hb]at q;by_cases hbe:b=e;have q':H b=some (.own x):=by rcases he with z|z;exact absurd (hbe.trans z) hb;rw[hbe];exact z
 rw[q]at q';cases q';obtain⟨v,hv⟩:=heo;exact⟨v,by rw[hbe];exact hv⟩;refine(ok b u q).stay (fun c v hc r=>k c v ?_ r) (fun c r=>by rw[fA (nown c b r)];exact r) fun c xs r=>by rw[fA (ntup c xs r)];exact r
 rcases hc with rfl|hc;exact hbe;rintro rfl;rcases he with z|z;exact nown c b hc z;rw[hc]at z;cases z;exact hb rfl
end
structure Un(fs ex:List Addr)(H H':Hp)(h h':Heap):Prop where
 keep:∀b o,h.get? b=some o->H b=none->b∉fs->b∉ex->h'.get? b=some o
 slot:∀b o,h.get? b=some o->H b=none->b∈fs->b∉ex->∃sl,h'.get? b=some { o with slots:=sl }
 free:∀b o,h.get? b=some o->H b=none->b∉ex->H' b=none
 there:∀b o,h.get? b=some o->b∉ex->∃o',h'.get? b=some o'
 tups:∀b xs,H b=some (.tup xs)->H' b=some (.tup xs)
 frzs:∀b o u,H b=some (.frz o u)->H' b=some (.frz o u)
 tbls:∀b ps,H b=some (.tbl ps)->∃more,H' b=some (.tbl (ps++more))
section
variable{fs fs' ex ex':List Addr}{H H1 H2:Hp}{h h1 h2 h':Heap}{a x e:Addr}{o:HO}
theorem Un.any(u:Un fs ex H H1 h h1){b:Addr}{ob:Obj}(q:h.get? b=some ob)(n:H b=none)(hx:b∉ex):∃sl,h1.get? b=some { ob with slots:=sl }:=by by_cases hb:b∈fs;exact u.slot b ob q n hb hx;exact⟨ob.slots,u.keep b ob q n hb hx⟩
theorem Un.kept(k:∀b u,h.get? b=some u->h'.get? b=some u):Un fs ex H H h h' :=
 ⟨fun b ob q _ _ _=>k b ob q,fun b ob q _ _ _=>⟨ob.slots,k b ob q⟩,fun _ _ _ n _=>n,fun b ob q _=>⟨ob,k b ob q⟩,fun _ _ q=>q,fun _ _ _ q=>q,fun _ ps q=>⟨#[],by rw[q];simp⟩⟩
theorem Un.refl:Un fs ex H H h h:=Un.kept fun _ _ q=>q
theorem Un.laid(k:∀b u,h.get? b=some u->h'.get? b=some u)(hp:h.objs.size<=a)(hn:H a=none):Un fs ex H (FB H a o) h h' where
 keep:=fun b u q _ _ _=>k b u q
 slot:=fun b u q _ _ _=>⟨u.slots,k b u q⟩
 free:=fun b u q n _=>by rw[fA (Qu (Ql (QV q) hp))];exact n
 there:=fun b u q _=>⟨u,k b u q⟩
 tups:=fun b xs q=>by rw[fA (SA q hn)];exact q
 frzs:=fun b u xs q=>by rw[fA (SA q hn)];exact q
 tbls:=fun b ps q=>⟨#[],by rw[fA (SA q hn),q];simp⟩
theorem Un.write(mu:Mut (H x))(he:e=x∨H e=some (.own x))(k:∀b u,b≠e->h.get? b=some u->h'.get? b=some u)(heo:∃u,h'.get? e=some u):Un fs ex H (FB H x o) h h':=by
 have hx:∀b,H b=none->b≠x:=fun b n z=>by subst z;rw[n]at mu;exact mu
 have hb:∀b,H b=none->b≠e:=fun b n z=>by subst z;rcases he with r|r;exact hx b n r;rw[n]at r;cases r
 have hm:∀b u,H b=some u->¬ Mut (some u)->b≠x:=fun b u q nm z=>by subst z;rw[q]at mu;exact nm mu
 refine⟨fun b u q n _ _=>k b u (hb b n) q,fun b u q n _ _=>⟨u.slots,k b u (hb b n) q⟩,fun b u q n _=>by rw[fA (hx b n)];exact n,fun b u q _=>?_,
  fun b xs q=>by rw[fA (hm b _ q fun z=>z)];exact q,fun b u xs q=>by rw[fA (hm b _ q fun z=>z)];exact q,fun b ps q=>⟨#[],by rw[fA (hm b _ q fun z=>z),q];simp⟩⟩
 by_cases hbe:b=e;subst hbe;exact heo;exact⟨u,k b u hbe q⟩
end
noncomputable def trk(h:Heap)(H:Hp):List Addr:=(Qc h.objs.size).filter fun a=>(H a).isSome
noncomputable def hidT(h:Heap)(H:Hp):Heap:=PySem.W.hideAll h (trk h H)
theorem hidT_size(h:Heap)(H:Hp):(hidT h H).objs.size=h.objs.size:=PySem.W.hideAll_size _ _
theorem hidT_get{h:Heap}{H:Hp}{b:Addr}{o:Obj}(e:h.get? b=some o)(n:H b=none):(hidT h H).get? b=some o :=
 PySem.W.hideAll_get _ e fun hm=>by have q:(H b).isSome=true:=(QCA.mp hm).2;rw[n]at q;simp at q
theorem of_hidT{h:Heap}{H:Hp}{b:Addr}{o:Obj}(e:(hidT h H).get? b=some o):h.get? b=some o/\H b=none:=by
 have e':h.get? b=some o:=PySem.W.of_hideAll (trk h H) e;refine⟨e',?_⟩;cases q:H b with
 |none=>rfl
 |some x=>have hm:b∈trk h H:=QCA.mpr ⟨qQ.mpr (QV e'),by simp[q]⟩;have z:(hidT h H).get? b=none:=PySem.W.hideAll_none (trk h H) hm;rw[z]at e;cases e
structure Mod(K:QA)(mg:Str->Option Value)(base:Heap):Prop where
 kin:K.In base
 glob:base.Ns mainGlobals mg
 blt:∃mb,base.Ns builtinsNs mb/\∀x:Str,x≠"__name__"->mb x=bootBuiltins x
 nolimit:base.NoLimit
structure Cx where
 prog:Program
 w:World
 K:QA
 mg:Str->Option Value
 base:Heap
 A:Around
 N:List Str
 s₀:Shared
 H₀:Hp
 env:Env
 outer:List Env
 stack:List Env
 ex:List Addr
 fn:Str->Bool
 calm:Bool
 pn:rC
 xe:Value->Shared->Prop
noncomputable def frs(l:List Env):List Addr:=l.filterMap (·.frame)
noncomputable abbrev Cx.fs(X:Cx):List Addr:=frs X.outer
def Vis(sc:Scope)(x:Str):Prop:=sc.names.lookup x=some .local∨sc.names.lookup x=some .cell∨sc.names.lookup x=some .free
def Loc(sc:Scope)(x:Str):Prop:=sc.names.lookup x=some .local∨sc.names.lookup x=some .cell
def Look(env:Env)(h:Heap)(m:Str->Option Value)(x:Str)(u:Value):Prop :=
 (env.kindOf x=some .local/\m x=some u)∨((env.kindOf x=some .cell∨env.kindOf x=some .free)/\∃c,env.cells.lookup x=some c/\h.IsCell c (some u))
structure Cx.Ok(X:Cx):Prop where
 mod:Mod X.K X.mg X.base
 kind:X.env.scope.kind=.function
 glob:X.env.globals=mainGlobals
 blt:X.env.builtins=builtinsNs
 above:X.s₀.heap.objs.size<=X.env.locals
 inj:∀x y c,X.env.cells.lookup x=some c->X.env.cells.lookup y=some c->x=y
 has:∀x,(X.env.kindOf x=some .cell∨X.env.kindOf x=some .free)->∃c,X.env.cells.lookup x=some c
 cab:∀x c,X.fn x=true->X.env.cells.lookup x=some c->X.s₀.heap.objs.size<=c
 hd:X.calm=true->X.A.handled=none
 frames:X.A.frames=some X.stack
 stk:X.stack=X.outer∨(X.stack=X.env::X.outer/\X.env.frame=some X.env.locals)
 exf:∀b∈X.ex,b≠X.env.locals/\∀x c,X.env.cells.lookup x=some c->c≠b
 bs:∀b o,X.base.get? b=some o->X.s₀.heap.get? b=some o/\X.H₀ b=none
 bsz:X.base.objs.size<=X.s₀.heap.objs.size
 noex:∀b o,X.base.get? b=some o->b∉X.ex
 exfs:∀b∈X.ex,b∉X.fs
 funs:X.s₀.heap.FunFrames X.base X.outer
 frf:∀b∈X.fs,X.H₀ b=none
structure Inv(X:Cx)(pins:rC)(σ:List (Option V))(H:Hp)(s:Shared):Prop where
 ok:X.Ok
 os:s.os=X.s₀.os
 bare:AllBare s.gens
 base:Un X.fs X.ex X.H₀ H X.s₀.heap s.heap
 loc:∃m,s.heap.Ns X.env.locals m/\∀(i:Nat) (x:Str) (v:V),X.N[i]?=some x->σ[i]?=some (some v)->Vis X.env.scope x->∃u,FA v u/\Look X.env s.heap m x u
 cell:∀x c,X.env.cells.lookup x=some c->∃v,s.heap.IsCell c v
 free:H X.env.locals=none
 freeC:∀x c,X.env.cells.lookup x=some c->H c=none
 pin:∀p∈X.pn++pins,s.heap.get? p.1=some p.2/\H p.1=none/\p.1≠X.env.locals/\p.1∉X.fs/\∀v,p.2.data≠.cell v
 hok:HOk X.prog X.w H s.heap
 len:σ.length=X.N.length
section
variable{X:Cx}{pins:rC}{σ:List (Option V)}{H H':Hp}{s:Shared}{h':Heap}
theorem Cx.Ok.nofr(ok:X.Ok){b:Addr}{o:Obj}(e:X.base.get? b=some o):b∉X.fs:=fun hb=>by have:=(ok.funs.mem hb).1;rw[e]at this;cases this
theorem Inv.bs(I:Inv X pins σ H s):∀b o,X.base.get? b=some o->s.heap.get? b=some o/\H b=none:=fun b o e =>
 ⟨I.base.keep b o (I.ok.bs b o e).1 (I.ok.bs b o e).2 (I.ok.nofr e) (I.ok.noex b o e),I.base.free b o (I.ok.bs b o e).1 (I.ok.bs b o e).2 (I.ok.noex b o e)⟩
theorem Inv.bk(I:Inv X pins σ H s):∀b o,X.base.get? b=some o->s.heap.get? b=some o:=fun b o e=>(I.bs b o e).1
theorem Inv.mod(I:Inv X pins σ H s):Mod X.K X.mg X.base:=I.ok.mod
theorem Inv.kIn(I:Inv X pins σ H s):X.K.In s.heap:=I.ok.mod.kin.keeps I.bk
theorem Inv.lt(I:Inv X pins σ H s):X.env.locals<s.heap.objs.size:=let⟨_,hn,_⟩:=I.loc;hn.lt
theorem Inv.sz(I:Inv X pins σ H s):X.s₀.heap.objs.size<=s.heap.objs.size:=wF I.ok.above (QBm I.lt)
theorem Inv.nofs(I:Inv X pins σ H s){a:Addr}(h:s.heap.objs.size<=a):a∉X.fs:=fun hb=>by obtain⟨_,o,ho,_⟩:=I.ok.funs.mem hb;exact absurd (Ql (QV ho) (wF I.sz h)) (qm _)
theorem Inv.cne(I:Inv X pins σ H s):∀x c,X.env.cells.lookup x=some c->c≠X.env.locals:=fun x c e z=>by obtain⟨v,o,ho,hd⟩:=I.cell x c e;obtain⟨m,⟨o',es,ep,ho',hd',_⟩,_⟩:=I.loc;rw[z,ho']at ho;cases ho;rw[hd']at hd;cases hd
theorem Inv.funs(I:Inv X pins σ H s):s.heap.FunFrames X.base X.outer:=by
 have all:∀(l:List Env),(∀b∈frs l,b∈X.fs)->X.s₀.heap.FunFrames X.base l->s.heap.FunFrames X.base l:=by
  intro l;induction l with
  |nil=>intro _ _;trivial
  |cons env r ih=>intro hs hl;obtain⟨hk,⟨L,o,hf,hn,ho,hd⟩,hr⟩:=hl;have hL:L∈X.fs:=hs L (by unfold frs;rw[w4,hf];exact QM);obtain⟨sl,e⟩:=I.base.slot L o ho (I.ok.frf L hL) hL fun z=>I.ok.exfs L z hL;exact⟨hk,⟨L,_,hf,hn,e,hd⟩,ih (fun b hb=>hs b (by unfold frs;rw[w4,hf];exact QJ _ hb)) hr⟩
 exact all X.outer (fun _ hb=>hb) I.ok.funs
theorem Inv.stack(I:Inv X pins σ H s):s.heap.FunFrames X.base X.stack:=by
 rcases I.ok.stk with e|⟨e,hf⟩
 rw[e];exact I.funs;rw[e];obtain⟨m,hn,_⟩:=I.loc;refine .cons (by rw[I.ok.kind];decide) hf hn ?_ I.funs;exact Heap.get?_none_of_le (wF I.ok.bsz I.ok.above)
theorem Inv.stkSub(I:Inv X pins σ H s):∀b∈frs X.stack,b∈X.env.locals::X.fs:=fun b hb=>by
 rcases I.ok.stk with e|⟨e,hf⟩
 rw[e]at hb;exact QJ _ hb;rw[e]at hb;unfold frs at hb;rw[w4,hf]at hb;exact hb
theorem Inv.stkFree(I:Inv X pins σ H s):∀b∈frs X.stack,H b=none:=fun b hb=>by rcases QI.mp (I.stkSub b hb) with e|hb;rw[e];exact I.free;obtain⟨_,o,ho,_⟩:=I.ok.funs.mem hb;exact I.base.free b o ho (I.ok.frf b hb) fun z=>I.ok.exfs b z hb
theorem Inv.step{g':Array GenState}{t':Nat}{d':Drawn}{ch:List Addr}(I:Inv X pins σ H s)
  (hch:∀b∈ch,(b∈X.ex∨X.s₀.heap.objs.size<=b)/\b≠X.env.locals/\(∀x c,X.env.cells.lookup x=some c->c≠b)/\∀p∈X.pn++pins,p.1≠b)
  (keep:∀b o,b≠X.env.locals->b∉X.fs->b∉ch->s.heap.get? b=some o->H b=none->h'.get? b=some o)
  (slot:∀b o,b≠X.env.locals->b∈X.fs->b∉ch->s.heap.get? b=some o->H b=none->∃sl,h'.get? b=some { o with slots:=sl }) (free:∀b o,b∉ch->s.heap.get? b=some o->H b=none->H' b=none)
  (there:∀b o,b∉ch->s.heap.get? b=some o->∃o',h'.get? b=some o')
  (tups:∀b xs,H b=some (.tup xs)->H' b=some (.tup xs)) (frzs:∀b o u,H b=some (.frz o u)->H' b=some (.frz o u)) (tbls:∀b ps,H b=some (.tbl ps)->∃more,H' b=some (.tbl (ps++more)))
  (ns:∀m,s.heap.Ns X.env.locals m->h'.Ns X.env.locals m) (hok:HOk X.prog X.w H' h') (hg:AllBare g') :
  Inv X pins σ H' { s with heap:=h',gens:=g',drawn:=d',toks:=t' }:=by
 have neL:∀b o,X.s₀.heap.get? b=some o->b≠X.env.locals:=fun b o e=>Qu (Ql (QV e) I.ok.above);have neC:∀b o,X.s₀.heap.get? b=some o->b∉X.ex->b∉ch:=fun b o e hx hb=>by rcases(hch b hb).1 with z|z;exact hx z;exact absurd (Ql (QV e) z) (qm _)
 have cellK:∀x c,X.env.cells.lookup x=some c->∀v,s.heap.IsCell c v->h'.IsCell c v:=fun x c e v ⟨o,ho,hd⟩=>by have nch:c∉ch:=fun z=>(hch c z).2.2.1 x c e rfl;by_cases hc:c∈X.fs;obtain⟨sl,q⟩:=slot c o (I.cne x c e) hc nch ho (I.freeC x c e);exact⟨_,q,hd⟩;exact⟨o,keep c o (I.cne x c e) hc nch ho (I.freeC x c e),hd⟩
 refine⟨I.ok,I.os,hg,⟨fun b o e n hb hx=>?_,fun b o e n hb hx=>?_,fun b o e n hx=>?_,fun b o e hx=>?_,fun b xs e=>tups b xs (I.base.tups b xs e),fun b o xs e=>frzs b o xs (I.base.frzs b o xs e),fun b ps e=>?_⟩,?_,fun x c e=>?_,?_,fun x c e=>?_,fun p hp=>?_,hok,I.len⟩;exact keep b o (neL b o e) hb (neC b o e hx) (I.base.keep b o e n hb hx) (I.base.free b o e n hx);obtain⟨sl,e1⟩:=I.base.slot b o e n hb hx;obtain⟨sl',e2⟩:=slot b _ (neL b o e) hb (neC b o e hx) e1 (I.base.free b o e n hx);exact⟨sl',e2⟩;obtain⟨o',e1⟩:=I.base.there b o e hx;exact free b o' (neC b o e hx) e1 (I.base.free b o e n hx);obtain⟨o',e1⟩:=I.base.there b o e hx;exact there b o' (neC b o e hx) e1;obtain⟨m1,e1⟩:=I.base.tbls b ps e;obtain⟨m2,e2⟩:=tbls b _ e1;exact⟨m1++m2,by rw[e2,Array.append_assoc]⟩;obtain⟨m,hn,hl⟩:=I.loc;refine⟨m,ns m hn,fun i x v e1 e2 e3=>?_⟩;obtain⟨u,r,l⟩:=hl i x v e1 e2 e3;refine⟨u,r,?_⟩;rcases l with l|⟨k,c,e,z⟩
 exact .inl l;exact .inr ⟨k,c,e,cellK x c e _ z⟩;obtain⟨v,z⟩:=I.cell x c e;exact⟨v,cellK x c e v z⟩;obtain⟨m,⟨o,_,_,ho,_⟩,_⟩:=I.loc;exact free _ o (fun z=>(hch _ z).2.1 rfl) ho I.free;obtain⟨v,o,ho,hd⟩:=I.cell x c e;exact free c o (fun z=>(hch c z).2.2.1 x c e rfl) ho (I.freeC x c e);obtain⟨e,n,ne,nf,d⟩:=I.pin p hp;have nch:p.1∉ch:=fun z=>(hch p.1 z).2.2.2 p hp rfl;exact⟨keep p.1 p.2 ne nf nch e n,free p.1 p.2 nch e n,ne,nf,d⟩
theorem Inv.un{t':Nat}(I:Inv X pins σ H s)(u:Un X.fs [] H H' s.heap h')(hok:HOk X.prog X.w H' h'):Inv X pins σ H' { s with heap:=h',toks:=t' }:=by obtain⟨m,⟨o,es,ep,ho,r⟩,_⟩:=id I.loc;obtain⟨sl,hL⟩:=u.any ho I.free (by simp);exact I.step (g':=s.gens) (d':=s.drawn) (ch:=[]) (fun _ z=>nomatch z) (fun b o _ hb _ e n=>u.keep b o e n hb (by simp)) (fun b o _ hb _ e n=>u.slot b o e n hb (by simp)) (fun b o _ e n=>u.free b o e n (by simp)) (fun b o _ e=>u.there b o e (by simp)) u.tups u.frzs u.tbls (fun m' hm=>by obtain⟨o',es',ep',ho',r'⟩:=hm;rw[ho]at ho';cases ho';exact⟨_,es',ep',hL,r'⟩) hok I.bare
theorem Inv.call{g':Array GenState}{t':Nat}{d':Drawn}{ch:List Addr}(I:Inv X pins σ H s)(u:Un (frs X.stack) ch H H' s.heap h')(hok:HOk X.prog X.w H' h')(hg:AllBare g')
  (hch:∀b∈ch,(b∈X.ex∨X.s₀.heap.objs.size<=b)/\b≠X.env.locals/\(∀x c,X.env.cells.lookup x=some c->c≠b)/\∀p∈X.pn++pins,p.1≠b) :
  Inv X pins σ H' { s with heap:=h',gens:=g',drawn:=d',toks:=t' }:=by
 obtain⟨m,⟨o,es,ep,ho,r⟩,_⟩:=id I.loc;obtain⟨sl,hL⟩:=u.any ho I.free fun z=>(hch _ z).2.1 rfl;exact I.step (ch:=ch) hch (fun b o hL hb hc e n=>u.keep b o e n (fun z=>(QI.mp (I.stkSub b z)).elim hL hb) hc) (fun b o _ _ hc e n=>u.any e n hc) (fun b o hc e n=>u.free b o e n hc) (fun b o hc e=>u.there b o e hc) u.tups u.frzs u.tbls (fun m' hm=>by obtain⟨o',es',ep',ho',r'⟩:=hm;rw[ho]at ho';cases ho';exact⟨_,es',ep',hL,r'⟩) hok hg
theorem Inv.turned{t':Nat}{it:Addr}(I:Inv X pins σ H s)(k:∀b o,b≠it->s.heap.get? b=some o->h'.get? b=some o)(hn:H it=none)(hL:it≠X.env.locals)
  (h1:it∈X.ex∨X.s₀.heap.objs.size<=it) (h2:∀x c,X.env.cells.lookup x=some c->c≠it) (h3:∀p∈X.pn++pins,p.1≠it):Inv X pins σ H { s with heap:=h',toks:=t' }:=by
 have nit:∀b u,H b=some u->b≠it:=fun b u e z=>by rw[z,hn]at e;cases e
 refine I.step (g':=s.gens) (d':=s.drawn) (ch:=[it]) (fun b hb=>?_) (fun b o _ _ hc e _=>k b o (fun z=>hc (by simp[z])) e) (fun b o _ _ hc e _=>⟨o.slots,k b o (fun z=>hc (by simp[z])) e⟩) (fun _ _ _ _ n=>n)
  (fun b o hc e=>⟨o,k b o (fun z=>hc (by simp[z])) e⟩) (fun _ _ e=>e) (fun _ _ _ e=>e) (fun b ps e=>⟨#[],by rw[e];simp⟩) (fun m hm=>?_) (fun b u e=>?_) I.bare
 have e:b=it:=by simpa using hb
 subst e;exact⟨h1,hL,h2,h3⟩;obtain⟨o,es,ep,ho,r⟩:=hm;exact⟨o,es,ep,k _ o (Q4 hL) ho,r⟩;refine(I.hok b u e).stay (fun c v hc q=>k c v ?_ q) (fun _ q=>q) fun _ _ q=>q;rcases hc with z|z;rw[z];exact nit b u e;exact nit c _ z
theorem Inv.tok(I:Inv X pins σ H s)(t:Nat):Inv X pins σ H { s with toks:=t }:=I.un (h':=s.heap) (t':=t) Un.refl I.hok
theorem Inv.kept{t':Nat}(I:Inv X pins σ H s)(k:∀b u,s.heap.get? b=some u->h'.get? b=some u):Inv X pins σ H { s with heap:=h',toks:=t' }:=I.un (Un.kept k) (I.hok.kept k)
theorem Inv.laid{a:Addr}{o:HO}{t':Nat}(I:Inv X pins σ H s)(k:∀b u,s.heap.get? b=some u->h'.get? b=some u)(hp:s.heap.objs.size<=a)(new:GC X.prog X.w (FB H a o) h' a o) :
  Inv X pins σ (FB H a o) { s with heap:=h',toks:=t' }:=I.un (Un.laid k hp (I.hok.fresh hp)) (I.hok.laid k hp new)
theorem Inv.write{x e:Addr}{o:HO}{t':Nat}(I:Inv X pins σ H s)(mu:Mut (H x))(he:e=x∨H e=some (.own x))(k:∀b u,b≠e->s.heap.get? b=some u->h'.get? b=some u)(heo:∃u,h'.get? e=some u)
  (new:GC X.prog X.w (FB H x o) h' x o):Inv X pins σ (FB H x o) { s with heap:=h',toks:=t' }:=I.un (Un.write mu he k heo) (I.hok.write mu he k heo new)
theorem Inv.pins_of{pins':rC}(I:Inv X pins σ H s)(h:∀p∈pins',s.heap.get? p.1=some p.2/\H p.1=none/\p.1≠X.env.locals/\p.1∉X.fs/\∀v,p.2.data≠.cell v):Inv X pins' σ H s :=
 ⟨I.ok,I.os,I.bare,I.base,I.loc,I.cell,I.free,I.freeC,fun p hp=>(qH.mp hp).elim (fun z=>I.pin p (qZ _ z)) (h p),I.hok,I.len⟩
theorem nodup_ix{N:List Str}(hN:N.Nodup){i j:Nat}{x:Str}(a:N[i]?=some x)(b:N[j]?=some x):i=j:=by obtain⟨h1,e1⟩:=Qj.mp a;obtain⟨h2,e2⟩:=Qj.mp b;exact(List.getElem_inj hN).mp (e1.trans e2.symm)
theorem store_ok2{M:Model}{A:Around}{E:xD}{i:Nat}{x:Str}{v:V}{u:Value}{Q:Unit->Shared->Prop}(I:Inv X pins σ H s)(hN:X.N.Nodup)(hi:X.N[i]?=some x)(hx:Loc X.env.scope x)(r:FA v u)
  (h:∀s',Inv X pins (σ.set i (some v)) H s'->(∃a,qt a s.heap s'.heap/\(a=X.env.locals∨X.env.cells.lookup x=some a))->Q () s') (hf:X.fn x=true∨X.env.scope.names.lookup x=some .local):wpAny M A (storeName X.env x u) Q E s:=by
 obtain⟨m,hn,hl⟩:=id I.loc;have hcls:(X.env.scope.kind==.class||(X.env.scope.kind==.module&&X.env.locals != X.env.globals))=false:=by rw[I.ok.kind];rfl
 have hiσ:i<σ.length:=by rw[I.len];exact(Qj.mp hi).1
 have cne:=I.cne;have tracked:∀{a:Addr}{h':Heap},(∃o,s.heap.get? a=some o/\H a=none)->qt a s.heap h'->HOk X.prog X.w H h':=fun {a h'} ha hs b ob e=>by obtain⟨_,_,hfree⟩:=ha;refine(I.hok b ob e).stay (fun c w' hc q=>(hs.2 c ?_).trans q) (fun _ q=>q) fun _ _ q=>q;rintro rfl;rcases hc with rfl|hc;rw[hfree]at e;cases e;rw[hfree]at hc;cases hc
 rcases hx with hk|hk;refine wpAny_storeName_local hk hn (fun h' hn' hs=>?_) hcls;obtain⟨oL,_,_,hoL,_⟩:=id hn;refine h _ ⟨I.ok,I.os,I.bare,⟨fun b o e n hb hx=>?_,fun b o e n hb hx=>?_,I.base.free,fun b o e hx=>?_,I.base.tups,I.base.frzs,I.base.tbls⟩,⟨_,hn',fun j y v' e1 e2 e3=>?_⟩,fun y c e=>?_,I.free,I.freeC,fun p hp=>?_,tracked ⟨oL,hoL,I.free⟩ hs,by simpa using I.len⟩ ⟨_,hs,.inl rfl⟩;exact(hs.2 b (Qu (Ql (QV e) I.ok.above))).trans (I.base.keep b o e n hb hx);obtain⟨sl,e1⟩:=I.base.slot b o e n hb hx;exact⟨sl,(hs.2 b (Qu (Ql (QV e) I.ok.above))).trans e1⟩;obtain⟨o',e1⟩:=I.base.there b o e hx;exact⟨o',(hs.2 b (Qu (Ql (QV e) I.ok.above))).trans e1⟩;by_cases hj:j=i
 ·subst hj
  rw[hi]at e1;cases e1;rw[qe hiσ]at e2;cases e2;exact⟨u,r,.inl ⟨hk,by simp⟩⟩
 rw[qO (Q4 hj)]at e2;obtain⟨u',r',q⟩:=hl j y v' e1 e2 e3;refine⟨u',r',?_⟩;rcases q with⟨k,e⟩| ⟨k,c,e,z⟩
 refine .inl ⟨k,?_⟩;have:y≠x:=fun e=>hj (nodup_ix hN e1 (e▸hi));simp[this,e];exact .inr ⟨k,c,e,z.sameBut hs (cne y c e)⟩;obtain⟨w',z⟩:=I.cell y c e;exact⟨w',z.sameBut hs (cne y c e)⟩;obtain⟨e,n,ne,nf,d⟩:=I.pin p hp;exact⟨(hs.2 p.1 ne).trans e,n,ne,nf,d⟩;have hfn:X.fn x=true:=by rcases hf with z|z;exact z;rw[z]at hk;cases hk
 obtain⟨c,hc⟩:=I.ok.has x (.inl hk);obtain⟨w',z⟩:=I.cell x c hc;refine wpAny_storeName_cell I.ok.kind hk hc z (fun h' hc' hs=>?_);obtain⟨oc,hoc,hocd⟩:=id z;refine h { s with heap:=h' } ⟨I.ok,I.os,I.bare,⟨fun b o e n hb hx=>?_,fun b o e n hb hx=>?_,I.base.free,fun b o e hx=>?_,I.base.tups,I.base.frzs,I.base.tbls⟩,⟨m,hn.sameBut hs (Q4 (cne x c hc)),fun j y v' e1 e2 e3=>?_⟩,fun y c' e=>?_,I.free,I.freeC,fun p hp=>?_,tracked ⟨oc,hoc,I.freeC x c hc⟩ hs,by simpa using I.len⟩ ⟨c,hs,.inr hc⟩;exact(hs.2 b (Qu (Ql (QV e) (I.ok.cab x c hfn hc)))).trans (I.base.keep b o e n hb hx);obtain⟨sl,e1⟩:=I.base.slot b o e n hb hx;exact⟨sl,(hs.2 b (Qu (Ql (QV e) (I.ok.cab x c hfn hc)))).trans e1⟩;obtain⟨o',e1⟩:=I.base.there b o e hx;exact⟨o',(hs.2 b (Qu (Ql (QV e) (I.ok.cab x c hfn hc)))).trans e1⟩;by_cases hj:j=i
 ·subst hj
  rw[hi]at e1;cases e1;rw[qe hiσ]at e2;cases e2;exact⟨u,r,.inr ⟨.inl hk,c,hc,hc'⟩⟩
 rw[qO (Q4 hj)]at e2;obtain⟨u',r',q⟩:=hl j y v' e1 e2 e3;refine⟨u',r',?_⟩;rcases q with q|⟨k,c',e,z'⟩
 exact .inl q;refine .inr ⟨k,c',e,z'.sameBut hs ?_⟩;rintro rfl;exact hj (nodup_ix hN e1 (I.ok.inj _ _ _ e hc▸hi));by_cases hcc:c'=c
 ·subst hcc;exact⟨_,hc'⟩
 obtain⟨w2,z2⟩:=I.cell y c' e;exact⟨w2,z2.sameBut hs hcc⟩;obtain⟨e,n,ne,nf,d⟩:=I.pin p hp;refine⟨(hs.2 p.1 ?_).trans e,n,ne,nf,d⟩;intro q;rw[q,hoc]at e;have q':oc=p.2:=Qw e;exact d w' (by rw[<- q'];exact hocd)
theorem store_ok{M:Model}{A:Around}{E:xD}{i:Nat}{x:Str}{v:V}{u:Value}{Q:Unit->Shared->Prop}(I:Inv X pins σ H s)(hN:X.N.Nodup)(hi:X.N[i]?=some x)(hx:Loc X.env.scope x)(r:FA v u)
  (h:∀s',Inv X pins (σ.set i (some v)) H s'->Q () s') (hf:X.fn x=true∨X.env.scope.names.lookup x=some .local):wpAny M A (storeName X.env x u) Q E s :=
 store_ok2 I hN hi hx r (fun s' I' _=>h s' I') hf
theorem Inv.call'{s':Shared}{ch:List Addr}(I:Inv X pins σ H s)(ho:s'.os=s.os)(u:Un (frs X.stack) ch H H' s.heap s'.heap)(hok:HOk X.prog X.w H' s'.heap)(hg:AllBare s'.gens)
  (hch:∀b∈ch,(b∈X.ex∨X.s₀.heap.objs.size<=b)/\b≠X.env.locals/\(∀x c,X.env.cells.lookup x=some c->c≠b)/\∀p∈X.pn++pins,p.1≠b):Inv X pins σ H' s':=by
 obtain⟨h',g',d',t',o'⟩:=s';have e:o'=s.os:=ho;subst e;exact I.call (g':=g') (t':=t') (d':=d') u hok hg hch
end
noncomputable abbrev XK:=Value->Option Addr->Hp->Prop
noncomputable abbrev St:=List (Option V)
noncomputable abbrev VK:=V->Hp->Prop
noncomputable abbrev TE:=St->Hp->VK->Prop
noncomputable abbrev TT:=St->Hp->(Bool->Hp->Prop)->Prop
noncomputable abbrev TA:=St->Hp->(List V->Hp->Prop)->Prop
structure Ends where
 nx:St->Hp->Prop
 rt:VK
 bk:St->Hp->Prop:=fun _ _=>False
 ct:St->Hp->Prop:=fun _ _=>False
noncomputable abbrev TS:=Ends->St->Hp->Prop
def EP(X:Cx)(pins:rC)(σ:St)(Q:VK)(u:Value)(s':Shared):Prop:=∃v H',Inv X pins σ H' s'/\FA v u/\Q v H'
def TP(X:Cx)(pins:rC)(σ:St)(Q:Bool->Hp->Prop)(b:Bool)(s':Shared):Prop:=∃H',Inv X pins σ H' s'/\Q b H'
def AP(X:Cx)(pins:rC)(σ:St)(Q:List V->Hp->Prop)(us:List Value)(s':Shared):Prop:=∃vs H',Inv X pins σ H' s'/\aA vs us/\Q vs H'
def SP(X:Cx)(pins:rC)(D:Ends)(f:Flow)(s':Shared):Prop :=
 match f with
 | .next=>∃σ' H',Inv X pins σ' H' s'/\D.nx σ' H'
 | .brk=>∃σ' H',Inv X pins σ' H' s'/\D.bk σ' H'
 | .cont=>∃σ' H',Inv X pins σ' H' s'/\D.ct σ' H'
 | .ret u=>∃v σ' H',Inv X pins σ' H' s'/\FA v u/\D.rt v H'
def PE(X:Cx)(e:Expr)(t:TE):Prop :=
 ∀(pins:rC) (s:Shared) (σ:St) (H:Hp) (Q:VK),Inv X pins σ H s->t σ H Q->wpAny (model X.prog X.w) X.A (eval e X.env) (EP X pins σ Q) X.xe s
def PT(X:Cx)(e:Expr)(t:TT):Prop :=
 ∀(pins:rC) (s:Shared) (σ:St) (H:Hp) (Q:Bool->Hp->Prop),Inv X pins σ H s->t σ H Q->wpAny (model X.prog X.w) X.A (isTrue e X.env (eval e X.env)) (TP X pins σ Q) X.xe s
def PW(X:Cx)(e:Expr)(t:TT):Prop :=
 ∀(whole:Sem Value) (pins:rC) (s:Shared) (σ:St) (H:Hp) (Q:Bool->Hp->Prop),Inv X pins σ H s->t σ H Q->wpAny (model X.prog X.w) X.A (isTrue e X.env whole) (TP X pins σ Q) X.xe s
theorem PW.pt{X:Cx}{e:Expr}{t:TT}(h:PW X e t):PT X e t:=h _
def PA(X:Cx)(es:List Expr)(t:TA):Prop :=
 ∀(pos:Pos) (pins:rC) (s:Shared) (σ:St) (H:Hp) (Q:List V->Hp->Prop),Inv X pins σ H s->t σ H Q->wpAny (model X.prog X.w) X.A (spliced (backTo pos (starEach es X.env))) (AP X pins σ Q) X.xe s
def PS(X:Cx)(st:Stmt)(t:TS):Prop :=
 ∀(pins:rC) (s:Shared) (σ:St) (H:Hp) (D:Ends),Inv X pins σ H s->t D σ H->wpAny (model X.prog X.w) X.A (exec st X.env) (SP X pins D) X.xe s
def PSs(X:Cx)(st:List Stmt)(t:TS):Prop :=
 ∀(pins:rC) (s:Shared) (σ:St) (H:Hp) (D:Ends),Inv X pins σ H s->t D σ H->wpAny (model X.prog X.w) X.A (execs st X.env) (SP X pins D) X.xe s
theorem VB{α:Type}{t:Sem α}{Q Q':α->Shared->Prop}{M:Model}{A:Around}{E:xD}{s:Shared}(h:wpAny M A t Q E s)(hQ:∀a s,Q a s->Q' a s):wpAny M A t Q' E s:=qw h hQ fun _ _ x=>x
section
variable{X:Cx}
theorem bin{a b:Expr}{ta tb:TE}(ha:PE X a ta)(hb:PE X b tb){pins:rC}{s:Shared}{σ:St}{H:Hp}{R:V->V->Hp->Prop}(I:Inv X pins σ H s)(h:ta σ H fun x H1=>tb σ H1 fun y H2=>R x y H2)
  {α:Type}{Q:α->Shared->Prop}{f:Value->Value->Sem α}
  (hf:∀v u s2 x y H2,Inv X pins σ H2 s2->FA x v->FA y u->R x y H2->wpAny (model X.prog X.w) X.A (f v u) Q X.xe s2) :
  wpAny (model X.prog X.w) X.A (eval a X.env) (fun v s₁=>wpAny (model X.prog X.w) X.A (eval b X.env) (fun u s₂=>wpAny (model X.prog X.w) X.A (f v u) Q X.xe s₂) X.xe s₁) X.xe s:=by
 refine VB (ha pins s σ H _ I h) fun v s1 ⟨x,H1,I1,r1,q1⟩=>?_;refine VB (hb pins s1 σ H1 _ I1 q1) fun u s2 ⟨y,H2,I2,r2,q2⟩=>?_;exact hf v u s2 x y H2 I2 r1 r2 q2
noncomputable def tVar(i:Nat):TE:=fun σ H Q=>∃v,σ[i]?=some (some v)/\Q v H
noncomputable def tC(v:V):TE:=fun _ H Q=>Q v H
theorem pe_var{i:Nat}{x:Str}{pos:Pos}(hN:X.N[i]?=some x)(hv:Vis X.env.scope x)(hd:(x==("__debug__":Str))=false:=by decide)(hcd:(x==("__classdict__":Str))=false:=by decide):PE X (.Name x pos) (tVar i):=by
 intro pins s σ H Q I h;obtain⟨v,e,h⟩:=h;obtain⟨m,hn,hl⟩:=I.loc;obtain⟨u,r,l⟩:=hl i x v hN e hv;have fin:EP X pins σ Q u s:=⟨v,H,I,r,h⟩
 rcases l with⟨hk,hm⟩| ⟨hk,c,hc,hcell⟩
 exact QCK (wpAny_loadName_local I.ok.kind hk hn hm fin) hd;rcases hk with hk|hk
 ·exact QCK (wpAny_loadName_cell I.ok.kind hk hc hcell fin) hd
 exact QCK (wpAny_loadName_free I.ok.kind hk hc hcell fin hcd) hd
theorem pe_int{i j pos}:PE X (.Constant (.int i) j pos) (tC (.int i)):=fun _ _ _ H _ I h=>wpAny_Constant_int ⟨.int i,H,I.tok _,⟨_,rfl⟩,h⟩
theorem pe_bl{b j pos}:PE X (.Constant (.bool b) j pos) (tC (.bl b)):=fun _ _ _ H _ I h=>Constant_bool ⟨.bl b,H,I,rfl,h⟩
theorem pe_non{j pos}:PE X (.Constant .none j pos) (tC .non):=fun _ _ _ H _ I h=>Constant_none ⟨.non,H,I,rfl,h⟩
theorem pe_str{x j pos}:PE X (.Constant (.str x) j pos) (tC (.str x)):=fun _ _ _ H _ I h=>Calls.Constant_str ⟨.str x,H,I.tok _,⟨_,rfl⟩,h⟩
def Gl(X:Cx)(x:Str):Prop:=X.env.kindOf x=some .globalImplicit
theorem ld_glob{E:xD}{pins:rC}{s:Shared}{σ:St}{H:Hp}{x:Str}{u:Value}{pos:Pos}{Q:xD}(I:Inv X pins σ H s)(hg:Gl X x)(hm:X.mg x=some u)(h:Q u s)
  (hd:(x==("__debug__":Str))=false:=by decide):wpAny (model X.prog X.w) X.A (eval (.Name x pos) X.env) Q E s :=
 Wq I.ok.kind hg (Calls.loadGlobal_global (by rw[I.ok.glob];exact I.mod.glob.keeps I.bk) hm h) hd
theorem ld_blt{E:xD}{pins:rC}{s:Shared}{σ:St}{H:Hp}{x:Str}{u:Value}{pos:Pos}{Q:xD}(I:Inv X pins σ H s)(hg:Gl X x)(hm:X.mg x=none)(hv:bootBuiltins x=some u)(h:Q u s)
  (hn:x≠"__name__":=by decide) (hd:(x==("__debug__":Str))=false:=by decide):wpAny (model X.prog X.w) X.A (eval (.Name x pos) X.env) Q E s:=by
 obtain⟨mb,h1,h2⟩:=I.mod.blt;exact Wq I.ok.kind hg (Calls.loadGlobal_builtin (by rw[I.ok.glob];exact I.mod.glob.keeps I.bk) hm (by rw[I.ok.blt];exact h1.keeps I.bk) ((h2 x hn).trans hv) h) hd
theorem pe_glob{x:Str}{v:V}{u:Value}{pos:Pos}(hg:Gl X x)(hm:X.mg x=some u)(r:FA v u)(hd:(x==("__debug__":Str))=false:=by decide):PE X (.Name x pos) (tC v) :=
 fun _ _ _ H _ I h=>ld_glob I hg hm ⟨v,H,I,r,h⟩ hd
theorem pe_bltn{x:Str}{v:V}{u:Value}{pos:Pos}(hg:Gl X x)(hm:X.mg x=none)(hv:bootBuiltins x=some u)(r:FA v u)(hn:x≠"__name__":=by decide)(hd:(x==("__debug__":Str))=false:=by decide):PE X (.Name x pos) (tC v) :=
 fun _ _ _ H _ I h=>ld_blt I hg hm hv ⟨v,H,I,r,h⟩ hn hd
variable{a b:Expr}{ta tb:TE}{pos:Pos}
variable{tA tB':TT}{rest:List Expr}
noncomputable def tAnd(t u:TT):TT:=fun σ H Q=>t σ H fun c H1=>if c=true then u σ H1 Q else Q false H1
noncomputable def tOr(t u:TT):TT:=fun σ H Q=>t σ H fun c H1=>if c=true then Q true H1 else u σ H1 Q
noncomputable def tNot(t:TT):TT:=fun σ H Q=>t σ H fun c H1=>Q (!c) H1
theorem pw_and1(ha:PT X a tA):PW X (.BoolOp .And [a] pos) tA:=by
 intro wh pins s σ H Q I h;refine isTrue_and (VB (ha pins s σ H Q I h) fun c s1 e=>?_);cases c with
 |true=>exact isTrue_and_nil e
 |false=>exact e
theorem pw_or1(ha:PT X a tA):PW X (.BoolOp .Or [a] pos) tA:=by
 intro wh pins s σ H Q I h;refine isTrue_or (VB (ha pins s σ H Q I h) fun c s1 e=>?_);cases c with
 |false=>exact isTrue_or_nil e
 |true=>exact e
theorem pw_and(ha:PT X a tA)(hb:PW X (.BoolOp .And (b::rest) pos) tB'):PW X (.BoolOp .And (a::b::rest) pos) (tAnd tA tB'):=by
 intro wh pins s σ H Q I h;refine isTrue_and (VB (ha pins s σ H _ I h) fun c s1 ⟨H1,I1,q1⟩=>?_);cases c with
 |true=>exact hb wh pins s1 σ H1 Q I1 q1
 |false=>exact⟨H1,I1,q1⟩
theorem pw_or(ha:PT X a tA)(hb:PW X (.BoolOp .Or (b::rest) pos) tB'):PW X (.BoolOp .Or (a::b::rest) pos) (tOr tA tB'):=by
 intro wh pins s σ H Q I h;refine isTrue_or (VB (ha pins s σ H _ I h) fun c s1 ⟨H1,I1,q1⟩=>?_);cases c with
 |true=>exact⟨H1,I1,q1⟩
 |false=>exact hb wh pins s1 σ H1 Q I1 q1
theorem pt_not(ha:PT X a tA):PT X (.UnaryOp .Not a pos) (tNot tA):=by intro pins s σ H Q I h;exact isTrue_not (ha pins s σ H (fun c H1=>Q (!c) H1) I h)
noncomputable def tAndV(ta tb:TE):TE:=fun σ H Q=>ta σ H fun x H1=>∃c,x=.bl c/\if c=true then tb σ H1 Q else Q (.bl false) H1
noncomputable def tOrV(ta tb:TE):TE:=fun σ H Q=>ta σ H fun x H1=>∃c,x=.bl c/\if c=true then Q (.bl true) H1 else tb σ H1 Q
theorem pe_one{op}{t:TE}(h:PE X a t):PE X (.BoolOp op [a] pos) t:=fun pins s σ H Q I hw=>BoolOp_one (h pins s σ H Q I hw)
theorem pe_and(ha:PE X a ta)(hb:PE X (.BoolOp .And (b::rest) pos) tb):PE X (.BoolOp .And (a::b::rest) pos) (tAndV ta tb):=by
 intro pins s σ H Q I h;refine BoolOp_and (VB (ha pins s σ H _ I h) fun v s1 ⟨x,H1,I1,r1,q1⟩=>?_);obtain⟨c,rfl,q1⟩:=q1;cases r1;refine qS ?_;cases c with
 |true=>exact hb pins s1 σ H1 Q I1 q1
 |false=>exact⟨.bl false,H1,I1,rfl,q1⟩
theorem pe_or(ha:PE X a ta)(hb:PE X (.BoolOp .Or (b::rest) pos) tb):PE X (.BoolOp .Or (a::b::rest) pos) (tOrV ta tb):=by
 intro pins s σ H Q I h;refine BoolOp_or (VB (ha pins s σ H _ I h) fun v s1 ⟨x,H1,I1,r1,q1⟩=>?_);obtain⟨c,rfl,q1⟩:=q1;cases r1;refine qS ?_;cases c with
 |false=>exact hb pins s1 σ H1 Q I1 q1
 |true=>exact⟨.bl true,H1,I1,rfl,q1⟩
noncomputable def tIf(t:TT)(ta tb:TE):TE:=fun σ H Q=>t σ H fun c H1=>if c=true then ta σ H1 Q else tb σ H1 Q
theorem pe_ifExp{c:Expr}(hc:PT X c tA)(ha:PE X a ta)(hb:PE X b tb):PE X (.IfExp c a b pos) (tIf tA ta tb):=by
 intro pins s σ H Q I h;refine wpAny_IfExp (VB (hc pins s σ H _ I h) fun d s1 ⟨H1,I1,q1⟩=>?_);cases d with
 |true=>exact ha pins s1 σ H1 Q I1 q1
 |false=>exact hb pins s1 σ H1 Q I1 q1
end
def SqL(K:QA)(H:Hp)(a:Addr)(xs:List V):Prop :=
 Rd H a (.lst xs) ∨
  ∃(o:Obj) (its:Array Value) (n:Nat),K.lookup a=some o/\o.cls=.type "list"/\o.dict=none/\o.data=.seq its n/\its.size<=sizeLine/\aA xs its.toList
def SqT(K:QA)(H:Hp)(a:Addr)(xs:List V):Prop :=
 Rd H a (.tup xs) ∨
  ∃(o:Obj) (its:Array Value) (n:Nat),K.lookup a=some o/\o.cls=.type "tuple"/\o.data=.seq its n/\its.size<=sizeLine/\aA xs its.toList
noncomputable def absV:Value->Option V
 | .none=>some .non
 | .bool b=>some (.bl b)
 | .int i _=>some (.int i)
 | .str x _=>some (.str x)
 | .bytes b _=>some (.byt b)
 | .float b _=>some (.flt b)
 | .ref a=>some (.ref a)
 | .type n=>some (.ty n)
 |_=>none
theorem FA.abs{x:V}{u:Value}(r:FA x u):absV u=some x:=by
 cases x with
 |non=>cases r;rfl
 |bl _=>cases r;rfl
 |int _=>obtain⟨t,rfl⟩:=r;rfl
 |str _=>obtain⟨t,rfl⟩:=r;rfl
 |byt _=>obtain⟨t,rfl⟩:=r;rfl
 |flt _=>obtain⟨t,rfl⟩:=r;rfl
 |ref _=>cases r;rfl
 |ty _=>cases r;rfl
theorem FA.inj{x y:V}{u:Value}(r:FA x u)(q:FA y u):x=y:=Qw (r.abs.symm.trans q.abs)
theorem aA.inj:∀{xs ys:List V}{us:List Value},aA xs us->aA ys us->xs=ys
 |_,_,_,.nil,.nil=>rfl
 |_,_,_,.cons r t,.cons r' t'=>by rw[r.inj r',aA.inj t t']
section
variable{X:Cx}{pins:rC}{σ:St}{H:Hp}{s:Shared}{a:Addr}{xs ys:List V}
theorem SqL.of{K:QA}(h:H a=some (.lst xs)):SqL K H a xs:=.inl (.inl h)
theorem SqT.of{K:QA}(h:H a=some (.tup xs)):SqT K H a xs:=.inl (.inl h)
theorem Inv.list(I:Inv X pins σ H s)(h:SqL X.K H a xs):∃its:List Value,aA xs its/\PlainL s.heap a its.toArray/\xs.length<=sizeLine:=by
 rcases h with h|⟨o,its,n,hk,hc,hd,hs,hz,r⟩
 obtain⟨z,its,n,r,e⟩:=h.ok I.hok;exact⟨its,r,⟨_,n,e,rfl,rfl,rfl⟩,z⟩;refine⟨its.toList,r,⟨o,n,I.kIn a o hk,hc,hd,by simpa using hs⟩,?_⟩;have e:=r.length;simp only[Qg]at e;omega
theorem Inv.tuple(I:Inv X pins σ H s)(h:SqT X.K H a xs):∃its:List Value,aA xs its/\IsTup s.heap a its.toArray/\xs.length<=sizeLine:=by
 rcases h with h|⟨o,its,n,hk,hc,hs,hz,r⟩
 obtain⟨z,its,r,p⟩:=h.ok I.hok;exact⟨its,r,p,z⟩;refine⟨its.toList,r,⟨o,I.kIn a o hk,hc,n,by simpa using hs⟩,?_⟩;have e:=r.length;simp only[Qg]at e;omega
theorem Inv.list_inj(I:Inv X pins σ H s)(h:SqL X.K H a xs)(h':SqL X.K H a ys):xs=ys:=by
 obtain⟨its,r,⟨o,n,e,_,_,d⟩,_⟩:=I.list h;obtain⟨its',r',⟨o',n',e',_,_,d'⟩,_⟩:=I.list h';rw[e]at e';cases e';rw[d]at d';injection d' with d1 _;have:its=its':=by simpa using congrArg QBn d1
 subst this;exact r.inj r'
theorem Inv.tuple_inj(I:Inv X pins σ H s)(h:SqT X.K H a xs)(h':SqT X.K H a ys):xs=ys:=by
 obtain⟨its,r,⟨o,e,_,n,d⟩,_⟩:=I.tuple h;obtain⟨its',r',⟨o',e',_,n',d'⟩,_⟩:=I.tuple h';rw[e]at e';cases e';rw[d]at d';injection d' with d1 _;have:its=its':=by simpa using congrArg QBn d1
 subst this;exact r.inj r'
end
noncomputable abbrev Cx.wish(X:Cx)(E:xD):Cx:={ X with xe:=E }
noncomputable abbrev Cx.nox(X:Cx):Cx:=X.wish fun _ _=>False
theorem Cx.Ok.wish{X:Cx}(ok:X.Ok)(E:xD):(X.wish E).Ok :=
 ⟨ok.mod,ok.kind,ok.glob,ok.blt,ok.above,ok.inj,ok.has,ok.cab,ok.hd,ok.frames,ok.stk,ok.exf,ok.bs,ok.bsz,ok.noex,ok.exfs,ok.funs,ok.frf⟩
theorem Cx.Ok.unwish{X:Cx}{E:xD}(ok:(X.wish E).Ok):X.Ok :=
 ⟨ok.mod,ok.kind,ok.glob,ok.blt,ok.above,ok.inj,ok.has,ok.cab,ok.hd,ok.frames,ok.stk,ok.exf,ok.bs,ok.bsz,ok.noex,ok.exfs,ok.funs,ok.frf⟩
section
variable{X:Cx}{pins:rC}{σ:St}{H:Hp}{s:Shared}{E:xD}
theorem Inv.wish(I:Inv X pins σ H s)(E:xD):Inv (X.wish E) pins σ H s:=⟨I.ok.wish E,I.os,I.bare,I.base,I.loc,I.cell,I.free,I.freeC,I.pin,I.hok,I.len⟩
theorem Inv.unwish(I:Inv (X.wish E) pins σ H s):Inv X pins σ H s:=⟨I.ok.unwish,I.os,I.bare,I.base,I.loc,I.cell,I.free,I.freeC,I.pin,I.hok,I.len⟩
theorem SP.unwish{D:Ends}{f:Flow}{s':Shared}(h:SP (X.wish E) pins D f s'):SP X pins D f s':=by
 cases f with
 |next=>obtain⟨σ',H',I,q⟩:=h;exact⟨σ',H',I.unwish,q⟩
 |brk=>obtain⟨σ',H',I,q⟩:=h;exact⟨σ',H',I.unwish,q⟩
 |cont=>obtain⟨σ',H',I,q⟩:=h;exact⟨σ',H',I.unwish,q⟩
 |ret u=>obtain⟨v,σ',H',I,r,q⟩:=h;exact⟨v,σ',H',I.unwish,r,q⟩
theorem PSs.nox{st:List Stmt}{t:TS}(h:PSs X.nox st t):PSs X st t:=fun pins s σ H D I hw =>
 qw (h pins s σ H D (I.wish _) hw) (fun _ _ q=>q.unwish) fun _ _ z=>QT z
end
section
variable{X:Cx}{st:Stmt}{rest:List Stmt}{t u:TS}{e:Expr}{te:TE}{pos:Pos}
noncomputable def tNext:TS:=fun D σ H=>D.nx σ H
noncomputable def tSeq(t u:TS):TS:=fun D σ H=>t { D with nx:=u D } σ H
theorem pss_nil:PSs X [] tNext:=fun _ _ σ H _ I h=>QAe ⟨σ,H,I,h⟩
theorem pss_cons(h1:PS X st t)(h2:PSs X rest u):PSs X (st::rest) (tSeq t u):=by
 intro pins s σ H D I h;refine QBu (VB (h1 pins s σ H { D with nx:=u D } I h) fun f s1 q=>?_);cases f with
 |next=>obtain⟨σ',H',I',q⟩:=q;exact h2 pins s1 σ' H' D I' q
 |ret v=>exact q
 |brk=>exact q
 |cont=>exact q
theorem pss_one(h1:PS X st t):PSs X [st] t:=by
 intro pins s σ H D I h;refine QBu (VB (h1 pins s σ H D I h) fun f s1 q=>?_);cases f with
 |next=>exact QAe q
 |ret v=>exact q
 |brk=>exact q
 |cont=>exact q
theorem Inv.quiet{pins:rC}{σ:St}{H:Hp}{s:Shared}(I:Inv X pins σ H s):interactive X.env=false:=by simp[interactive,I.ok.kind]
noncomputable def tDrop(te:TE):TS:=fun D σ H=>te σ H fun _ H1=>D.nx σ H1
theorem ps_expr(he:PE X e te)(hs:swapsWith e none pos.line X.env=pure false:=by rfl):PS X (.Expr e pos) (tDrop te):=by intro pins s σ H D I h;exact wpAny_Expr_any (VB (he pins s σ H _ I h) fun v s1 ⟨x,H1,I1,r1,q1⟩=>⟨σ,H1,I1,q1⟩) I.quiet hs
noncomputable def tRet(te:TE):TS:=fun D σ H=>te σ H D.rt
theorem ps_ret(he:PE X e te):PS X (.Return (some e) pos) (tRet te):=by intro pins s σ H D I h;exact wpAny_Return_some (VB (he pins s σ H _ I h) fun v s1 ⟨x,H1,I1,r1,q1⟩=>⟨x,σ,H1,I1,r1,q1⟩)
noncomputable def tIfS(c:TT)(t u:TS):TS:=fun D σ H=>c σ H fun b H1=>if b=true then t D σ H1 else u D σ H1
theorem ps_if{c:Expr}{a b:List Stmt}{tc:TT}(hc:PT X c tc)(ha:PSs X a t)(hb:PSs X b u):PS X (.If c a b pos) (tIfS tc t u):=by
 intro pins s σ H D I h;refine wpAny_If (VB (hc pins s σ H _ I h) fun d s1 ⟨H1,I1,q1⟩=>?_);cases d with
 |true=>exact ha pins s1 σ H1 D I1 q1
 |false=>exact hb pins s1 σ H1 D I1 q1
noncomputable def tNever:TS:=fun _ _ _=>False
theorem ps_never:PS X st tNever:=fun _ _ _ _ _ _ h=>h.elim
end
noncomputable abbrev TG:=V->St->Hp->(St->Hp->Prop)->Prop
noncomputable abbrev TGs:=List V->St->Hp->(St->Hp->Prop)->Prop
def PG(X:Cx)(target:Expr)(t:TG):Prop :=
 ∀(pins:rC) (s:Shared) (σ:St) (H:Hp) (v:V) (u:Value) (Q:St->Hp->Prop),Inv X pins σ H s->FA v u->t v σ H Q ->
  wpAny (model X.prog X.w) X.A (assign target X.env u) (fun _ s'=>∃σ' H',Inv X pins σ' H' s'/\Q σ' H') X.xe s
def PGs(X:Cx)(ts:List Expr)(t:TGs):Prop :=
 ∀(pins:rC) (s:Shared) (σ:St) (H:Hp) (vs:List V) (us:List Value) (Q:St->Hp->Prop),Inv X pins σ H s->aA vs us->t vs σ H Q ->
  wpAny (model X.prog X.w) X.A (assignInOrder ((assignEach ts X.env).map (·.2)) us) (fun _ s'=>∃σ' H',Inv X pins σ' H' s'/\Q σ' H') X.xe s
noncomputable abbrev TSet:=V->V->V->Hp->(Hp->Prop)->Prop
def PSet(X:Cx)(t:TSet):Prop :=
 ∀(pins:rC) (s:Shared) (σ:St) (H:Hp) (o i v:V) (ov iv u:Value) (Q:Hp->Prop),Inv X pins σ H s->FA o ov->FA i iv->FA v u->t o i v H Q ->
  wpAny (model X.prog X.w) X.A (setItem ov iv u) (fun _ s'=>∃H',Inv X pins σ H' s'/\Q H') X.xe s
section
variable{X:Cx}{pos:Pos}
noncomputable def gName(i:Nat):TG:=fun v σ H Q=>Q (σ.set i (some v)) H
theorem pg_name{i:Nat}{x:Str}(hN:X.N.Nodup)(hi:X.N[i]?=some x)(hx:Loc X.env.scope x)(hf:X.fn x=true∨X.env.scope.names.lookup x=some .local):PG X (.Name x pos) (gName i):=by intro pins s σ H v u Q I r h;exact QBV (store_ok I hN hi hx r (fun s' I'=>⟨_,H,I',h⟩) hf)
noncomputable def gTup(K:QA)(n:Nat)(t:TGs):TG:=fun v σ H Q=>∃a xs,v=.ref a/\SqT K H a xs/\xs.length=n/\t xs σ H Q
theorem pg_tup{es:List Expr}{k:Nat}{t:TGs}{n:Nat}(hc:X.calm=true)(h:PGs X es t)
  (hn:(assignEach es X.env).length=n:=by rfl) (hst:(assignEach es X.env).findIdx? (·.1)=none:=by rfl):PG X (.Tuple es k pos) (gTup X.K n t):=by
 intro pins s σ H v u Q I r hw;obtain⟨a,xs,e1,hq,hl,hw⟩:=hw;subst e1;cases r;obtain⟨its,rv,ht,hz⟩:=I.tuple hq;refine assign_Tuple_tuple (I.ok.hd hc) ht (by simp[hn,<- hl,rv.length]) hst fun h' hx=>?_;have I1:Inv X pins σ H { s with heap:=h' }:=I.kept (t':=s.toks) fun b o e=>hx b o (Qu (QV e)) e;exact h pins _ σ H xs _ Q I1 (by simpa using rv) hw
noncomputable def gSub(to ti:TE)(t:TSet):TG:=fun v σ H Q=>to σ H fun o H1=>ti σ H1 fun i H2=>t o i v H2 fun H3=>Q σ H3
theorem pg_sub{o i:Expr}{to ti:TE}{t:TSet}(ho:PE X o to)(hi:PE X i ti)(hs:PSet X t)
  (ha:∀v,assign (.Subscript o i pos) X.env v=(do
   let ov <- holding [v] (eval o X.env)
   let iv <- holding [v,ov] (eval i X.env)
   standAt pos
   holding [v,ov,iv] (setItem ov iv v)
   release [v,ov,iv] []):=by intro _;rfl):PG X (.Subscript o i pos) (gSub to ti t):=by
 intro pins s σ H v u Q I r h;rw[ha];refine QF (wu (VB (ho pins s σ H _ I h) fun ov s1 ⟨x,H1,I1,r1,q1⟩=>?_));refine QF (wu (VB (hi pins s1 σ H1 _ I1 q1) fun iv s2 ⟨y,H2,I2,r2,q2⟩=>?_));refine QF (QAI (QF (wu (VB (hs pins s2 σ H2 x y v ov iv u _ I2 r1 r2 r q2) fun _ s3 ⟨H3,I3,q3⟩=>?_))));exact wpAny_release ⟨σ,H3,I3,q3⟩
noncomputable def tAsg(te:TE)(g:TG):TS:=fun D σ H=>te σ H fun x H1=>g x σ H1 D.nx
theorem ps_asg{tg e:Expr}{te:TE}{g:TG}(he:PE X e te)(hg:PG X tg g)(hs:swapsWithSole [tg] e pos.line X.env=pure false:=by rfl)(hw:swappedStores [tg] e X.env=pure none:=by rfl)
  (h1:(assignEach [tg] X.env).map (·.2)=[assign tg X.env]:=by rfl):PS X (.Assign [tg] e pos) (tAsg te g):=by
 intro pins s σ H D I h;refine wpAny_Assign_stores (VB (he pins s σ H _ I h) fun v s1 ⟨x,H1,I1,r1,q1⟩=>?_) hs hw;rw[h1];exact VB (hg pins s1 σ H1 x v _ I1 r1 q1) fun _ s2 q=>q
theorem ps_set{i:Nat}{x:Str}{e:Expr}{te:TE}{pos':Pos}(hN:X.N.Nodup)(hi:X.N[i]?=some x)(hx:Loc X.env.scope x)(he:PE X e te)(hs:swapsWith e (some (.Name x pos')) pos.line X.env=pure false:=by rfl)(hf:X.fn x=true∨X.env.scope.names.lookup x=some .local) :
  PS X (.Assign [.Name x pos'] e pos) (tAsg te (gName i)):=by
 intro pins s σ H D I h;refine wpAny_Assign_Name (VB (he pins s σ H _ I h) fun v s1 ⟨y,H1,I1,r1,q1⟩=>?_) hs;exact store_ok I1 hN hi hx r1 (fun s2 I2=>⟨_,H1,I2,q1⟩) hf
end
section
variable{X:Cx}{pos:Pos}
end
structure It where
 go:Nat->Hp->Prop
 yld:Nat->Hp->V->Hp->Prop
 stop:Nat->Hp->Prop
def FpOk(X:Cx)(pins:rC)(H:Hp)(b:Addr):Prop :=
 H b=none/\b≠X.env.locals/\b∉X.fs/\(b∈X.ex∨X.s₀.heap.objs.size<=b)/\(∀x c,X.env.cells.lookup x=some c->c≠b)/\∀p∈X.pn++pins,p.1≠b
theorem Inv.fpOk{X:Cx}{pins:rC}{σ:St}{H H':Hp}{s:Shared}{b:Addr}(I:Inv X pins σ H s)(hb:s.heap.objs.size<=b)(hn:H' b=none):FpOk X pins H' b:=by refine⟨hn,WW (Ql I.lt hb),I.nofs hb,.inr (wF I.sz hb),fun x c e z=>?_,fun p hp z=>?_⟩;obtain⟨v,q⟩:=I.cell x c e;exact absurd (Ql q.lt (by rw[z];exact hb)) (qm _);exact absurd (Ql (QV (I.pin p hp).1) (by rw[z];exact hb)) (qm _)
structure Turn(P:Program)(w:World)(K:QA)(tg:Expr)(J:It)(fp:List Addr)(it:Addr)(tn:Nat->Heap->Prop):Prop where
 mem:it∈fp
 obj:∀i h,tn i h->∀b∈fp,∃o,h.get? b=some o/\∀v,o.data≠.cell v
 keep:∀i h h',tn i h->(∀b∈fp,∀o,h.get? b=some o->h'.get? b=some o)->tn i h'
 item:∀(X:Cx),X.prog=P->X.w=w->X.K=K->X.calm=true->∀(i:Nat) (pins:rC) (s:Shared) (σ:St) (H:Hp) (E:xD),Inv X pins σ H s->(∀b∈fp,FpOk X pins H b)->tn i s.heap->J.go i H ->
  wpAny (model P w) X.A (pyNext (.ref it)) (fun r s1=>∃u,r=some u /\
   wpAny (model P w) X.A (letOwnedTupleGo tg (.ref it) u) (fun _ s2=>∃x H',Inv X pins σ H' s2/\FA x u/\J.yld i H x H'/\tn (i+1) s2.heap/\∀b∈fp,H' b=none) E s1) E s
 done:∀(X:Cx),X.prog=P->X.w=w->X.K=K->X.calm=true->∀(i:Nat) (pins:rC) (s:Shared) (σ:St) (H:Hp) (E:xD),Inv X pins σ H s->(∀b∈fp,FpOk X pins H b)->tn i s.heap->J.stop i H ->
  wpAny (model P w) X.A (pyNext (.ref it)) (fun r s1=>r=none/\Inv X pins σ H s1) E s
 self:∀(A:Around) (i:Nat) (s:Shared) (Q:xD) (E:xD),tn i s.heap->Q (.ref it) s->wpAny (model P w) A (pyIter (.ref it)) Q E s
noncomputable abbrev TI:=St->Hp->(It->Hp->Prop)->Prop
def PIE(X:Cx)(pins:rC)(σ:St)(tg:Expr)(R:It->Hp->Prop)(itv:Value)(s2:Shared):Prop :=
 ∃(it:Addr) (fp:List Addr) (tn:Nat->Heap->Prop) (J:It) (H':Hp),itv=.ref it/\Inv X pins σ H' s2/\Turn X.prog X.w X.K tg J fp it tn/\tn 0 s2.heap/\(∀b∈fp,FpOk X pins H' b)/\R J H'
def PI(X:Cx)(tg iter:Expr)(wi:TI):Prop :=
 ∀(pins:rC) (s:Shared) (σ:St) (H:Hp) (R:It->Hp->Prop),Inv X pins σ H s->wi σ H R ->
  wpAny (model X.prog X.w) X.A (eval iter X.env) (fun v s1=>wpAny (model X.prog X.w) X.A (pyIter v) (PIE X pins σ tg R) X.xe s1) X.xe s
theorem go_of{M:Model}{A:Around}{E:xD}{s:Shared}{tg:Expr}{it:Addr}{u:Value}{o:Obj}{n:String}{vs:Array Value}{Q:Unit->Shared->Prop}(ho:s.heap.get? it=some o)(hc:o.cls=.type n)(hd:o.data=.fields vs)
    (hn:["enumerate","zip","dict_itemiterator","dict_reverseitemiterator","odict_iterator","itertools.zip_longest","itertools.pairwise"].contains n=false) (hQ:Q () s):wpAny M A (letOwnedTupleGo tg (.ref it) u) Q E s:=by
  unfold letOwnedTupleGo;cases tg<;>first
    |exact QW hQ
    | (cases u<;>first
        |exact QW hQ
        | (refine QF (wpAny_load ho ?_)
           rw[hc,hd];show wpAny M A (if(["enumerate","zip","dict_itemiterator","dict_reverseitemiterator","odict_iterator","itertools.zip_longest","itertools.pairwise"].contains n&&vs[0]?==some (rawInt _))=true then _ else _) Q E s;rw[if_neg (by intro h;rw[hn,Bool.false_and]at h;cases h)];exact QW hQ))
noncomputable def Itl(K:QA)(a:Addr):It :=
 ⟨fun i H=>∃xs x,SqL K H a xs/\xs[i]?=some x,fun i H x H'=>H'=H/\∀xs,SqL K H a xs->xs[i]?=some x,fun i H=>∃xs,SqL K H a xs/\xs.length<=i⟩
noncomputable def Itt(K:QA)(a:Addr):It :=
 ⟨fun i H=>∃xs x,SqT K H a xs/\xs[i]?=some x,fun i H x H'=>H'=H/\∀xs,SqT K H a xs->xs[i]?=some x,fun i H=>∃xs,SqT K H a xs/\xs.length<=i⟩
noncomputable def Itr(lo:Int)(n:Nat):It:=⟨fun i _=>i<n,fun i H x H'=>H'=H/\x=.int (lo+i),fun i _=>n<=i⟩
theorem turn_list{P:Program}{w:World}{K:QA}{tg:Expr}(a it:Addr):Turn P w K tg (Itl K a) [it] it (fun i h=>h.IsListIter it a i) where
 mem:=by simp
 obj:=fun i h st b hb=>by
  have e:b=it:=by simpa using hb
  subst e;obtain⟨o,e,c,d⟩:=st;exact⟨o,e,fun v z=>by rw[d]at z;cases z⟩
 keep:=fun i h h' st k=>st.at fun o e=>k it (by simp) o e
 item:=by intro X hP hw hK hc i pins s σ H E I hf st hg;subst hP hw hK;obtain⟨xs,x,hq,hx⟩:=hg;obtain⟨its,rv,p,hz⟩:=I.list hq;obtain⟨u,hu,ru⟩:=rv.get hx;obtain⟨f0,f1,f2,f3,f4,f5⟩:=hf it (by simp);refine wpAny_pyNext_list_item st p.isList (x:=u) (by simpa using hu) fun h' st' sb=>?_;have I1:Inv X pins σ H { s with heap:=h' }:=I.turned (t':=s.toks) (fun b o hb e=>(sb.2 b hb).trans e) f0 f1 f3 f4 f5;obtain⟨o,e,c,d⟩:=id st';exact⟨u,rfl,go_of (s:={ s with heap:=h' }) e c d (by decide) ⟨x,H,I1,ru,⟨rfl,fun ys hy=>by rw[I.list_inj hy hq];exact hx⟩,st',fun b hb=>(hf b hb).1⟩⟩
 done:=by intro X hP hw hK hc i pins s σ H E I hf st hg;subst hP hw hK;obtain⟨xs,hq,hx⟩:=hg;obtain⟨its,rv,p,hz⟩:=I.list hq;obtain⟨f0,f1,f2,f3,f4,f5⟩:=hf it (by simp);have hl:=rv.length;exact wpAny_pyNext_list_end (I.ok.hd hc) st p.isList (by simp;omega) fun h' eb=>⟨rfl,I.turned (t':=s.toks) (fun b o hb e=>eb b o hb e) f0 f1 f3 f4 f5⟩
 self:=fun _ _ _ _ _ st h=>wpAny_pyIter_listiter st h
theorem turn_tuple{P:Program}{w:World}{K:QA}{tg:Expr}(a it:Addr):Turn P w K tg (Itt K a) [it] it (fun i h=>h.IsTupleIter it a i) where
 mem:=by simp
 obj:=fun i h st b hb=>by
  have e:b=it:=by simpa using hb
  subst e;obtain⟨o,e,c,d⟩:=st;exact⟨o,e,fun v z=>by rw[d]at z;cases z⟩
 keep:=fun i h h' st k=>st.at fun o e=>k it (by simp) o e
 item:=by intro X hP hw hK hc i pins s σ H E I hf st hg;subst hP hw hK;obtain⟨xs,x,hq,hx⟩:=hg;obtain⟨its,rv,p,hz⟩:=I.tuple hq;obtain⟨u,hu,ru⟩:=rv.get hx;obtain⟨f0,f1,f2,f3,f4,f5⟩:=hf it (by simp);refine wpAny_pyNext_tuple_item st (show s.heap.IsTuple a its.toArray from p) (x:=u) (by simpa using hu) fun h' st' sb=>?_;have I1:Inv X pins σ H { s with heap:=h' }:=I.turned (t':=s.toks) (fun b o hb e=>(sb.2 b hb).trans e) f0 f1 f3 f4 f5;obtain⟨o,e,c,d⟩:=id st';exact⟨u,rfl,go_of (s:={ s with heap:=h' }) e c d (by decide) ⟨x,H,I1,ru,⟨rfl,fun ys hy=>by rw[I.tuple_inj hy hq];exact hx⟩,st',fun b hb=>(hf b hb).1⟩⟩
 done:=by intro X hP hw hK hc i pins s σ H E I hf st hg;subst hP hw hK;obtain⟨xs,hq,hx⟩:=hg;obtain⟨its,rv,p,hz⟩:=I.tuple hq;obtain⟨f0,f1,f2,f3,f4,f5⟩:=hf it (by simp);have hl:=rv.length;exact wpAny_pyNext_tuple_end (I.ok.hd hc) st (show s.heap.IsTuple a its.toArray from p) (by simp;omega) fun h' eb=>⟨rfl,I.turned (t':=s.toks) (fun b o hb e=>eb b o hb e) f0 f1 f3 f4 f5⟩
 self:=fun _ _ _ _ _ st h=>wpAny_pyIter_tupleiter st h
theorem turn_range{P:Program}{w:World}{K:QA}{tg:Expr}(it:Addr)(lo:Int)(n:Nat):Turn P w K tg (Itr lo n) [it] it (fun i h=>IsRangeIter h it (lo+(i:Nat) * 1) ((n:Int) - (i:Nat)) 1) where
 mem:=by simp
 obj:=fun i h st b hb=>by
  have e:b=it:=by simpa using hb
  subst e;exact⟨_,st,fun v z=>by have z':Data.fields _=Data.cell v:=z;cases z'⟩
 keep:=fun i h h' st k=>k it (by simp) _ st
 item:=by intro X hP hw hK hc i pins s σ H E I hf st hg;subst hP hw hK;obtain⟨f0,f1,f2,f3,f4,f5⟩:=hf it (by simp);have W:=Walks.range (prog:=X.prog) (w:=X.w) (I.ok.hd hc) it lo 1 n;refine W.item i s _ _ hg st fun v h' tk hv st' kk=>?_;obtain⟨t,rfl⟩:=hv;have I1:Inv X pins σ H { s with heap:=h',toks:=tk }:=I.turned (fun b o hb e=>kk b o (by simpa using hb) e) f0 f1 f3 f4 f5;refine⟨_,rfl,go_of (s:={ s with heap:=h',toks:=tk }) (n:="range_iterator") st' rfl rfl (by decide) ⟨.int (lo+i),H,I1,⟨t,?_⟩,⟨rfl,rfl⟩,st',fun b hb=>(hf b hb).1⟩⟩;rw[Int.mul_one]
 done:=by intro X hP hw hK hc i pins s σ H E I hf st hg;subst hP hw hK;obtain⟨f0,f1,f2,f3,f4,f5⟩:=hf it (by simp);exact QAU (I.ok.hd hc) st (by have:n<=i:=hg;omega) fun h' eb=>⟨rfl,I.turned (t':=s.toks) (fun b o hb e=>eb b o hb e) f0 f1 f3 f4 f5⟩
 self:=fun _ _ _ _ _ st h=>QAV st h
section
variable{X:Cx}{tg:Expr}
theorem range_it{pins:rC}{σ:St}{H:Hp}{s:Shared}{R:It->Hp->Prop}{E:xD}{lo hi:Int}{t u v:Tok}{tk:Nat}(I:Inv X pins σ H s)(h1:-(2 ^ 62)<=lo)(h2:lo<2 ^ 62)(h3:-(2 ^ 62)<=hi)(h4:hi<2 ^ 62)
  (q:R (Itr lo (hi - lo).toNat) H):wpAny (model X.prog X.w) X.A (pyIter (.ref s.heap.objs.size)) (PIE X pins σ tg R) E { s with heap:=s.heap.push { cls:=.type "range",data:=.fields #[.int lo t,.int hi u,.int 1 v] },toks:=tk }:=by
 refine QBJ (IsRange.new ..) (small_one h1 h2 h3 h4) ?_;have I1:Inv X pins σ H { s with heap:=s.heap.push { cls:=.type "range",data:=.fields #[.int lo t,.int hi u,.int 1 v] },toks:=tk }:=I.kept fun b o e=>QE _ e;refine⟨(s.heap.push { cls:=.type "range",data:=.fields #[.int lo t,.int hi u,.int 1 v] }).objs.size,[(s.heap.push { cls:=.type "range",data:=.fields #[.int lo t,.int hi u,.int 1 v] }).objs.size],_,_,H,rfl,
  I1.kept (t':=tk) fun b o e=>QE _ e,turn_range _ lo (hi - lo).toNat,?_,fun b hb=>?_,q⟩
 have e1:lo+((0:Nat):Int) * 1=lo:=by simp
 have e2:(((hi - lo).toNat:Nat):Int) - ((0:Nat):Int)=qU lo hi 1:=by rw[rangeSize_one];split<;>omega
 show IsRangeIter _ _ (lo+((0:Nat):Int) * 1) ((((hi - lo).toNat:Nat):Int) - ((0:Nat):Int)) 1;rw[e1,e2];exact QY _ rfl;have e:b=(s.heap.push { cls:=.type "range",data:=.fields #[.int lo t,.int hi u,.int 1 v] }).objs.size:=by simpa using hb
 subst e;exact I1.fpOk (QX _) (I1.hok.fresh (QX _))
noncomputable def tFor(wi:TI)(g:TG)(tb:TS):TS:=fun D σ H=>wi σ H fun J H1=>∃W:Nat->Nat->St->Hp->Prop,(∃m,W 0 m σ H1)/\∀i m σ H,W i m σ H ->
 (J.stop i H/\D.nx σ H)∨(J.go i H/\∃N:St->Hp->Prop,(∀σ' H',N σ' H'->∃m',m' < m/\W (i+1) m' σ' H')/\∀x H',J.yld i H x H'->g x σ H' fun σ2 H2=>tb { D with nx:=N,ct:=N,bk:=D.nx } σ2 H2)
noncomputable def pinsAt(fp:List Addr)(h:Heap):rC:=fp.filterMap fun b=>(h.get? b).map fun o=>(b,o)
theorem mem_pinsAt{fp:List Addr}{h:Heap}{b:Addr}{o:Obj}(hb:b∈fp)(e:h.get? b=some o):(b,o)∈pinsAt fp h:=QBK.mpr ⟨b,hb,by rw[e];rfl⟩
theorem of_pinsAt{fp:List Addr}{h:Heap}{p:Addr×Obj}(hp:p∈pinsAt fp h):p.1∈fp/\h.get? p.1=some p.2:=by
 obtain⟨b,hb,e⟩:=QBK.mp hp;cases q:h.get? b with
 |none=>rw[q]at e;cases e
 |some o=>rw[q]at e;have e':(b,o)=p:=Qw e;subst e';exact⟨hb,q⟩
theorem Inv.pinned{pins:rC}{σ:St}{H:Hp}{s:Shared}{fp:List Addr}(I:Inv X pins σ H s)(hf:∀b∈fp,FpOk X pins H b)(ho:∀b∈fp,∃o,s.heap.get? b=some o/\∀v,o.data≠.cell v):Inv X (pins++pinsAt fp s.heap) σ H s :=
 I.pins_of fun p hp=>(qH.mp hp).elim (fun z=>I.pin p (Qb _ z)) fun z=>by obtain⟨hb,e⟩:=of_pinsAt z;obtain⟨f0,f1,f2,_⟩:=hf p.1 hb;obtain⟨o,e',d⟩:=ho p.1 hb;rw[e]at e';cases e';exact⟨e,f0,f1,f2,d⟩
theorem Inv.unpinned{pins pl:rC}{σ:St}{H:Hp}{s:Shared}(I:Inv X (pins++pl) σ H s):Inv X pins σ H s:=I.pins_of fun p hp=>I.pin p (Qb _ (qZ _ hp))
theorem ps_for{iter:Expr}{body:List Stmt}{wi:TI}{g:TG}{tb:TS}{pos:Pos}(hp:PassesOwn (model X.prog X.w) X.A X.env X.xe)(hc:X.calm=true)(hi:PI X tg iter wi)(hg:PG X tg g)(hb:PSs X body tb)
  (hs:∀x,foldedSetIterable iter X.env x=pure x:=by intro _;rfl):PS X (.For tg iter body [] pos) (tFor wi g tb):=by
 intro pins s σ H D I h;refine wpAny_For (VB (hi pins s σ H _ I h) fun v s1 h1=>VB h1 fun itv s2 h2=>?_) hs;obtain⟨it,fp,tn,J,H2,e,I2,T,st2,f2,W,⟨m0,w0⟩,turn⟩:=h2;subst e;have stat:∀{H':Hp},(∀b∈fp,H' b=none)->∀b∈fp,FpOk X pins H' b:=fun hn b hb=>⟨hn b hb,(f2 b hb).2⟩
 refine codeAny_forLoop_any (fun n s'=>∃i σ' H',Inv X pins σ' H' s'/\tn i s'.heap/\(∀b∈fp,H' b=none)/\W i n σ' H') ?_ m0 ⟨0,σ,H2,I2,st2,fun b hb=>(f2 b hb).1,w0⟩;rintro n s3 ⟨i,σ3,H3,I3,st3,fr3,w3⟩;rcases turn i n σ3 H3 w3 with⟨stop,qn⟩| ⟨go,N,hN,step⟩
 refine WG hp (VB (T.done X rfl rfl rfl hc i pins s3 σ3 H3 X.xe I3 (stat fr3) st3 stop) fun r s4 ⟨hr,I4⟩=>?_);subst hr;exact QAe ⟨σ3,H3,I4,qn⟩;refine WG hp (VB (T.item X rfl rfl rfl hc i pins s3 σ3 H3 X.xe I3 (stat fr3) st3 go) fun r s4 ⟨u,hr,h4⟩=>?_);subst hr;refine WG hp (VB h4 fun _ s5 ⟨x,H5,I5,r5,y5,st5,fr5⟩=>?_);have I5':=I5.pinned (stat fr5) (T.obj _ _ st5);refine WG hp (VB (hg _ s5 σ3 H5 x u _ I5' r5 (step x H5 y5)) fun _ s6 ⟨σ6,H6,I6,q6⟩=>?_);refine WG hp (VB (hb _ s6 σ6 H6 _ I6 q6) fun f s7 q7=>?_);have again:∀{σ7:St}{H7:Hp},Inv X (pins++pinsAt fp s5.heap) σ7 H7 s7->N σ7 H7->∃m,m<n/\∃i σ' H',Inv X pins σ' H' s7/\tn i s7.heap/\(∀b∈fp,H' b=none)/\W i m σ' H':=fun {σ7 H7} I7 n7=>by obtain⟨m',hm,w7⟩:=hN σ7 H7 n7;refine⟨m',hm,i+1,σ7,H7,I7.unpinned,T.keep _ _ _ st5 fun b hb o e=>(I7.pin (b,o) (Qb _ (Qb _ (mem_pinsAt hb e)))).1,fun b hb=>?_,w7⟩;obtain⟨o,e,d⟩:=T.obj _ _ st5 b hb;exact(I7.pin (b,o) (Qb _ (Qb _ (mem_pinsAt hb e)))).2.1
 cases f with
 |next=>obtain⟨σ7,H7,I7,n7⟩:=q7;exact again I7 n7
 |cont=>obtain⟨σ7,H7,I7,n7⟩:=q7;exact again I7 n7
 |brk=>obtain⟨σ7,H7,I7,q7⟩:=q7;exact⟨σ7,H7,I7.unpinned,q7⟩
 |ret v=>obtain⟨x7,σ7,H7,I7,r7,q7⟩:=q7;exact⟨x7,σ7,H7,I7.unpinned,r7,q7⟩
end
noncomputable abbrev R2:=V->V->Hp->VK->Prop
def OpR(X:Cx)(f:Value->Value->Sem Value)(r:R2):Prop :=
 ∀(pins:rC) (s:Shared) (σ:St) (H:Hp) (x y:V) (v u:Value) (Q:VK),Inv X pins σ H s->FA x v->FA y u->r x y H Q ->
  wpAny (model X.prog X.w) X.A (f v u) (EP X pins σ Q) X.xe s
def EC(X:Cx)(f:Value)(r:List V->Hp->VK->Prop):Prop :=
 ∀(pins:rC) (s:Shared) (σ:St) (H:Hp) (xs:List V) (us:List Value) (Q:VK),Inv X pins σ H s->aA xs us->r xs H Q ->
  wpAny (model X.prog X.w) X.A (call f us) (EP X pins σ Q) X.xe s
def TruR(X:Cx)(r:V->Hp->(Bool->Hp->Prop)->Prop):Prop :=
 ∀(pins:rC) (s:Shared) (σ:St) (H:Hp) (x:V) (v:Value) (Q:Bool->Hp->Prop),Inv X pins σ H s->FA x v->r x H Q ->
  wpAny (model X.prog X.w) X.A (truthy v) (TP X pins σ Q) X.xe s
noncomputable def tOp(r:R2)(ta tb:TE):TE:=fun σ H Q=>ta σ H fun x H1=>tb σ H1 fun y H2=>r x y H2 Q
noncomputable def rI(C:Int->Int->Prop)(g:Int->Int->V):R2:=fun x y H Q=>∃i j,x=.int i/\y=.int j/\C i j/\Q (g i j) H
noncomputable def rI0(g:Int->Int->V):R2:=fun x y H Q=>∃i j,x=.int i/\y=.int j/\Q (g i j) H
section
variable{X:Cx}{a b c:Expr}{ta tb tc:TE}{pos:Pos}
theorem binT(ha:PE X a ta)(hb:PE X b tb){pins:rC}{s:Shared}{σ:St}{H:Hp}{R:V->V->Hp->Prop}(I:Inv X pins σ H s)
  (h:ta σ H fun x H1=>tb σ H1 fun y H2=>R x y H2) {Q:xD}{f:Value->Value->Sem Value}
  (hf:∀v u s2 x y H2,Inv X pins σ H2 s2->FA x v->FA y u->R x y H2->wpAny (model X.prog X.w) X.A (f v u) Q X.xe s2) :
  wpAny (model X.prog X.w) X.A (eval a X.env) (fun v s₁=>wpAny (model X.prog X.w) X.A (eval b X.env) (fun u s₂=>wpAny (model X.prog X.w) X.A (f v u) Q X.xe s₂) X.xe s₁) X.xe s:=by
 refine VB (ha pins s σ H _ I h) fun v s1 ⟨x,H1,I1,r1,q1⟩=>?_;refine VB (hb pins s1 σ H1 _ I1 q1) fun u s2 ⟨y,H2,I2,r2,q2⟩=>?_;exact hf v u s2 x y H2 I2 r1 r2 q2
theorem pe_op{op:Operator}{r:R2}(ho:OpR X (binaryOp op) r)(ha:PE X a ta)(hb:PE X b tb):PE X (.BinOp a op b pos) (tOp r ta tb):=by intro pins s σ H Q I h;exact wpAny_BinOp (binT ha hb I h fun v u s2 x y H2 I2 rx ry q=>ho pins s2 σ H2 x y v u Q I2 rx ry q)
theorem opI{f:Value->Value->Sem Value}{C:Int->Int->Prop}{g:Int->Int->Int}
  (rule:∀(i j:Int) (t u:Tok) (s:Shared) (Q:xD) (E:xD),C i j->Q (.int (g i j) s.toks) { s with toks:=s.toks+1 }->wpAny (model X.prog X.w) X.A (f (.int i t) (.int j u)) Q E s) :
  OpR X f (rI C fun i j=>.int (g i j)):=by
 intro pins s σ H x y v u Q I rx ry h;obtain⟨i,j,rfl,rfl,hc,q⟩:=h;obtain⟨t,rfl⟩:=rx;obtain⟨t',rfl⟩:=ry;exact rule i j t t' s _ _ hc ⟨.int (g i j),H,I.tok _,⟨_,rfl⟩,q⟩
theorem opI0{f:Value->Value->Sem Value}{g:Int->Int->Int}
  (rule:∀(i j:Int) (t u:Tok) (s:Shared) (Q:xD) (E:xD),Q (.int (g i j) s.toks) { s with toks:=s.toks+1 }->wpAny (model X.prog X.w) X.A (f (.int i t) (.int j u)) Q E s) :
  OpR X f (rI0 fun i j=>.int (g i j)):=by
 intro pins s σ H x y v u Q I rx ry h;obtain⟨i,j,rfl,rfl,q⟩:=h;obtain⟨t,rfl⟩:=rx;obtain⟨t',rfl⟩:=ry;exact rule i j t t' s _ _ ⟨.int (g i j),H,I.tok _,⟨_,rfl⟩,q⟩
theorem opB0{f:Value->Value->Sem Value}{g:Int->Int->Bool}
  (rule:∀(i j:Int) (t u:Tok) (s:Shared) (Q:xD) (E:xD),Q (.bool (g i j)) s->wpAny (model X.prog X.w) X.A (f (.int i t) (.int j u)) Q E s) :
  OpR X f (rI0 fun i j=>.bl (g i j)):=by
 intro pins s σ H x y v u Q I rx ry h;obtain⟨i,j,rfl,rfl,q⟩:=h;obtain⟨t,rfl⟩:=rx;obtain⟨t',rfl⟩:=ry;exact rule i j t t' s _ _ ⟨.bl (g i j),H,I,rfl,q⟩
def CPow(i j:Int):Prop:=0<=j/\j<=1000000/\i.natAbs<2 ^ 64
def CMul(i j:Int):Prop:=(-(2 ^ 64)<i/\i<2 ^ 64)∨(-(2 ^ 64)<j/\j<2 ^ 64)
theorem CMul.ok{i j:Int}(h:CMul i j):IntMulOk i j:=by
 rcases h with⟨h1,h2⟩| ⟨h1,h2⟩
 exact .of_left (QBL h1 h2);exact .of_right (QBL h1 h2)
theorem op_add:OpR X (binaryOp .Add) (rI0 fun i j=>.int (i+j)):=opI0 fun _ _ _ _ _ _ _ q=>add_int q
theorem op_sub:OpR X (binaryOp .Sub) (rI0 fun i j=>.int (i - j)):=opI0 fun _ _ _ _ _ _ _ q=>sub_int q
theorem op_mod:OpR X (binaryOp .Mod) (rI (fun _ j=>0<j) fun i j=>.int (i % j)):=opI fun i j _ _ _ _ _ hc q=>by have h1:(0:Int)<j:=hc;exact mod_int' (by omega) (by rw[Int.fmod_eq_emod_of_nonneg i (by omega)];exact q)
theorem op_pow:OpR X (binaryOp .Pow) (rI CPow fun i j=>.int (i ^ j.toNat)):=opI fun _ _ _ _ _ _ _ hc q=>pow_int_small hc.1 hc.2.1 hc.2.2 q
end
noncomputable def scal:V->V->Bool
 | .non,.non=>true | .non,.int _=>true | .int _,.non=>true | .non,.bl _=>true | .bl _,.non=>true | .non,.str _=>true | .str _,.non=>true
 | .int _,.int _=>true | .bl _,.bl _=>true | .str _,.str _=>true | .byt _,.byt _=>true
 | .int _,.str _=>true | .str _,.int _=>true | .bl _,.str _=>true | .str _,.bl _=>true
 |_,_=>false
noncomputable def rEq:R2:=fun x y H Q=>scal x y=true/\Q (.bl (decide (x=y))) H
noncomputable def rNe:R2:=fun x y H Q=>scal x y=true/\Q (.bl (!decide (x=y))) H
theorem dec_int{i j:Int}:decide (V.int i=V.int j)=(i==j):=by rw[wA];simp
theorem dec_bl{i j:Bool}:decide (V.bl i=V.bl j)=(i==j):=by rw[wA];simp
theorem dec_str{i j:Str}:decide (V.str i=V.str j)=(i==j):=by rw[wA];simp
theorem dec_byt{i j:Array UInt8}:decide (V.byt i=V.byt j)=(i.toList==j.toList):=by rw[wA];cases i;cases j;simp
section
variable{X:Cx}{a b c:Expr}{ta tb tc:TE}{pos:Pos}
theorem ZA{pins:rC}{σ:St}{H:Hp}{s:Shared}{Q:VK}{k k':Bool}(I:Inv X pins σ H s)(q:Q (.bl k) H)(e:k=k'):EP X pins σ Q (.bool k') s:=by subst e;exact⟨.bl k,H,I,rfl,q⟩
theorem op_eq:OpR X (compareOp .Eq) rEq:=by
 intro pins s σ H x y v u Q I rx ry h;obtain⟨hs,q⟩:=h;cases x with
 |non =>
  cases rx;cases y with
  |non=>cases ry;exact PySem.EqNone.eq_none_none (ZA I q (by simp))
  |bl j=>cases ry;exact PySem.EqNone.eq_none_bool (ZA I q (by simp))
  |int j=>obtain⟨t',rfl⟩:=ry;exact PySem.EqNone.eq_none_int (ZA I q (by simp))
  |str j=>obtain⟨t',rfl⟩:=ry;exact PySem.EqNone.eq_none_str (ZA I q (by simp))
  |_=>exact absurd (show false=true from hs) QC
 |bl i =>
  cases rx;cases y with
  |non=>cases ry;exact PySem.EqNone.eq_bool_none (ZA I q (by simp))
  |bl j=>cases ry;exact eq_bool (ZA I q dec_bl)
  |str j=>obtain⟨t',rfl⟩:=ry;exact PySem.EqMixed.eq_bool_str (ZA I q (by simp))
  |_=>exact absurd (show false=true from hs) QC
 |int i =>
  obtain⟨t,rfl⟩:=rx;cases y with
  |non=>cases ry;exact PySem.EqNone.eq_int_none (ZA I q (by simp))
  |int j=>obtain⟨t',rfl⟩:=ry;exact eq_int (ZA I q dec_int)
  |str j=>obtain⟨t',rfl⟩:=ry;exact PySem.EqMixed.eq_int_str (ZA I q (by simp))
  |_=>exact absurd (show false=true from hs) QC
 |str i =>
  obtain⟨t,rfl⟩:=rx;cases y with
  |non=>cases ry;exact PySem.EqNone.eq_str_none (ZA I q (by simp))
  |bl j=>cases ry;exact PySem.EqMixed.eq_str_bool (ZA I q (by simp))
  |int j=>obtain⟨t',rfl⟩:=ry;exact PySem.EqMixed.eq_str_int (ZA I q (by simp))
  |str j=>obtain⟨t',rfl⟩:=ry;exact eq_str (ZA I q dec_str)
  |_=>exact absurd (show false=true from hs) QC
 |byt i =>
  obtain⟨t,rfl⟩:=rx;cases y with
  |byt j=>obtain⟨t',rfl⟩:=ry;exact PySem.W.eq_bytes (ZA I q dec_byt)
  |_=>exact absurd (show false=true from hs) QC
 |_=>cases y<;>exact absurd (show false=true from hs) QC
theorem op_ne:OpR X (compareOp .NotEq) rNe:=by
 intro pins s σ H x y v u Q I rx ry h;obtain⟨hs,q⟩:=h;cases x with
 |non =>
  cases rx;cases y with
  |non=>cases ry;exact PySem.EqNone.ne_none_none (ZA I q (by simp))
  |bl j=>cases ry;exact PySem.EqNone.ne_none_bool (ZA I q (by simp))
  |int j=>obtain⟨t',rfl⟩:=ry;exact PySem.EqNone.ne_none_int (ZA I q (by simp))
  |str j=>obtain⟨t',rfl⟩:=ry;exact PySem.EqNone.ne_none_str (ZA I q (by simp))
  |_=>exact absurd (show false=true from hs) QC
 |bl i =>
  cases rx;cases y with
  |non=>cases ry;exact PySem.EqNone.ne_bool_none (ZA I q (by simp))
  |bl j=>cases ry;exact ne_bool (ZA I q (congrArg not dec_bl))
  |str j=>obtain⟨t',rfl⟩:=ry;exact PySem.EqMixed.ne_bool_str (ZA I q (by simp))
  |_=>exact absurd (show false=true from hs) QC
 |int i =>
  obtain⟨t,rfl⟩:=rx;cases y with
  |non=>cases ry;exact PySem.EqNone.ne_int_none (ZA I q (by simp))
  |int j=>obtain⟨t',rfl⟩:=ry;exact ne_int (ZA I q (congrArg not dec_int))
  |str j=>obtain⟨t',rfl⟩:=ry;exact PySem.EqMixed.ne_int_str (ZA I q (by simp))
  |_=>exact absurd (show false=true from hs) QC
 |str i =>
  obtain⟨t,rfl⟩:=rx;cases y with
  |non=>cases ry;exact PySem.EqNone.ne_str_none (ZA I q (by simp))
  |bl j=>cases ry;exact PySem.EqMixed.ne_str_bool (ZA I q (by simp))
  |int j=>obtain⟨t',rfl⟩:=ry;exact PySem.EqMixed.ne_str_int (ZA I q (by simp))
  |str j=>obtain⟨t',rfl⟩:=ry;exact ne_str (ZA I q (congrArg not dec_str))
  |_=>exact absurd (show false=true from hs) QC
 |byt i =>
  obtain⟨t,rfl⟩:=rx;cases y with
  |byt j=>obtain⟨t',rfl⟩:=ry;exact PySem.W.ne_bytes (ZA I q (congrArg not dec_byt))
  |_=>exact absurd (show false=true from hs) QC
 |_=>cases y<;>exact absurd (show false=true from hs) QC
theorem op_lt:OpR X (compareOp .Lt) (rI0 fun i j=>.bl (decide (i<j))):=opB0 fun _ _ _ _ _ _ _ q=>lt_int q
theorem op_le:OpR X (compareOp .LtE) (rI0 fun i j=>.bl (decide (i<=j))):=opB0 fun _ _ _ _ _ _ _ q=>le_int q
theorem op_gt:OpR X (compareOp .Gt) (rI0 fun i j=>.bl (decide (j<i))):=opB0 fun _ _ _ _ _ _ _ q=>gt_int q
theorem op_ge:OpR X (compareOp .GtE) (rI0 fun i j=>.bl (decide (j<=i))):=opB0 fun _ _ _ _ _ _ _ q=>ge_int q
theorem op_in_str:OpR X (compareOp .In) (fun x y H Q=>∃i j,x=.str i/\y=.str j/\Q (.bl (!(qV j i 0 j.length 1).isEmpty)) H):=by intro pins s σ H x y v u Q I rx ry h;obtain⟨i,j,rfl,rfl,q⟩:=h;obtain⟨t,rfl⟩:=rx;obtain⟨t',rfl⟩:=ry;exact in_str (ZA I q rfl)
theorem op_isN:OpR X (compareOp .Is) (fun x y H Q=>y=.non/\Q (.bl (decide (x=.non))) H):=by
 intro pins s σ H x y v u Q I rx ry h;obtain⟨rfl,q⟩:=h;cases ry;refine is_none_gen (ZA I q ?_);cases x<;>first
  | (cases rx;rfl)
  | (obtain⟨t,rfl⟩:=rx;rfl)
theorem op_notN:OpR X (compareOp .IsNot) (fun x y H Q=>y=.non/\Q (.bl (!decide (x=.non))) H):=by
 intro pins s σ H x y v u Q I rx ry h;obtain⟨rfl,q⟩:=h;cases ry;refine isnot_none_gen (ZA I q ?_);cases x<;>first
  | (cases rx;rfl)
  | (obtain⟨t,rfl⟩:=rx;rfl)
theorem op_notin_str:OpR X (compareOp .NotIn) (fun x y H Q=>∃i j,x=.str i/\y=.str j/\Q (.bl (!(!(qV j i 0 j.length 1).isEmpty))) H):=by intro pins s σ H x y v u Q I rx ry h;obtain⟨i,j,rfl,rfl,q⟩:=h;obtain⟨t,rfl⟩:=rx;obtain⟨t',rfl⟩:=ry;exact notIn_str (ZA I q rfl)
theorem pe_cmpR{op:CmpOp}{r:R2}(ho:OpR X (compareOp op) r)(ha:PE X a ta)(hb:PE X b tb)(hm:behindInMarks op b=false):PE X (.Compare a [op] [b] pos) (tOp r ta tb):=by intro pins s σ H Q I h;exact wpAny_Compare1 (binT ha hb I h fun v u s2 x y H2 I2 rx ry q=>ho pins s2 σ H2 x y v u Q I2 rx ry q) hm
noncomputable def tTest(t:TE):TT:=fun σ H Q=>t σ H fun x H'=>∃k,x=.bl k/\Q k H'
theorem pt_cmpR{op:CmpOp}{r:R2}(ho:OpR X (compareOp op) r)(ha:PE X a ta)(hb:PE X b tb)(hm:behindInMarks op b=false):PT X (.Compare a [op] [b] pos) (tTest (tOp r ta tb)):=by
 intro pins s σ H Q I h;refine wpAny_isTrue_Compare1 (VB (ha pins s σ H _ I h) fun v s1 ⟨x,H1,I1,r1,q1⟩=>VB (hb pins s1 σ H1 _ I1 q1) fun u s2 ⟨y,H2,I2,r2,q2⟩ =>
  VB (ho pins s2 σ H2 x y v u _ I2 r1 r2 q2) fun c s3 ⟨z,H3,I3,r3,k,e,q3⟩=>?_) hm
 subst e;cases r3;exact qS ⟨H3,I3,q3⟩
noncomputable def tChain(r r':R2)(ta tb tc:TE):TE:=fun σ H Q=>ta σ H fun x H1=>tb σ H1 fun y H2=>r x y H2 fun z H3=>∃k,z=.bl k /\
 (if k=true then tc σ H3 fun w' H4=>r' y w' H4 Q else Q (.bl false) H3)
theorem pe_chain{op op':CmpOp}{r r':R2}(ho:OpR X (compareOp op) r)(ho':OpR X (compareOp op') r')(ha:PE X a ta)(hb:PE X b tb)(hc:PE X c tc)
  (hm:lastMarks [op,op'] [b,c]=false:=by with_unfolding_all rfl):PE X (.Compare a [op,op'] [b,c] pos) (tChain r r' ta tb tc):=by
 intro pins s σ H Q I h;refine Compare_chain (VB (ha pins s σ H _ I h) fun v s1 ⟨x,H1,I1,r1,q1⟩=>chain_link (VB (hb pins s1 σ H1 _ I1 q1) fun u s2 ⟨y,H2,I2,r2,q2⟩ =>
  VB (ho pins s2 σ H2 x y v u _ I2 r1 r2 q2) fun d s3 ⟨z,H3,I3,r3,k,e,q3⟩=>?_)) hm
 subst e;cases r3;refine qS ?_;cases k with
 |false=>exact ite_ff ⟨.bl false,H3,I3,rfl,q3⟩
 |true=>exact ite_tt (chain_last (VB (hc pins s3 σ H3 _ I3 q3) fun w' s4 ⟨z',H4,I4,r4,q4⟩=>ho' pins s4 σ H4 y z' u w' Q I4 r2 r4 q4))
theorem pt_chain{op op':CmpOp}{r r':R2}(ho:OpR X (compareOp op) r)(ho':OpR X (compareOp op') r')(ha:PE X a ta)(hb:PE X b tb)(hc:PE X c tc)
  (hm:lastMarks [op,op'] [b,c]=false:=by with_unfolding_all rfl):PT X (.Compare a [op,op'] [b,c] pos) (tTest (tChain r r' ta tb tc)):=by
 intro pins s σ H Q I h;refine isTrue_chain (VB (ha pins s σ H _ I h) fun v s1 ⟨x,H1,I1,r1,q1⟩=>test_link (VB (hb pins s1 σ H1 _ I1 q1) fun u s2 ⟨y,H2,I2,r2,q2⟩ =>
  VB (ho pins s2 σ H2 x y v u _ I2 r1 r2 q2) fun d s3 ⟨z,H3,I3,r3,k,e,q3⟩=>?_)) hm
 subst e;cases r3;refine qS ?_;cases k with
 |false=>obtain⟨k',e',q'⟩:=q3;cases e';exact ite_ff ⟨H3,I3,q'⟩
 |true=>refine ite_tt (test_last (VB (hc pins s3 σ H3 _ I3 q3) fun w' s4 ⟨z',H4,I4,r4,q4⟩=>VB (ho' pins s4 σ H4 y z' u w' _ I4 r2 r4 q4) fun d' s5 ⟨z2,H5,I5,r5,k2,e2,q5⟩=>?_));subst e2;cases r5;exact qS ⟨H5,I5,q5⟩
def TruV(K:QA)(x:V)(H:Hp)(k:Bool):Prop :=
 match x with
 | .non=>k=false
 | .bl b=>k=b
 | .int i=>k=(i != 0)
 | .str y=>y.length<=sizeLine/\k=((y.length:Int) != 0)
 | .byt y=>y.size<=sizeLine/\k=((y.size:Int) != 0)
 | .ref p=>(∃xs,SqL K H p xs/\k=!xs.isEmpty)∨(∃xs,SqT K H p xs/\k=!xs.isEmpty)∨∃kvs,H p=some (.dK kvs)/\k=!kvs.isEmpty
 |_=>False
theorem isEmpty_kv{κ:Type}{kvs:List (κ×V)}{vs:List (κ×Value)}(r:KV kvs vs):(!vs.isEmpty)=!kvs.isEmpty:=by cases r<;>rfl
theorem isEmpty_of{xs:List V}{its:List Value}(r:aA xs its):(!its.toArray.isEmpty)=!xs.isEmpty:=by cases r<;>simp
theorem line63:(sizeLine:Nat)<2 ^ 63:=by rw[QZ];decide
theorem tru_ok:TruR X (fun x H Q=>∃k,TruV X.K x H k/\Q k H):=by
 intro pins s σ H x v Q I rx h;obtain⟨k,e,q⟩:=h;have hl:=line63;have hs:sizeLine=16777216:=QZ;cases x with
 |non=>cases rx;have e':k=false:=e;subst e';exact truthy_none ⟨H,I,q⟩
 |bl b=>cases rx;have e':k=b:=e;subst e';exact qS ⟨H,I,q⟩
 |int i=>obtain⟨t,rfl⟩:=rx;have e':k=(i != 0):=e;subst e';exact PySem.P.truthy_int ⟨H,I,q⟩
 |str y=>obtain⟨t,rfl⟩:=rx;obtain⟨hy,e'⟩:y.length<=sizeLine/\k=((y.length:Int) != 0):=e;subst e';exact PySem.P.truthy_str (by omega) ⟨H,I.tok _,q⟩
 |byt y=>obtain⟨t,rfl⟩:=rx;obtain⟨hy,e'⟩:y.size<=sizeLine/\k=((y.size:Int) != 0):=e;subst e';exact PySem.W.truthy_bytes (by omega) ⟨H,I.tok _,q⟩
 |ref p =>
  cases rx;have e':(∃xs,SqL X.K H p xs/\k=!xs.isEmpty)∨(∃xs,SqT X.K H p xs/\k=!xs.isEmpty)∨∃kvs,H p=some (.dK kvs)/\k=!kvs.isEmpty:=e;rcases e' with⟨xs,hx,e'⟩| ⟨xs,hx,e'⟩| ⟨kvs,hx,e'⟩
  subst e';obtain⟨its,r,pl,hz⟩:=I.list hx;have hlen:=r.length;exact wpAny_truthy_list pl.isList (by simp only[QO];omega) ⟨H,I.tok _,by rw[isEmpty_of r];exact q⟩;subst e';obtain⟨its,r,pl,hz⟩:=I.tuple hx;have hlen:=r.length;exact truthy_tuple pl (by simp only[QO];omega) ⟨H,I.tok _,by rw[isEmpty_of r];exact q⟩;subst e';obtain⟨hz,hS,vs,r,m⟩:kvs.length<=sizeLine/\(p==sysModules)=false/\∃vs,KV kvs vs/\s.heap.DictOf (mixKind X.prog X.w) p vs:=I.hok p _ hx;have hlen:kvs.length=vs.length:=Wh r;exact wpAny_truthy_dict hS m (by omega) ⟨H,I.tok _,by rw[isEmpty_kv r];exact q⟩
 |_=>exact(show False from e).elim
theorem op_add_str:OpR X (binaryOp .Add) (fun x y H Q=>∃i j,x=.str i/\y=.str j/\i.length+j.length<=sizeLine/\Q (.str (i++j)) H):=by intro pins s σ H x y v u Q I rx ry h;obtain⟨i,j,rfl,rfl,hz,q⟩:=h;obtain⟨t,rfl⟩:=rx;obtain⟨t',rfl⟩:=ry;exact add_str (fun t' tk=>⟨.str (i++j),H,I.tok _,⟨_,rfl⟩,q⟩) hz
theorem vals1{x:V}{us:List Value}(r:aA [x] us):∃u,us=[u]/\FA x u:=by
 cases r with
 |cons r1 r2=>cases r2;exact⟨_,rfl,r1⟩
theorem vals2{x y:V}{us:List Value}(r:aA [x,y] us):∃u w',us=[u,w']/\FA x u/\FA y w':=by
 cases r with
 |cons r1 r2 =>
  cases r2 with
  |cons r3 r4=>cases r4;exact⟨_,_,rfl,r1,r3⟩
theorem call_max2(hc:X.calm=true):EC X (.builtin "max") (fun xs H Q=>∃i j,xs=[.int i,.int j]/\Q (.int (if j > i then j else i)) H):=by
 intro pins s σ H xs us Q I r h;obtain⟨i,j,rfl,q⟩:=h;obtain⟨u,w',rfl,⟨t,rfl⟩,⟨t',rfl⟩⟩:=vals2 r;refine max_two_ints (I.ok.hd hc) fun h' tk k=>⟨_,H,I.kept k,?_,q⟩
 by_cases hj:j > i;rw[if_pos hj,if_pos hj];exact⟨_,rfl⟩;rw[if_neg hj,if_neg hj];exact⟨_,rfl⟩
theorem call_int1:EC X (.type "int") (fun xs H Q=>(∃i,xs=[.int i]/\Q (.int i) H)∨∃k,xs=[.bl k]/\Q (.int (if k then 1 else 0)) H):=by
 intro pins s σ H xs us Q I r h;rcases h with⟨i,rfl,q⟩| ⟨k,rfl,q⟩
 obtain⟨u,rfl,t,rfl⟩:=vals1 r;exact call_int_int ⟨.int i,H,I,⟨_,rfl⟩,q⟩;obtain⟨u,rfl,r1⟩:=vals1 r;cases r1;exact call_int_bool ⟨.int (if k then 1 else 0),H,I.tok _,⟨_,rfl⟩,q⟩
theorem call_str_int:EC X (.type "str") (fun xs H Q=>∃i,xs=[.int i]/\i.natAbs.log2<1920/\Q (.str (toString i)) H):=by intro pins s σ H xs us Q I r h;obtain⟨i,rfl,hz,q⟩:=h;obtain⟨u,rfl,t,rfl⟩:=vals1 r;exact PySem.P.str_of_int hz ⟨.str _,H,I.tok _,⟨_,rfl⟩,q⟩
end
structure ObjM(h:Heap)(x dx C:Addr)(mA:Str->Option Value):Prop where
 obj:h.get? x=some (QAd C dx)
 ns:h.Ns1 dx mA
 ne:dx≠x
theorem lookIn_ns{h:Heap}{dx:Addr}{mA:Str->Option Value}(n:h.Ns1 dx mA):∃od,h.get? dx=some od/\∀name,QAw name od=some (mA name):=by
 obtain⟨o,es,ep,ho,hd,hk,_,hm⟩:=n;refine⟨o,ho,fun name=>?_⟩;have e:=hm name;unfold nsFind findBy at e;rw[<- Array.find?_toList]at e;unfold QAw;rw[hd];dsimp only;split;rename_i y q;rw[q]at e;exact congrArg some e;rename_i q;rw[q]at e;have a:es.toList.any (·.refKey)=false:=by rw[List.any_eq_false];intro y hy;obtain⟨z,t,hkey⟩:=hk y (Array.mem_toList_iff.mp hy);simp[DictEntry.refKey,hkey]
 have a':¬ es.toList.any (·.refKey)=true:=by rw[a];exact QC
 rw[if_neg a'];exact congrArg some e
theorem ObjM.look{h:Heap}{x dx C:Addr}{mA:Str->Option Value}(I:ObjM h x dx C mA):∃od,PySem.W.InstAt h x (QAd C dx) C (some od)/\∀name,QAw name od=some (mA name) :=
 let⟨od,ho,hl⟩:=lookIn_ns I.ns
 ⟨od,⟨I.obj,rfl,rfl,ho⟩,hl⟩
section
variable{prog:Program}{w:World}{A:Around}{E:xD}{s:Shared}{K:QA}{x dx C f:Addr}{mA:Str->Option Value}{name:Str}{v:Value}
end
section
variable{P:Program}{w:World}{H H':Hp}{h h':Heap}{a C dx:Addr}{fs fs':List (Str×V)}
theorem ins_get(hok:HOk P w H h)(e:H a=some (.ins C dx fs)):∃mA,ObjM h a dx C mA/\(∀f,RelO (fs.lookup f) (mA f))/\PySem.Within mA (fs.map (·.1))/\fs.length<=1000/\H dx=some (.own a):=by
 obtain⟨d,z,ne,ob,mA,n,r,q⟩:=(show GC P w H h a (.ins C dx fs) from hok a _ e)
 exact⟨mA,⟨ob,n,ne⟩,r,q,z,d⟩
end
structure Cls(K:QA)(C:Addr):Prop where
 pg:QBv K C Str.empty=true
 hd:PySem.W.hasDictIn K C=true
 po:PySem.W.plainOver K C=true
 sa:PySem.W.findIn K (.ref C) "__setattr__"=some (some (.builtin "object.__setattr__"))
theorem Cls.get{K:QA}{C:Addr}(c:Cls K C)(f:Str):QBv K C f=true:=c.pg
section
variable{X:Cx}{pins:rC}{σ:St}{H:Hp}{s:Shared}{a C dx:Addr}{fs:List (Str×V)}{f:Str}{v:V}{A:Around}{E:xD}
end
section
variable{X:Cx}{o e value:Expr}{f:Str}{pos pos' tpos:Pos}{ta tv:TE}
end
section
variable{X:Cx}{pins:rC}{σ:St}{H:Hp}{s:Shared}{A:Around}{E:xD}{Q:xD}{c:Value}{b:Bool}
inductive TyOf(K:QA)(H:Hp):V->Value->Prop where
 |non:TyOf K H .non (.type "NoneType")
 |bl (x:Bool):TyOf K H (.bl x) (.type "bool")
 |int (i:Int):TyOf K H (.int i) (.type "int")
 |str (x:Str):TyOf K H (.str x) (.type "str")
 |flt (x:UInt64):TyOf K H (.flt x) (.type "float")
 |lst {a:Addr}{xs:List V}(e:H a=some (.lst xs)):TyOf K H (.ref a) (.type "list")
 |frz {a:Addr}{o:Obj}{xs:List V}(e:H a=some (.frz o (.lst xs))):TyOf K H (.ref a) (.type "list")
 |tup {a:Addr}{xs:List V}(e:H a=some (.tup xs)):TyOf K H (.ref a) (.type "tuple")
 |dK {a:Addr}{kvs:List (Key×V)}(e:H a=some (.dK kvs)):TyOf K H (.ref a) (.type "dict")
 |dT {a:Addr}{kvs:List (List Key×V)}(e:H a=some (.dT kvs)):TyOf K H (.ref a) (.type "dict")
 |ins {a C dx:Addr}{fs:List (Str×V)}(e:H a=some (.ins C dx fs)) (cl:Cls K C) (ha:PySem.W.findIn K (.ref C) "__class__"=some (some (.builtin "object.__class__")))
   (hn:PySem.W.specialIn K (.builtin "object.__class__") "__get__"=some (some (.builtin "getset_descriptor.__get__"))) (htk:PySem.W.takesIn K (.builtin "object.__class__")=some true)
   (hm:PySem.W.mroIn K C (.type "object")=some true):TyOf K H (.ref a) (.ref C)
theorem isinst_ok{x:V}{u t:Value}(I:Inv X pins σ H s)(rx:FA x u)(ty:TyOf X.K H x t)(e:QAx X.K t c=some b)(h:∀tk,Q (.bool b) { s with toks:=tk }) :
  wpAny (model X.prog X.w) A (call (.builtin "isinstance") [u,c]) Q E s:=by
 cases ty with
 |non=>cases(show u=Value.none from rx);exact qB PySem.W.kitx_none I.kIn True.intro e (fun z=>nomatch z) h
 |bl y=>cases(show u=Value.bool y from rx);exact qB PySem.W.kitx_bool I.kIn True.intro e (fun z=>nomatch z) h
 |int i=>obtain⟨t,q⟩:=(show ∃t,u=Value.int i t from rx);cases q;exact qB PySem.W.kitx_int I.kIn True.intro e (fun z=>nomatch z) h
 |str y=>obtain⟨t,q⟩:=(show ∃t,u=Value.str y t from rx);cases q;exact qB PySem.W.kitx_str I.kIn True.intro e (fun z=>nomatch z) h
 |flt y=>obtain⟨t,q⟩:=(show ∃t,u=Value.float y t from rx);cases q;exact qB PySem.W.kitx_float I.kIn True.intro e (fun z=>nomatch z) h
 |@lst a xs ea =>
  cases(show u=Value.ref a from rx);obtain⟨_,_,n,_,h1⟩:=(show GC X.prog X.w H s.heap a (.lst xs) from I.hok a _ ea)
  exact qB W8 I.kIn ⟨_,h1,rfl⟩ e (fun z=>nomatch z) h
 |@frz a ob xs ea =>
  cases(show u=Value.ref a from rx);obtain⟨_,_,_,n,_,h1⟩:=(show GC X.prog X.w H s.heap a (.frz ob (.lst xs)) from I.hok a _ ea)
  exact qB W8 I.kIn ⟨_,h1,rfl⟩ e (fun z=>nomatch z) h
 |@tup a xs ea =>
  cases(show u=Value.ref a from rx);obtain⟨_,_,_,p⟩:=(show GC X.prog X.w H s.heap a (.tup xs) from I.hok a _ ea)
  obtain⟨o,h1,h2,_⟩:=p;exact qB QBM I.kIn ⟨o,h1,h2⟩ e (fun z=>nomatch z) h
 |@dK a kvs ea =>
  cases(show u=Value.ref a from rx);obtain⟨_,_,vs,_,p⟩:=(show GC X.prog X.w H s.heap a (.dK kvs) from I.hok a _ ea)
  obtain⟨o,es,ep,h1,h2,_⟩:=p;exact qB QBW I.kIn ⟨o,h1,h2.1⟩ e (fun z=>nomatch z) h
 |@dT a kvs ea =>
  cases(show u=Value.ref a from rx);obtain⟨_,_,xs,_,o,es,ep,h1,h2,_⟩:=(show GC X.prog X.w H s.heap a (.dT kvs) from I.hok a _ ea)
  exact qB QBW I.kIn ⟨o,h1,h2.1⟩ e (fun z=>nomatch z) h
 |@ins a C dx fs ea cl ha hn htk hm=>cases(show u=Value.ref a from rx);obtain⟨mA,O,_⟩:=ins_get I.hok ea;obtain⟨od,J,_⟩:=O.look;exact qB (PySem.W.kitx_own (cl.get _) cl.hd ha hn htk hm) I.kIn J e (fun z=>nomatch z) h
end
structure Room(k:Nat)(A:Around):Prop where
 hd:A.handled=none
 dp:A.depth+3 * k+5<recursionLimit
 un:A.units+16 * k+200<cLine
theorem Room.mono{j k:Nat}{A:Around}(r:Room k A)(h:j<=k):Room j A:=⟨r.hd,by have:=r.dp;omega,by have:=r.un;omega⟩
theorem Room.deeper{k:Nat}{A:Around}(r:Room (k+1) A)(env:Env):Room k (A.deeper env) :=
 ⟨r.hd,by have:=r.dp;show A.depth+1+3 * k+5<_;omega,by have:=r.un;show A.units+3+16 * k+200<_;omega⟩
theorem Room.depth{k:Nat}{A:Around}(r:Room k A):A.depth<recursionLimit:=by have:=r.dp;omega
noncomputable def tNil:TA:=fun _ H Q=>Q [] H
noncomputable def tCons(ta:TE)(tr:TA):TA:=fun σ H Q=>ta σ H fun x H1=>tr σ H1 fun xs H2=>Q (x::xs) H2
section
variable{X:Cx}{e:Expr}{es:List Expr}{te:TE}{t:TA}{pos:Pos}
theorem pa_nil:PA X [] tNil:=fun _ _ _ _ H Q I h=>W9 ⟨[],H,I,.nil,h⟩
theorem pa_cons(ha:PE X e te)(hr:PA X es t)(hs:starEach (e::es) X.env=(false,eval e X.env)::starEach es X.env:=by rfl):PA X (e::es) (tCons te t):=by intro pos pins s σ H Q I h;rw[hs];show wpAny _ _ (spliced ((false,eval e X.env)::backTo pos (starEach es X.env))) _ _ s;refine WH (VB (ha pins s σ H _ I h) fun u s1 ⟨x,H1,I1,r1,q1⟩=>?_);exact VB (hr pos pins s1 σ H1 _ I1 q1) fun us s2 ⟨xs,H2,I2,r2,q2⟩=>⟨x::xs,H2,I2,.cons r1 r2,q2⟩
noncomputable def tTup(t:TA):TE:=fun σ H Q=>t σ H fun xs H1=>xs.length<=sizeLine/\∀p,H1 p=none->Q (.ref p) (FB H1 p (.tup xs))
noncomputable def tLst(t:TA):TE:=fun σ H Q=>t σ H fun xs H1=>xs.length<=sizeLine/\∀p,H1 p=none->Q (.ref p) (FB H1 p (.lst xs))
theorem pe_tup{x1}(h:PA X es t):PE X (.Tuple es x1 pos) (tTup t):=by intro pins s σ H Q I hq;refine wpAny_Tuple_spliced (VB (h pos pins s σ H _ I hq) fun us s1 ⟨xs,H1,I1,r,z,q⟩=>⟨by rw[<- r.length];exact z,?_⟩);have hf:H1 s1.heap.objs.size=none:=I1.hok.fresh (QX _);refine⟨.ref s1.heap.objs.size,FB H1 s1.heap.objs.size (.tup xs),I1.laid (t':=s1.toks) (fun b u e=>QE _ e) (QX _) ?_,rfl,q _ hf⟩;exact⟨z,us,r,⟨_,QY _ rfl,rfl,_,rfl⟩⟩
theorem pe_lst(h:PA X es t):PE X (.List es pos) (tLst t):=by intro pins s σ H Q I hq;refine wpAny_List_spliced (VB (h pos pins s σ H _ I hq) fun us s1 ⟨xs,H1,I1,r,z,q⟩=>⟨by rw[<- r.length];exact z,?_⟩);have hf:H1 s1.heap.objs.size=none:=I1.hok.fresh (QX _);refine⟨.ref s1.heap.objs.size,FB H1 s1.heap.objs.size (.lst xs),I1.laid (t':=s1.toks) (fun b u e=>QE _ e) (QX _) ?_,rfl,q _ hf⟩;exact⟨z,us,0,r,QY _ rfl⟩
end
noncomputable abbrev Sp:=List V->Hp->VK->XK->Prop
noncomputable abbrev CXT:=List Env->Hp->Shared->XK->Value->Shared->Prop
structure Env0(P:Program)(w:World)(K:QA)(mg:Str->Option Value)(base:Heap)(A:Around)(outer:List Env)(s:Shared)(H:Hp):Prop where
 frames:A.frames=some outer
 mod:Mod K mg base
 bs:∀b o,base.get? b=some o->s.heap.get? b=some o/\H b=none
 bsz:base.objs.size<=s.heap.objs.size
 funs:s.heap.FunFrames base outer
 frf:∀b∈frs outer,H b=none
 hok:HOk P w H s.heap
 bare:AllBare s.gens
def CE(outer:List Env)(P:Program)(w:World)(H:Hp)(s:Shared)(Q:VK)(u:Value)(s':Shared):Prop :=
 ∃v H',s'.os=s.os/\AllBare s'.gens/\Un (frs outer) [] H H' s.heap s'.heap/\HOk P w H' s'.heap/\FA v u/\Q v H'
def CR(CX:CXT)(outer:List Env)(P:Program)(w:World)(H:Hp)(s:Shared)(Q:VK)(E:XK)(r:Result)(s':Shared):Prop :=
 match r with
 | .ok (.ret u)=>CE outer P w H s Q u s'
 | .ok _=>False
 | .error e=>CX outer H s E e s'
structure FnOk(P:Program)(w:World)(K:QA)(mg:Str->Option Value)(base:Heap)(CX:CXT)(k:Nat)(f:Addr)(fd:FuncData)(ps:List Str)(sp:Sp):Prop where
 len:∀vs H Q E,sp vs H Q E->vs.length=ps.length
 run:∀(A:Around) (outer:List Env) (s:Shared) (H:Hp) (args:Args) (us:List Value) (vs:List V) (Q:VK) (E:XK),Room k A->Env0 P w K mg base A outer s H->BindsTo s fd args (ps.zip us)->aA vs us->sp vs H Q E ->
  codeAny (model P w) A (.call (.ref f) args) (CR CX outer P w H s Q E) s
theorem FnOk.mono{P:Program}{w:World}{K:QA}{mg:Str->Option Value}{base:Heap}{CX:CXT}{j k:Nat}{f:Addr}{fd:FuncData}{ps:List Str}{sp:Sp}(F:FnOk P w K mg base CX j f fd ps sp)(h:j<=k) :
  FnOk P w K mg base CX k f fd ps sp:=⟨F.len,fun A outer s H args us vs Q E hr=>F.run A outer s H args us vs Q E (hr.mono h)⟩
theorem FnOk.imp{P:Program}{w:World}{K:QA}{mg:Str->Option Value}{base:Heap}{CX:CXT}{k:Nat}{f:Addr}{fd:FuncData}{ps:List Str}{sp sp':Sp}(F:FnOk P w K mg base CX k f fd ps sp)
  (h:∀vs H Q E,sp' vs H Q E->sp vs H Q E):FnOk P w K mg base CX k f fd ps sp' :=
 ⟨fun vs H Q E q=>F.len vs H Q E (h _ _ _ _ q),fun A outer s H args us vs Q E hr he hb hv hs=>F.run A outer s H args us vs Q E hr he hb hv (h _ _ _ _ hs)⟩
section
variable{X:Cx}{pins:rC}{σ:St}{H:Hp}{s s':Shared}
theorem Inv.env0(I:Inv X pins σ H s):Env0 X.prog X.w X.K X.mg X.base X.A X.stack s H :=
 ⟨I.ok.frames,I.ok.mod,I.bs,wF I.ok.bsz I.sz,I.stack,I.stkFree,I.hok,I.bare⟩
theorem Inv.after{Q:VK}{u:Value}(I:Inv X pins σ H s)(h:CE X.stack X.prog X.w H s Q u s'):EP X pins σ Q u s':=by obtain⟨v,H',os,bare,un,hok,r,q⟩:=h;obtain⟨hh,g,d,t,os'⟩:=s';obtain rfl:os'=s.os:=os;exact⟨v,H',I.call (h':=hh) (g':=g) (d':=d) (t':=t) (ch:=[]) un hok bare (fun b z=>absurd z (by simp)),r,q⟩
end
noncomputable def tCall(sp:Sp)(dvs:List V)(E:XK)(t:TA):TE:=fun σ H Q=>t σ H fun vs H1=>sp (vs++dvs) H1 Q E
def Binds(K:QA)(fd:FuncData)(ps:List Str)(ds:List Value):Prop :=
 ∀(s:Shared) (us:List Value),K.In s.heap->(us++ds).length=ps.length->BindsTo s fd ⟨us,[]⟩ (ps.zip (us++ds))
theorem Binds.all{K:QA}{fd:FuncData}{ps:List Str}(h:∀us:List Value,us.length=ps.length->bindArgs fd ⟨us,[]⟩=pure (ps.zip us)):Binds K fd ps []:=fun s us _ hl=>by rw[Qi]at hl ⊢;exact .of_eq (h us hl)
def Passes(CX:CXT)(X:Cx)(E:XK):Prop:=∀(pins:rC) (σ:St) (H:Hp) (s:Shared) (e:Value) (s':Shared),Inv X pins σ H s->CX X.stack H s E e s'->X.xe e s'
section
variable{X:Cx}{CX:CXT}{k:Nat}{f C:Addr}{fd:FuncData}{ps:List Str}{sp:Sp}{dvs:List V}{ds:List Value}{E:XK}{x m:Str}{p pos apos:Pos}{e o:Expr}{es:List Expr}{ta:TE}{t:TA}
theorem run_fn{pins:rC}{σ:St}{H:Hp}{s:Shared}{Q:VK}{us:List Value}{vs:List V}(F:FnOk X.prog X.w X.K X.mg X.base CX k f fd ps sp)(hr:Room k X.A)(hb:Binds X.K fd ps ds)(hd:aA dvs ds)(hx:Passes CX X E)
  (I:Inv X pins σ H s) (r:aA vs us) (h:sp (vs++dvs) H Q E):wpAny (model X.prog X.w) X.A (call (.ref f) us) (EP X pins σ Q) X.xe s:=by
 have r2:aA (vs++dvs) (us++ds):=r.append hd;have hl:(us++ds).length=ps.length:=by rw[<- r2.length];exact F.len _ _ _ _ h
 refine wpAny_call (Wu (F.run X.A X.stack s H ⟨us,[]⟩ (us++ds) (vs++dvs) Q E hr I.env0 (hb s us I.kIn hl) r2 h) fun r s' hq=>?_);cases r with
 |error e=>exact hx pins σ H s e s' I hq
 |ok fl =>
  cases fl with
  |ret u=>exact I.after hq
  |next=>exact QT hq
  |brk=>exact QT hq
  |cont=>exact QT hq
theorem pe_call(F:FnOk X.prog X.w X.K X.mg X.base CX k f fd ps sp)(hr:Room k X.A)(hg:Gl X x)(hm:X.mg x=some (.ref f))(hk:we X.K (.ref f)=true)(hb:Binds X.K fd ps ds)(hd:aA dvs ds)(hx:Passes CX X E)
  (ha:PA X (e::es) t) (hdb:(x==("__debug__":Str))=false:=by decide) (he:starEach (e::es) X.env=(false,eval e X.env)::starEach es X.env:=by rfl) (hpl:(backTo pos (starEach es X.env)).any (·.1)=false:=by rfl) :
  PE X (.Call (.Name x p) (e::es) [] pos) (tCall sp dvs E t):=by
 intro pins s σ H Q I h;refine wg (ld_glob I hg hm ?_ hdb);refine PySem.W.callWith_K (h₀:=X.base) I.ok.mod.kin hk (VB (ha pos pins s σ H _ I h) fun us s1 ⟨vs,H1,I1,r,q⟩=>⟨I1.kIn,?_⟩) he hpl;exact run_fn F hr hb hd hx I1 r q
theorem pe_call0(F:FnOk X.prog X.w X.K X.mg X.base CX k f fd ps sp)(hr:Room k X.A)(hg:Gl X x)(hm:X.mg x=some (.ref f))(hk:we X.K (.ref f)=true)(hb:Binds X.K fd ps ds)(hd:aA dvs ds)(hx:Passes CX X E)
  (hdb:(x==("__debug__":Str))=false:=by decide):PE X (.Call (.Name x p) [] [] pos) (tCall sp dvs E tNil):=by
 intro pins s σ H Q I h;refine wg (ld_glob I hg hm ?_ hdb);exact PySem.W.callWith_K0 I.kIn hk (run_fn (us:=[]) F hr hb hd hx I .nil h)
end
section
variable{X:Cx}{CX:CXT}{k:Nat}{f C:Addr}{fd:FuncData}{ps ks:List Str}{sp:Sp}{E:XK}{x m:Str}{p pos apos kpos:Pos}{e o:Expr}{es:List Expr}{kws:List Keyword}{te ta:TE}{t tk:TA}{nm:Option Str}
variable{g:List Value->List Value->List Value}{gV:List V->List V->List V}
end
structure FnScope(N P:List Str)(sc:Scope):Prop where
 kind:sc.kind=.function
 co:sc.isCoroutine=false
 gen:sc.isGenerator=false
 nd:N.Nodup
 pre:N.take P.length=P
 par:∀x∈P,sc.names.lookup x=some .local∨sc.names.lookup x=some .cell
 nofree:∀y∈sc.names,y.2≠.free
theorem bindL_out{kindOf:Str->Option NameKind}{x:Str}:∀{binds:List (Str×Value)}{m:Str->Option Value},(∀v,(x,v)∉binds)->bindL kindOf binds m x=m x
 |[],_,_=>rfl
 | (n,v)::r,m,h=>by
  unfold bindL;rw[bindL_out fun w hw=>h w (QJ _ hw)];split;have:x≠n:=by rintro rfl;exact h v QM
  simp[this];rfl
theorem bindC_out{kindOf:Str->Option NameKind}{x:Str}:∀{binds:List (Str×Value)}{m:Str->Option Value},(∀v,(x,v)∉binds)->bindC kindOf binds m x=m x
 |[],_,_=>rfl
 | (n,v)::r,m,h=>by
  unfold bindC;rw[bindC_out fun w hw=>h w (QJ _ hw)];split;rfl;have:x≠n:=by rintro rfl;exact h v QM
  simp[this]
theorem bindL_get{kindOf:Str->Option NameKind}{x:Str}{v:Value}:∀{P:List Str}{vs:List Value}{i:Nat}{m:Str->Option Value},P.Nodup->P[i]?=some x->vs[i]?=some v->kindOf x=some .local ->
  bindL kindOf (P.zip vs) m x=some v
 |[],_,_,_,_,h,_,_=>by simp at h
 |_::_,[],_,_,_,_,h,_=>by simp at h
 |p::P,w::vs,0,m,nd,h1,h2,hk=>by simp at h1 h2;subst h1;subst h2;show bindL kindOf ((p,w)::P.zip vs) m p=_;unfold bindL;rw[bindL_out fun v hv=>(wB.mp nd).1 (QAf hv).1,if_pos hk];simp
 |p::P,w::vs,i+1,m,nd,h1,h2,hk=>by show bindL kindOf ((p,w)::P.zip vs) m x=_;unfold bindL;exact bindL_get (i:=i) (wB.mp nd).2 (by simpa using h1) (by simpa using h2) hk
theorem bindC_get{kindOf:Str->Option NameKind}{x:Str}{v:Value}:∀{P:List Str}{vs:List Value}{i:Nat}{m:Str->Option Value},P.Nodup->P[i]?=some x->vs[i]?=some v->kindOf x≠some .local ->
  bindC kindOf (P.zip vs) m x=some v
 |[],_,_,_,_,h,_,_=>by simp at h
 |_::_,[],_,_,_,_,h,_=>by simp at h
 |p::P,w::vs,0,m,nd,h1,h2,hk=>by simp at h1 h2;subst h1;subst h2;show bindC kindOf ((p,w)::P.zip vs) m p=_;unfold bindC;rw[bindC_out fun v hv=>(wB.mp nd).1 (QAf hv).1,if_neg hk];simp
 |p::P,w::vs,i+1,m,nd,h1,h2,hk=>by show bindC kindOf ((p,w)::P.zip vs) m x=_;unfold bindC;exact bindC_get (i:=i) (wB.mp nd).2 (by simpa using h1) (by simpa using h2) hk
noncomputable def start(N:List Str)(vs:List V):St:=vs.map some++QH (N.length - vs.length) none
noncomputable def cxOf(CX:CXT)(P:Program)(w:World)(K:QA)(mg:Str->Option Value)(base:Heap)(N:List Str)(qual:Str)(scope:Scope)(f:Addr)(cd:Value)(A:Around)(outer:List Env)(s:Shared)(H:Hp)(E:XK):Cx where
 prog:=P
 w:=w
 K:=K
 mg:=mg
 base:=base
 A:=A.deeper (envOfC qual scope s.heap.objs.size f cd)
 N:=N
 s₀:=s
 H₀:=H
 env:=envOfC qual scope s.heap.objs.size f cd
 outer:=outer
 stack:=envOfC qual scope s.heap.objs.size f cd::outer
 ex:=[]
 calm:=true
 fn:=fun _=>true
 pn:=[]
 xe:=fun e s'=>wpAny (model P w) (A.deeper (envOfC qual scope s.heap.objs.size f cd)) (leaving (envOfC qual scope s.heap.objs.size f cd) e) (fun _ s''=>CX outer H s E e s'') (fun e' s''=>CX outer H s E e' s'') s'
theorem cell_has{sc:Scope}{n:Nat}{x:Str}(h:sc.names.lookup x=some .cell):∃c,(cellsFrom n sc.names []).lookup x=some c:=by have q:=QAW sc.names n [] (.inl h);exact QAA.mp q
theorem inv_start{CX:CXT}{P:Program}{w:World}{K:QA}{mg:Str->Option Value}{base:Heap}{N ps:List Str}{qual:Str}{scope:Scope}{f:Addr}{cd:Value}{A:Around}{outer:List Env}{s s1:Shared}{H:Hp}{E:XK}{us:List Value}{vs:List V}
  (S:FnScope N ps scope) (hd:A.handled=none) (e0:Env0 P w K mg base A outer s H) (hl:vs.length=ps.length) (r:aA vs us)
  (x:InCallC s s.heap.objs.size (bindL (envOfC qual scope s.heap.objs.size f cd).kindOf (ps.zip us) fun _=>none) (cellsFrom (s.heap.objs.size+1) scope.names []) (bindC (envOfC qual scope s.heap.objs.size f cd).kindOf (ps.zip us) fun _=>none) s1) :
  Inv (cxOf CX P w K mg base N qual scope f cd A outer s H E) [] (start N vs) H s1:=by
 have hpl:ps.length<=N.length:=by have:=congrArg w6 S.pre;rw[wb]at this;omega
 obtain⟨h1,tk,rfl,hk⟩:=x.done;have noA:∀b:Addr,b∉(cxOf CX P w K mg base N qual scope f cd A outer s H E).ex:=fun b z=>absurd (show b∈([]:List Addr) from z) (by simp);refine⟨⟨e0.mod,S.kind,rfl,rfl,QX _,fun y z c h1 h2=>?_,fun y hy=>?_,fun y c _ h=>?_,fun _=>hd,Around.frames_deeper e0.frames,.inr ⟨rfl,rfl⟩,fun b z=>absurd z (noA b),e0.bs,e0.bsz,fun b _ _=>noA b,fun b z=>absurd z (noA b),e0.funs,e0.frf⟩,
  rfl,e0.bare,Un.kept hk,⟨_,x.toInCall.ns,fun i y v h1 h2 h3=>?_⟩,fun y c h=>⟨_,x.cell y c h⟩,e0.hok.fresh (QX _),fun y c h=>?_,fun p hp=>absurd (show p∈([]:rC) from hp) (by simp),e0.hok.kept hk,?_⟩
 exact name_of_addr x.apart (Q9 h1) (Q9 h2);have hy:scope.names.lookup y=some .cell∨scope.names.lookup y=some .free:=hy;rcases hy with hy|hy;exact cell_has hy;exact absurd rfl (S.nofree _ (Q9 hy));exact QBm (x.above y c (Q9 h));have hi:i<vs.length:=by unfold start at h2;by_cases hi:i<vs.length;exact hi;rw[Qv (by simpa using hi)]at h2;rw[qp]at h2;split at h2<;>cases h2
 have ha:vs[i]?=some v:=by
  unfold start at h2;rw[qD (by simpa using hi),Qd]at h2;cases e:vs[i]? with
  |none=>rw[e]at h2;cases h2
  |some a=>rw[e]at h2;cases h2;rfl
 obtain⟨u,hu,rv⟩:=r.get ha;have hp:ps[i]?=some y:=by rw[<- S.pre,List.getElem?_take_of_lt (by omega)];exact h1
 have ndP:ps.Nodup:=by rw[<- S.pre];exact S.nd.sublist (List.take_sublist _ _)
 refine⟨u,rv,?_⟩;rcases S.par y (qP hp) with k|k;exact .inl ⟨k,bindL_get ndP hp hu k⟩;obtain⟨c,e⟩:=cell_has (n:=s.heap.objs.size+1) k;refine .inr ⟨.inl k,c,e,?_⟩;have q:=x.cell y c e;rw[bindC_get ndP hp hu (by show scope.names.lookup y≠_;rw[k];decide)]at q;exact q;exact e0.hok.fresh (QBm (x.above y c (Q9 h)));unfold start;show _=N.length;rw[QK,QG,Q7];omega
theorem fn_of{CX:CXT}{P:Program}{w:World}{K:QA}{mg:Str->Option Value}{base:Heap}{k:Nat}{f:Addr}{name qual:Str}{params:Arguments}{body:List Stmt}{scope:Scope}{dV kV doc pm cdv ct oc:Value}{an od:Option Addr}
  {osl:Array (Option Value)}{N ps:List Str}{sp:Sp}(lk:K.lookup f=some ⟨oc,od,.func (qh name qual params body scope dV kV doc pm an cdv ct),osl⟩) (hcd:Wz K cdv qual=true) (S:FnScope N ps scope)
  (len:∀vs H Q E,sp vs H Q E->vs.length=ps.length)
  (hbody:∀(A:Around) (outer:List Env) (s:Shared) (H:Hp) (vs:List V) (Q:VK) (E:XK),Room k (A.deeper (envOfC qual scope s.heap.objs.size f cdv))->sp vs H Q E ->
   ∃t,PSs (cxOf CX P w K mg base N qual scope f cdv A outer s H E) body t/\t { nx:=fun _ H'=>Q .non H',rt:=Q } (start N vs) H) :
  FnOk P w K mg base CX (k+1) f (qh name qual params body scope dV kV doc pm an cdv ct) ps sp:=by
 refine⟨len,fun A outer s H args us vs Q E hr e0 hb r hsp=>?_⟩;have hl:=len _ _ _ _ hsp;have KX:K.In s.heap:=e0.mod.kin.keeps fun b o e=>(e0.bs b o e).1;have lim:s.heap.NoLimit:=e0.mod.nolimit.keeps fun b o e=>(e0.bs b o e).1;have hkind:∀y∈ps.zip us,scope.names.lookup y.1=some .local∨(scope.names.lookup y.1=some .cell/\((cellsFrom (s.heap.objs.size+1) scope.names []).lookup y.1).isSome=true):=fun⟨n,v⟩ hy=>by rcases S.par n (QAf hy).1 with q|q;exact .inl q;exact .inr ⟨q,QAW _ _ _ (.inl q)⟩
 refine codeAny_call_function hr.depth (KX _ _ lk) rfl S.co S.gen rfl (PySem.W.codeRec_of KX hcd) (hb _ _ _ _ ?_);refine wpAny_newFunctionEnv_cells S.kind hkind fun env he s1 x=>?_;subst he;refine⟨lim.keeps x.toInCall.keep,codeAny_func ?_⟩;obtain⟨t,ht,hq⟩:=hbody A outer s H vs Q E (hr.deeper _) hsp;have I:Inv (cxOf CX P w K mg base N qual scope f cdv A outer s H E) [] (start N vs) H s1:=inv_start S hr.hd e0 hl r x;refine qw (ht [] s1 (start N vs) H _ I hq) (fun fl s' hs=>?_) fun e s' hs=>hs;have fin:∀{σ':St}{H':Hp}{v:V}{u:Value},Inv (cxOf CX P w K mg base N qual scope f cdv A outer s H E) [] σ' H' s'->FA v u->Q v H'->CE outer P w H s Q u s' :=
  fun {σ' H' v u} J rv q=>⟨v,H',J.os,J.bare,J.base,J.hok,rv,q⟩
 cases fl with
 |ret u=>obtain⟨v,σ',H',J,rv,q⟩:=hs;exact fin J rv q
 |next=>obtain⟨σ',H',J,q⟩:=hs;exact fin (v:=V.non) (u:=Value.none) J rfl q
 |brk=>obtain⟨_,_,_,q⟩:=hs;exact QT q
 |cont=>obtain⟨_,_,_,q⟩:=hs;exact QT q
section
variable{X:Cx}{x:Str}{p pos:Pos}{e:Expr}{es:List Expr}{t:TA}{id T:String}{r:List V->Hp->VK->Prop}
noncomputable def tCB(r:List V->Hp->VK->Prop)(t:TA):TE:=fun σ H Q=>t σ H fun vs H1=>r vs H1 Q
theorem pe_callB(hc:EC X (.builtin id) r)(hg:Gl X x)(hm:X.mg x=none)(hv:bootBuiltins x=some (.builtin id))(ha:PA X (e::es) t)(hn:x≠"__name__":=by decide)(hdb:(x==("__debug__":Str))=false:=by decide)
  (he:starEach (e::es) X.env=(false,eval e X.env)::starEach es X.env:=by rfl) (hpl:(backTo pos (starEach es X.env)).any (·.1)=false:=by rfl):PE X (.Call (.Name x p) (e::es) [] pos) (tCB r t):=by
 intro pins s σ H Q I h;refine wg (ld_blt I hg hm hv ?_ hn hdb);exact PyProof.Rows.callWith_builtin1 (VB (ha pos pins s σ H _ I h) fun us s1 ⟨vs,H1,I1,r1,q1⟩=>hc pins s1 σ H1 vs us Q I1 r1 q1) he hpl
theorem pe_callTy(hc:EC X (.type T) r)(hg:Gl X x)(hm:X.mg x=none)(hv:bootBuiltins x=some (.type T))(ha:PA X (e::es) t)(hn:x≠"__name__":=by decide)(hdb:(x==("__debug__":Str))=false:=by decide)
  (he:starEach (e::es) X.env=(false,eval e X.env)::starEach es X.env:=by rfl) (hpl:(backTo pos (starEach es X.env)).any (·.1)=false:=by rfl):PE X (.Call (.Name x p) (e::es) [] pos) (tCB r t):=by
 intro pins s σ H Q I h;refine wg (ld_blt I hg hm hv ?_ hn hdb);exact qW (VB (ha pos pins s σ H _ I h) fun us s1 ⟨vs,H1,I1,r1,q1⟩=>hc pins s1 σ H1 vs us Q I1 r1 q1) he hpl
end
end L2
namespace HT
open PySem PyProof.Rows
section
open PySem.SeqAt
open PySem.AutoSeq1 (wpAny_loadPart')
open PySem.MeetsSeq PySem.MeetsSeq2 PySem.MeetsSeq3
end
section
variable{prog:Program}{w:World}{A:Around}{E:xD}{s:Shared}
theorem cat_tup{t b:Addr}{vs ws:List Value}{Q:xD}(ht:IsTup s.heap t vs.toArray)(hb:IsTup s.heap b ws.toArray)(hv:vs≠[])
  (h1:ws=[]->Q (.ref t) s) (h2:ws≠[]->Q (.ref s.heap.objs.size) { s with heap:=s.heap.push { cls:=.type "tuple",data:=.seq (vs++ws).toArray } })
  (hsz:vs.length+ws.length<=sizeLine):wpAny (model prog w) A (binaryOp .Add (.ref t) (.ref b)) Q E s:=by
 obtain⟨⟨cls,dd,data,sl⟩,ho,hc,n,hd⟩:=id ht;obtain⟨⟨cls2,dd2,data2,sl2⟩,ho2,hc2,n2,hd2⟩:=id hb;simp only at hc hd hc2 hd2;subst hc hd hc2 hd2;have e:vs.toArray++ws.toArray=(vs++ws).toArray:=by simp
 by_cases hw:ws=[];exact QBo ⟨_,ho,rfl⟩ ⟨_,ho2,rfl⟩ QBw seq_tuple_add QAX QAJ (QAB _ _)
  (tuple_addW1 t b vs.toArray ws.toArray n n2 dd dd2 sl sl2 (by simpa using hv) (by simp[hw])) ⟨ho,ho2,h1 hw⟩
 refine QBo ⟨_,ho,rfl⟩ ⟨_,ho2,rfl⟩ QBw seq_tuple_add QAX QAJ (QAB _ _)
  (tuple_addW2 t b vs.toArray ws.toArray n n2 dd dd2 sl sl2 (by simpa using hv) (by simpa using hw) (by rw[QO,QO];exact hsz)) ⟨ho,ho2,?_⟩
 rw[e];exact h2 hw
noncomputable def sIx(n d:Nat):Option Int->Nat
 |none=>d
 |some v=>if v<0 then(v+(n:Int)).toNat else min v.toNat n
theorem sIx_le(n d:Nat)(hd:d<=n)(o:Option Int):sIx n d o<=n:=by
 cases o with
 |none=>exact hd
 |some v=>show(if v<0 then(v+(n:Int)).toNat else min v.toNat n)<=n;by_cases hv:v<0;rw[if_pos hv];omega;rw[if_neg hv];exact Nat.min_le_right _ _
theorem clip_eq(v:Int)(n d:Nat):(if v<0 then max (v+(n:Int)) 0 else min v (n:Int))=((sIx n d (some v):Nat):Int):=by show(if v<0 then max (v+(n:Int)) 0 else min v (n:Int))=(((if v<0 then(v+(n:Int)).toNat else min v.toNat n):Nat):Int);by_cases hv:v<0;simp only[if_pos hv];omega;simp only[if_neg hv];omega
theorem adjust_gen(lo hi:Option Int)(n:Nat):ww lo hi 1 (n:Int)=(((sIx n 0 lo:Nat):Int),((sIx n n hi:Nat):Int)):=by
 have h1:¬ ((1:Int)<0):=by omega
 unfold ww;simp only[h1,if_false];refine Prod.ext ?_ ?_;cases lo with
 |none=>rfl
 |some v=>exact clip_eq v n 0
 cases hi with
 |none=>rfl
 |some v=>exact clip_eq v n n
theorem places_gen(i j:Nat):wI (i:Int) (j:Int) 1=j - i:=by
 unfold wI;have h1:(1:Int) > 0:=by omega
 simp only[h1,if_true,Int.ediv_one];split<;>omega
theorem slicePart_{v:Value}{o:Option Int}{Q:Option Int->Shared->Prop}(p:IsPart v o)(h:Q o s):wpAny (model prog w) A (Builtin.Slice.slicePartIndex v) Q E s:=by
 cases p with
 |none=>exact slicePart_none h
 |int i t=>exact slicePart_int h
theorem sliceApplied_gen{sl:Addr}{vl vu:Value}{lo hi:Option Int}{n:Nat}{Q:Int×Int×Nat->Shared->Prop}(hs:s.heap.IsSliceOf sl vl vu .none)(pl:IsPart vl lo)(pu:IsPart vu hi)
  (h:Q (((sIx n 0 lo:Nat):Int),1,sIx n n hi - sIx n 0 lo) s):wpAny (model prog w) A (Wr (.ref sl) (pure (n:Int))) Q E s:=by
 obtain⟨os,hos,hcs,hds⟩:=id hs;unfold Wr Builtin.Slice.sliceFields;refine QF (QF (qX hos hds (x:=vl) rfl (QF (qX hos hds (x:=vu) rfl (QF (qX hos hds (x:=.none) rfl (QW ?_)))))));refine QF (slicePart_none ?_);show wpAny _ _ (if((1:Int)==0)=true then _ else _) _ _ s;rw[if_neg (by decide)];refine QF (slicePart_ pl (QF (slicePart_ pu (QF (QW ?_)))));show wpAny _ _ (match ww lo hi 1 (n:Int) with | (lo,hi)=>pure (lo,(1:Int),wI lo hi 1)) _ _ s;rw[adjust_gen lo hi n];show wpAny _ _ (pure (((sIx n 0 lo:Nat):Int),(1:Int),wI ((sIx n 0 lo:Nat):Int) ((sIx n n hi:Nat):Int) 1)) _ _ s;rw[places_gen];exact QW h
theorem pick_gen(xs:Array Value)(i k:Nat):((Qc k).filterMap fun(m:Nat)=>xs[((i:Int)+(m:Int) * 1).toNat]?).toArray=((xs.toList.drop i).take k).toArray:=by
 have e:(fun(m:Nat)=>xs[((i:Int)+(m:Int) * 1).toNat]?)=fun m=>xs[i+m]?:=by
  funext m;have:((i:Int)+(m:Int) * 1).toNat=i+m:=by omega
  rw[this]
 rw[e];have:=pick_run xs i k;rw[Qh]at this;have e2:((fun x=>xs[x]?)∘fun x=>i+x)=fun m=>xs[i+m]?:=rfl;rw[e2]at this;rw[this]
theorem getItem_tuple_cut{t sl:Addr}{items:Array Value}{vl vu:Value}{lo hi:Option Int}{Q:xD}(ht:IsTup s.heap t items)(hs:s.heap.IsSliceOf sl vl vu .none)(pl:IsPart vl lo)(pu:IsPart vu hi)
  (hw:¬ (sIx items.size 0 lo=0/\sIx items.size items.size hi=items.size))
  (h:Q (.ref s.heap.objs.size) { s with heap:=s.heap.push { cls:=.type "tuple",data:=.seq ((items.toList.drop (sIx items.size 0 lo)).take (sIx items.size items.size hi - sIx items.size 0 lo)).toArray } })
  (hsz:items.size<=sizeLine):wpAny (model prog w) A (getItem (.ref t) (.ref sl)) Q E s:=by
 have htake:sizeOk (.seq ((items.toList.drop (sIx items.size 0 lo)).take (sIx items.size items.size hi - sIx items.size 0 lo)).toArray):=by show((items.toList.drop (sIx items.size 0 lo)).take (sIx items.size items.size hi - sIx items.size 0 lo)).toArray.size<=sizeLine;rw[QO,wb,qa,Qg];omega
 have hj:sIx items.size items.size hi<=items.size:=sIx_le _ _ (QX _) hi;obtain⟨os,hos,hcs,hds⟩:=id hs;have hTs:s.TypeIs (.ref sl) "slice":=⟨os,hos,hcs⟩
 unfold getItem
 try with_reducible refine wu ?_
 first|refine QF (QW ?_)|skip
 refine QF (QBX ht.typeIs (by decide) ?_);refine QF (qY (name:=QD "__getitem__") ht.typeIs wM
  (wd wM ht.typeIs QA1 ?_ (QBN _ _)))
 show wpAny _ _ (Ws (.ref t) >>= _) _ _ s;refine QF (tupleItemsOf_ ht ?_);refine QF (QBp hTs ?_);rw[if_pos (by decide)];refine QF (sliceApplied_gen hs pl pu ?_);have hno:¬ ((((sIx items.size 0 lo:Nat):Int)==0&&(1:Int)==1&&(sIx items.size items.size hi - sIx items.size 0 lo)==items.size)=true):=by intro q;rw[QU,QU]at q;have q1:((sIx items.size 0 lo:Nat):Int)=0:=qC q.1.1;have q2:sIx items.size items.size hi - sIx items.size 0 lo=items.size:=qC q.2;exact hw ⟨by omega,by omega⟩
 show wpAny _ _ (if(((sIx items.size 0 lo:Nat):Int)==0&&(1:Int)==1&&(sIx items.size items.size hi - sIx items.size 0 lo)==items.size)=true then _ else _) _ _ s;rw[if_neg hno,pick_gen];first
  |exact QF (m:=wN _) (qy (QW ⟨_,rfl,QW h⟩) htake)
  |exact QF (m:=wN _) (qy (QF (QW (QW ⟨_,rfl,QW h⟩))) htake)
  |exact QF (QF (m:=wN _) (qy (QW (QW ⟨_,rfl,QW h⟩)) htake))
  |exact QF (QF (m:=wN _) (qy (QW ⟨_,rfl,QW h⟩) htake))
end
end HT
namespace L2
open PySem PySem.Spec PyProof.Rows
noncomputable abbrev TO:=St->Hp->(Option Int->Hp->Prop)->Prop
def PO(X:Cx)(e:Option Expr)(t:TO):Prop :=
 ∀(pins:rC) (s:Shared) (σ:St) (H:Hp) (Q:Option Int->Hp->Prop),Inv X pins σ H s->t σ H Q ->
  wpAny (model X.prog X.w) X.A (evalPart e X.env) (fun u s'=>∃o H',Inv X pins σ H' s'/\IsPart u o/\Q o H') X.xe s
noncomputable def tNoPart:TO:=fun _ H Q=>Q none H
noncomputable def tPart(t:TE):TO:=fun σ H Q=>t σ H fun x H1=>∃i,x=.int i/\Q (some i) H1
section
variable{X:Cx}{e:Expr}{te:TE}{lo hi:Option Expr}{tl th:TO}{pos p2:Pos}
theorem po_none:PO X none tNoPart:=by intro pins s σ H Q I h;rw[evalPart_none];exact QW ⟨none,H,I,.none,h⟩
theorem po_some(h:PE X e te):PO X (some e) (tPart te):=by intro pins s σ H Q I hw;rw[evalPart_some];refine VB (h pins s σ H _ I hw) fun u s1 ⟨x,H1,I1,r1,q1⟩=>?_;obtain⟨i,rfl,q⟩:=q1;obtain⟨t,rfl⟩:=r1;exact⟨some i,H1,I1,.int i t,q⟩
def SlR(X:Cx)(r:V->Option Int->Option Int->Hp->VK->Prop):Prop :=
 ∀(pins:rC) (s:Shared) (σ:St) (H:Hp) (x:V) (v vl vu:Value) (lo hi:Option Int) (sl:Addr) (Q:VK),Inv X pins σ H s->FA x v->s.heap.IsSliceOf sl vl vu .none->IsPart vl lo->IsPart vu hi->r x lo hi H Q ->
  ∃T id,typeLookup (.type T) "__getitem__"=pure (some (.builtin id))/\s.TypeIs v T/\wpAny (model X.prog X.w) X.A (getItem v (.ref sl)) (EP X pins σ Q) X.xe s
noncomputable def tSl(r:V->Option Int->Option Int->Hp->VK->Prop)(te:TE)(tl th:TO):TE:=fun σ H Q=>te σ H fun x H1=>tl σ H1 fun l H2=>th σ H2 fun u H3=>r x l u H3 Q
theorem pe_slice{r:V->Option Int->Option Int->Hp->VK->Prop}(hr:SlR X r)(he:PE X e te)(hl:PO X lo tl)(hu:PO X hi th):PE X (.Subscript e (.Slice lo hi none p2) pos) (tSl r te tl th):=by intro pins s σ H Q I h;refine Subscript_ (VB (he pins s σ H _ I h) fun v s1 ⟨x,H1,I1,r1,q1⟩=>?_);refine wpAny_Slice (VB (hl pins s1 σ H1 _ I1 q1) fun vl s2 ⟨l,H2,I2,pl,q2⟩=>VB (hu pins s2 σ H2 _ I2 q2) fun vu s3 ⟨u,H3,I3,pu,q3⟩=>?_);rw[evalPart_none];refine QW ?_;have I4:Inv X pins σ H3 { s3 with heap:=s3.heap.push { cls:=.type "slice",data:=.fields #[vl,vu,.none] } }:=I3.kept (t':=s3.toks) fun b ob q=>QE _ q;obtain⟨T,id,hT,ht,hg⟩:=hr pins { s3 with heap:=s3.heap.push { cls:=.type "slice",data:=.fields #[vl,vu,.none] } } σ H3 x v vl vu l u s3.heap.objs.size Q I4 r1 (Heap.IsSliceOf.new ..) pl pu q3;show wpAny (model X.prog X.w) X.A (subscriptTail e (.Slice lo hi none p2) v (.ref s3.heap.objs.size)) (EP X pins σ Q) X.xe { s3 with heap:=s3.heap.push { cls:=.type "slice",data:=.fields #[vl,vu,.none] } };exact tail_any (ops:=[.ref s3.heap.objs.size,v]) ht hT hg (by with_unfolding_all rfl)
noncomputable def cutV(xs:List V)(lo hi:Option Int):List V:=(xs.drop (HT.sIx xs.length 0 lo)).take (HT.sIx xs.length xs.length hi - HT.sIx xs.length 0 lo)
theorem cutV_length(xs:List V)(lo hi:Option Int):(cutV xs lo hi).length<=xs.length:=by unfold cutV;rw[wb,qa];omega
noncomputable def rSlT(K:QA):V->Option Int->Option Int->Hp->VK->Prop:=fun x lo hi H Q=>∃a xs,x=.ref a/\SqT K H a xs /\
 ¬ (HT.sIx xs.length 0 lo=0/\HT.sIx xs.length xs.length hi=xs.length)/\∀p,H p=none->Q (.ref p) (FB H p (.tup (cutV xs lo hi)))
theorem sl_tup:SlR X (rSlT X.K):=by
 intro pins s σ H x v vl vu lo hi sl Q I rx hs pl pu h;obtain⟨a,xs,rfl,hx,hw,q⟩:=h;cases rx;obtain⟨its,r,ht,hz⟩:=I.tuple hx;have hlen:its.toArray.size=xs.length:=by rw[QO];exact r.length.symm
 refine⟨"tuple",_,wM.lookup,ht.typeIs,?_⟩;refine HT.getItem_tuple_cut ht hs pl pu (by rw[hlen];exact hw) ?_ (by rw[hlen];exact hz);rw[hlen];refine⟨.ref s.heap.objs.size,_,I.laid (t':=s.toks) (o:=.tup (cutV xs lo hi)) (fun b ob q=>QE _ q) (QX _) ?_,rfl,q _ (I.hok.fresh (QX _))⟩;exact⟨wF (cutV_length xs lo hi) hz,_,(r.drop (HT.sIx xs.length 0 lo)).take (HT.sIx xs.length xs.length hi - HT.sIx xs.length 0 lo),QCB _ _⟩
noncomputable def rCatT(K:QA):R2:=fun x y H Q=>∃a b xs ys,x=.ref a/\y=.ref b/\SqT K H a xs/\SqT K H b ys/\xs≠[]/\xs.length+ys.length<=sizeLine /\
 (ys=[]->Q (.ref a) H)/\(ys≠[]->∀p,H p=none->Q (.ref p) (FB H p (.tup (xs++ys))))
theorem aA.nil_iff{xs:List V}{us:List Value}(r:aA xs us):us=[]↔xs=[]:=by
 cases r with
 |nil=>simp
 |cons _ _=>simp
theorem op_catT:OpR X (binaryOp .Add) (rCatT X.K):=by intro pins s σ H x y v u Q I rx ry h;obtain⟨a,b,xs,ys,rfl,rfl,ha,hb,hx,hz,q1,q2⟩:=h;cases rx;cases ry;obtain⟨its,r1,p1,_⟩:=I.tuple ha;obtain⟨its2,r2,p2,_⟩:=I.tuple hb;refine HT.cat_tup p1 p2 (fun z=>hx (r1.nil_iff.mp z)) (fun z=>⟨.ref a,H,I,rfl,q1 (r2.nil_iff.mp z)⟩) (fun z=>?_) (by rw[<- r1.length,<- r2.length];exact hz);refine⟨.ref s.heap.objs.size,_,I.laid (t':=s.toks) (o:=.tup (xs++ys)) (fun b ob q=>QE _ q) (QX _) ?_,rfl,q2 (fun w=>z (r2.nil_iff.mpr w)) _ (I.hok.fresh (QX _))⟩;exact⟨by rw[QK];exact hz,_,r1.append r2,QCB _ _⟩
end
noncomputable def ixN(n:Nat)(i:Int):Option Nat:=if 0<=i then(if i<n then some i.toNat else none) else if -(n:Int)<=i then some (i+n).toNat else none
noncomputable def uC{α:Type}(xs:List α)(i:Int):Option α:=(ixN xs.length i).bind fun j=>xs[j]?
theorem ixN_seq{n:Nat}{i:Int}{j:Nat}(h:ixN n i=some j):seqIndex? i n=some j/\j<n/\-(n:Int)<=i/\i<n:=by unfold ixN at h;by_cases h0:0<=i;rw[if_pos h0]at h;by_cases h1:i<n;rw[if_pos h1]at h;have e:i.toNat=j:=Qw h;exact⟨by rw[QCC h0 h1,e],by omega,by omega,h1⟩;rw[if_neg h1]at h;cases h;rw[if_neg h0]at h;by_cases h1:-(n:Int)<=i;rw[if_pos h1]at h;have e:(i+n).toNat=j:=Qw h;exact⟨by rw[QBq (by omega) h1,e],by omega,h1,by omega⟩;rw[if_neg h1]at h;cases h
theorem atI_get{α:Type}{xs:List α}{i:Int}{v:α}(h:uC xs i=some v):∃j,seqIndex? i xs.length=some j/\xs[j]?=some v/\j<xs.length/\-(xs.length:Int)<=i/\i<xs.length:=by
 unfold uC at h;cases e:ixN xs.length i with
 |none=>rw[e]at h;cases h
 |some j=>rw[e]at h;obtain⟨h1,h2,h3,h4⟩:=ixN_seq e;exact⟨j,h1,h,h2,h3,h4⟩
theorem ZB{α:Type}{xs:List α}{j:Nat}{v:α}(h:xs[j]?=some v):uC xs (j:Int)=some v:=by
 have hj:j<xs.length:=(Qj.mp h).1;have e:ixN xs.length (j:Int)=some j:=by unfold ixN;rw[if_pos (by omega),if_pos (by omega)];simp
 unfold uC;rw[e];exact h
def PlainIx(b:Expr):Prop:=∀o i,subscripted b false o i=operate [o,i] (getItem o i)
def IxR(X:Cx)(r:R2):Prop :=
 ∀(value slice:Expr) (pins:rC) (s:Shared) (σ:St) (H:Hp) (x y:V) (v u:Value) (Q:VK),Inv X pins σ H s->FA x v->FA y u->r x y H Q ->
  subscripted slice false v u=operate [v,u] (getItem v u)->wpAny (model X.prog X.w) X.A (subscriptTail value slice v u) (EP X pins σ Q) X.xe s
def MtR(X:Cx)(id:String)(r:V->List V->Hp->VK->Prop):Prop :=
 ∀(pins:rC) (s:Shared) (σ:St) (H:Hp) (x:V) (xs:List V) (v:Value) (us:List Value) (Q:VK),Inv X pins σ H s->FA x v->aA xs us->r x xs H Q ->
  wpAny (model X.prog X.w) X.A (call (.builtin id) (v::us)) (EP X pins σ Q) X.xe s
section
variable{X:Cx}{a b:Expr}{ta tb:TE}{pos:Pos}
theorem IxR.or{r r':R2}(h:IxR X r)(h':IxR X r'):IxR X (fun x y H Q=>r x y H Q∨r' x y H Q):=by intro value slice pins s σ H x y v u Q I rx ry q hs;rcases q with q|q;exact h value slice pins s σ H x y v u Q I rx ry q hs;exact h' value slice pins s σ H x y v u Q I rx ry q hs
theorem pe_ix{r:R2}(hr:IxR X r)(ha:PE X a ta)(hb:PE X b tb)(hs:PlainIx b):PE X (.Subscript a b pos) (tOp r ta tb):=by intro pins s σ H Q I h;exact Subscript_ (binT ha hb I h fun v u s2 x y H2 I2 rx ry q=>hr a b pins s2 σ H2 x y v u Q I2 rx ry q (hs _ _))
noncomputable def rIxL(K:QA):R2:=fun x y H Q=>∃p xs i v,x=.ref p/\y=.int i/\SqL K H p xs/\uC xs i=some v/\Q v H
noncomputable def rIxT(K:QA):R2:=fun x y H Q=>∃p xs i v,x=.ref p/\y=.int i/\SqT K H p xs/\uC xs i=some v/\Q v H
noncomputable def rIxS:R2:=fun x y H Q=>∃z i c,x=.str z/\y=.int i/\z.length<=sizeLine/\uC z.cps.toList i=some c/\Q (.str ⟨#[c]⟩) H
theorem ix_list:IxR X (rIxL X.K):=by
 intro value slice pins s σ H x y v u Q I rx ry h hs;obtain⟨p,xs,i,z,rfl,rfl,hq,he,q⟩:=h;cases rx;obtain⟨t,rfl⟩:=ry;obtain⟨its,r,pl,hz⟩:=I.list hq;obtain⟨j,h1,h2,h3,h4,h5⟩:=atI_get he;obtain⟨w,ew,rw'⟩:=r.get h2;have hl:=r.length;have hn:=line63;have fin:EP X pins σ Q w s:=⟨z,H,I,rw',q⟩
 by_cases h0:0<=i;have hj:i.toNat=j:=by rw[QCC h0 h5]at h1;exact Qw h1
 exact item_listR pl.isList h0 (by omega) (by rw[hj];simpa using ew) fin hs;have hj:(i+(its.toArray.size:Int)).toNat=j:=by rw[QBq (by omega) h4]at h1;rw[QO,<- hl];exact Qw h1
 exact WP (x:=w) pl.isList.typeIs QBY.lookup
  (wpAny_getItem_list_neg (Q:=fun r s'=>r=w/\EP X pins σ Q r s') pl.isList (by omega) (by rw[QO]<;>omega) (by omega) (by rw[hj];simpa using ew) ⟨rfl,fin⟩) hs
theorem ix_tup:IxR X (rIxT X.K):=by
 intro value slice pins s σ H x y v u Q I rx ry h hs;obtain⟨p,xs,i,z,rfl,rfl,hq,he,q⟩:=h;cases rx;obtain⟨t,rfl⟩:=ry;obtain⟨its,r,pl,hz⟩:=I.tuple hq;obtain⟨j,h1,h2,h3,h4,h5⟩:=atI_get he;obtain⟨w,ew,rw'⟩:=r.get h2;have hl:=r.length;have hn:=line63;have fin:EP X pins σ Q w s:=⟨z,H,I,rw',q⟩
 exact WP (x:=w) pl.typeIs WI.lookup
  (getItem_tuple (j:=j) (Q:=fun r s'=>r=w/\EP X pins σ Q r s') pl (by omega) (by omega) (by rw[QO,<- hl];exact h1) (by simpa using ew) ⟨rfl,fin⟩) hs
theorem ix_str:IxR X rIxS:=by
 intro value slice pins s σ H x y v u Q I rx ry h hs;obtain⟨z,i,c,rfl,rfl,hz,he,q⟩:=h;obtain⟨t,rfl⟩:=rx;obtain⟨t',rfl⟩:=ry;obtain⟨j,h1,h2,h3,h4,h5⟩:=atI_get he;have hl:z.cps.toList.length=z.length:=by simp[QBZ]
 rw[hl]at h1 h4 h5;have hn:=line63;exact tail_any (QAC s z t) slot_str_getitem.lookup (getItem_str (c:=c) (by have e1:decide (i < -(2 ^ 63:Int))=false:=dF (by omega);have e2:decide (i ≥ 2 ^ 63)=false:=dF (by omega);rw[e1,e2,QBG]) (by rw[h1];simpa using h2) ⟨.str ⟨#[c]⟩,H,I.tok _,⟨_,rfl⟩,q⟩) hs
noncomputable def rIx(K:QA):R2:=fun x y H Q=>rIxL K x y H Q∨rIxT K x y H Q∨rIxS x y H Q
theorem ix_seq:IxR X (rIx X.K):=ix_list.or (ix_tup.or ix_str)
theorem mapSeq_set(its:List Value)(n j:Nat)(u:Value):QAo (·.setIfInBounds j u) { cls:=.type "list",data:=.seq its.toArray n }={ cls:=.type "list",data:=.seq (its.set j u).toArray n }:=by simp[QAo]
theorem Inv.lst{pins:rC}{σ:St}{H:Hp}{s:Shared}{p:Addr}{xs:List V}(I:Inv X pins σ H s)(h:H p=some (.lst xs)) :
  ∃(its:List Value) (n:Nat),aA xs its/\s.heap.get? p=some { cls:=.type "list",data:=.seq its.toArray n }/\xs.length<=sizeLine:=by
 obtain⟨z,its,n,r,e⟩:=I.hok p _ h;exact⟨its,n,r,e,z⟩
theorem Inv.lstUpd{pins:rC}{σ:St}{H:Hp}{s:Shared}{p:Addr}{xs ys:List V}{its its':List Value}{n n':Nat}{f:Obj->Obj}(I:Inv X pins σ H s)(h:H p=some (.lst xs))
  (ho:s.heap.get? p=some { cls:=.type "list",data:=.seq its.toArray n }) (hf:f { cls:=.type "list",data:=.seq its.toArray n }={ cls:=.type "list",data:=.seq its'.toArray n' }) (r:aA ys its') (hz:ys.length<=sizeLine) (t:Nat) :
  Inv X pins σ (FB H p (.lst ys)) { s with heap:=s.heap.update p f,toks:=t }:=by
 have e:(s.heap.update p f).get? p=some { cls:=.type "list",data:=.seq its'.toArray n' }:=by rw[QAg f ho (by rw[hf]<;>rfl),hf]
 refine I.write (x:=p) (e:=p) (by rw[h];trivial) (.inl rfl) (fun b u hb q=>(QAY _ _ (Q4 hb)).trans q) ⟨_,e⟩ ?_;exact⟨hz,its',n',r,e⟩
noncomputable def rSetL:V->V->V->Hp->(Hp->Prop)->Prop:=fun o i v H Q=>∃p xs k j,o=.ref p/\i=.int k/\H p=some (.lst xs)/\ixN xs.length k=some j/\Q (FB H p (.lst (xs.set j v)))
theorem set_list:PSet X rSetL:=by
 intro pins s σ H o i v ov iv u Q I ro ri rv h;obtain⟨p,xs,k,j,rfl,rfl,hp,hj,q⟩:=h;cases ro;obtain⟨t,rfl⟩:=ri;obtain⟨its,n,r,ho,hz⟩:=I.lst hp;obtain⟨h1,h2,h3,h4⟩:=ixN_seq hj;have hl:=r.length;have hn:=line63;have I':Inv X pins σ (FB H p (.lst (xs.set j v))) { s with heap:=s.heap.update p (QAo (·.setIfInBounds j u)) } :=
  I.lstUpd hp ho (mapSeq_set its n j u) (r.set rv j) (by rw[wC];exact hz) s.toks
 by_cases h0:0<=k;have hk:k.toNat=j:=by rw[QCC h0 h4]at h1;exact Qw h1
 exact PySem.W.ki_setAt ho h0 (by omega) (by rw[QO,<- hl];exact h4) (by rw[hk];exact⟨_,I',q⟩);have hk:(k+(its.toArray.size:Int)).toNat=j:=by rw[QBq (by omega) h3]at h1;rw[QO,<- hl];exact Qw h1
 exact PySem.W.ki_setBack ho (by omega) (by rw[QO,<- hl];exact h3) (by omega) (by rw[hk];exact⟨_,I',q⟩)
theorem slice_bounds(lo hi:Option Int)(n:Nat):(sliceBounds lo hi none n).1=((HT.sIx n 0 lo:Nat):Int)/\(sliceBounds lo hi none n).2.1=((HT.sIx n n hi:Nat):Int)/\(sliceBounds lo hi none n).2.2=1:=by
 refine⟨?_,?_,rfl⟩;cases lo with
 |none=>simp[sliceBounds,HT.sIx]
 |some i=>simp only[sliceBounds,HT.sIx,QBx,show(1:Int) > 0 by decide,if_true];by_cases h:i<0;simp only[h,if_true]<;>omega;simp only[h,if_false]<;>omega
 cases hi with
 |none=>simp[sliceBounds,HT.sIx]
 |some i=>simp only[sliceBounds,HT.sIx,QBx,show(1:Int) > 0 by decide,if_true];by_cases h:i<0;simp only[h,if_true]<;>omega;simp only[h,if_false]<;>omega
theorem slicePick_cut(its:List Value)(lo hi:Option Int):slicePick its.toArray lo hi none=((its.drop (HT.sIx its.length 0 lo)).take (HT.sIx its.length its.length hi - HT.sIx its.length 0 lo)).toArray:=by obtain⟨h1,h2,h3⟩:=slice_bounds lo hi its.toArray.size;unfold slicePick;rw[h1,h2,h3];simp only[sliceRange_one,pick_run,QO]<;>rfl
noncomputable def rSlL(K:QA):V->Option Int->Option Int->Hp->VK->Prop:=fun x lo hi H Q=>∃a xs,x=.ref a/\SqL K H a xs/\∀p,H p=none->Q (.ref p) (FB H p (.lst (cutV xs lo hi)))
theorem sl_list:SlR X (rSlL X.K):=by intro pins s σ H x v vl vu lo hi sl Q I rx hs pl pu h;obtain⟨a,xs,rfl,hx,q⟩:=h;cases rx;obtain⟨its,r,ht,hz⟩:=I.list hx;have hlen:=r.length;refine⟨"list",_,QBY.lookup,ht.isList.typeIs,?_⟩;refine wpAny_getItem_list_slice ht.isList hs pl pu .none (by simp) ?_ (by rw[QO]<;>omega);rw[slicePick_cut,<- hlen];refine⟨.ref s.heap.objs.size,_,I.laid (t':=s.toks) (o:=.lst (cutV xs lo hi)) (fun b ob q=>QE _ q) (QX _) ?_,rfl,q _ (I.hok.fresh (QX _))⟩;exact⟨wF (cutV_length xs lo hi) hz,_,0,(r.drop (HT.sIx xs.length 0 lo)).take (HT.sIx xs.length xs.length hi - HT.sIx xs.length 0 lo),QY _ rfl⟩
noncomputable def flatV:V->Bool
 | .non=>true
 | .bl _=>true
 | .int _=>true
 | .str _=>true
 |_=>false
noncomputable def eqV:V->V->Bool
 | .non,.non=>true
 | .bl a,.bl b=>a==b
 | .bl a,.int b=>(if a then 1 else 0)==b
 | .int a,.bl b=>a==(if b then 1 else 0)
 | .int a,.int b=>a==b
 | .str a,.str b=>a==b
 |_,_=>false
theorem eqAt_V{A:Around}{s:Shared}{y x:V}{u v:Value}(ry:FA y u)(rx:FA x v)(fy:flatV y=true)(fx:flatV x=true):qg A s u v (eqV y x):=by
 cases y with
 |non =>
  cases ry;cases x with
  |non=>cases rx;exact qg.same _
  |bl b=>cases rx;exact qg.none_bool b
  |int b=>obtain⟨t,rfl⟩:=rx;exact qg.none_int b t
  |str b=>obtain⟨t,rfl⟩:=rx;exact qg.none_str b t
  |_=>exact absurd (show false=true from fx) QC
 |bl a =>
  cases ry;cases x with
  |non=>cases rx;exact qg.bool_none a
  |bl b=>cases rx;exact qg.bool_bool a b
  |int b=>obtain⟨t,rfl⟩:=rx;exact qg.bool_int a b t
  |str b=>obtain⟨t,rfl⟩:=rx;exact qg.bool_str a b t
  |_=>exact absurd (show false=true from fx) QC
 |int a =>
  obtain⟨t',rfl⟩:=ry;cases x with
  |non=>cases rx;exact qg.int_none a t'
  |bl b=>cases rx;exact qg.int_bool a t' b
  |int b=>obtain⟨t,rfl⟩:=rx;exact qg.int_int a t' b t
  |str b=>obtain⟨t,rfl⟩:=rx;exact QBH a t' b t
  |_=>exact absurd (show false=true from fx) QC
 |str a =>
  obtain⟨t',rfl⟩:=ry;cases x with
  |non=>cases rx;exact qg.str_none a t'
  |bl b=>cases rx;exact qg.str_bool a t' b
  |int b=>obtain⟨t,rfl⟩:=rx;exact QBI a t' b t
  |str b=>obtain⟨t,rfl⟩:=rx;exact qg.str_str a t' b t
  |_=>exact absurd (show false=true from fx) QC
 |_=>exact absurd (show false=true from fy) QC
noncomputable def eqU(x:V)(u:Value):Bool:=match u with
 | .none=>eqV .non x
 | .bool b=>eqV (.bl b) x
 | .int i _=>eqV (.int i) x
 | .str z _=>eqV (.str z) x
 |_=>false
theorem eqU_of{x y:V}{u:Value}(r:FA y u)(f:flatV y=true):eqU x u=eqV y x:=by
 cases y with
 |non=>cases r;rfl
 |bl b=>cases r;rfl
 |int i=>obtain⟨t,rfl⟩:=r;rfl
 |str z=>obtain⟨t,rfl⟩:=r;rfl
 |_=>exact absurd (show false=true from f) QC
theorem any_eqU{x:V}:∀{xs:List V}{us:List Value},aA xs us->xs.all flatV=true->us.any (eqU x)=xs.any fun y=>eqV y x
 |_,_,.nil,_=>rfl
 |y::xs,u::us,.cons r t,f=>by rw[Q5,QU]at f;rw[qq,qq,eqU_of r f.1,any_eqU t f.2]
theorem mem_eqAt{A:Around}{s:Shared}{x:V}{v:Value}(rx:FA x v)(fx:flatV x=true):∀{xs:List V}{us:List Value},aA xs us->xs.all flatV=true->∀u∈us,qg A s u v (eqU x u)
 |_,_,.nil,_=>fun u hu=>by cases hu
 |y::xs,u::us,.cons r t,f=>fun u' hu=>by rw[Q5,QU]at f;rcases QI.mp hu with rfl|hu;rw[eqU_of r f.1];exact eqAt_V r rx f.1 fx;exact mem_eqAt rx fx t f.2 u' hu
noncomputable def inV(x:V)(xs:List V):Bool:=xs.any fun y=>eqV y x
noncomputable def rIn(K:QA)(neg:Bool):R2:=fun x y H Q=>∃p xs,y=.ref p/\(SqL K H p xs∨SqT K H p xs)/\flatV x=true/\xs.all flatV=true/\Q (.bl (if neg then !inV x xs else inV x xs)) H
theorem op_in_seq:OpR X (compareOp .In) (rIn X.K false):=by intro pins s σ H x y v u Q I rx ry h;obtain⟨p,xs,rfl,hq,fx,fs,q⟩:=h;cases ry;rcases hq with hq|hq;obtain⟨its,r,pl,hz⟩:=I.list hq;refine SeqAt.in_listAt (eqU x) pl.isList (fun w hw=>mem_eqAt rx fx r fs w (by simpa using hw)) ⟨.bl _,H,I,rfl,?_⟩;rw[show its.toArray.any (eqU x)=its.any (eqU x) by simp,any_eqU r fs];exact q;obtain⟨its,r,pl,hz⟩:=I.tuple hq;refine SeqAt.in_tupleAt (eqU x) pl (fun w hw=>mem_eqAt rx fx r fs w (by simpa using hw)) ⟨.bl _,H,I,rfl,?_⟩;rw[show its.toArray.any (eqU x)=its.any (eqU x) by simp,any_eqU r fs];exact q
theorem op_notIn_seq:OpR X (compareOp .NotIn) (rIn X.K true):=by intro pins s σ H x y v u Q I rx ry h;obtain⟨p,xs,rfl,hq,fx,fs,q⟩:=h;cases ry;rcases hq with hq|hq;obtain⟨its,r,pl,hz⟩:=I.list hq;refine SeqAt.notIn_listAt (eqU x) pl.isList (fun w hw=>mem_eqAt rx fx r fs w (by simpa using hw)) ⟨.bl _,H,I,rfl,?_⟩;rw[show its.toArray.any (eqU x)=its.any (eqU x) by simp,any_eqU r fs];exact q;obtain⟨its,r,pl,hz⟩:=I.tuple hq;refine SeqAt.notIn_tupleAt (eqU x) pl (fun w hw=>mem_eqAt rx fx r fs w (by simpa using hw)) ⟨.bl _,H,I,rfl,?_⟩;rw[show its.toArray.any (eqU x)=its.any (eqU x) by simp,any_eqU r fs];exact q
theorem call_len_seq:EC X (.builtin "len") (fun xs H Q=>∃p ys,xs=[.ref p]/\(SqL X.K H p ys∨SqT X.K H p ys)/\Q (.int ys.length) H):=by intro pins s σ H xs us Q I r h;obtain⟨p,ys,rfl,hq,q⟩:=h;obtain⟨u,rfl,rx⟩:=vals1 r;cases rx;have hn:=line63;rcases hq with hq|hq;obtain⟨its,r',pl,hz⟩:=I.list hq;have hlen:=r'.length;exact Calls.call_len_list pl.isList (by simp only[QO]<;>omega) ⟨.int ys.length,H,I.tok _,⟨s.toks+1,by rw[QO,hlen]⟩,q⟩;obtain⟨its,r',pl,hz⟩:=I.tuple hq;have hlen:=r'.length;exact len_tuple pl (by simp only[QO]<;>omega) ⟨.int ys.length,H,I.tok _,⟨s.toks+1,by rw[QO,hlen]⟩,q⟩
theorem call_len_str:EC X (.builtin "len") (fun xs H Q=>∃z,xs=[.str z]/\z.length<=sizeLine/\Q (.int z.length) H):=by intro pins s σ H xs us Q I r h;obtain⟨z,rfl,hz,q⟩:=h;obtain⟨u,rfl,t,rfl⟩:=vals1 r;have hn:=line63;exact len_str (by omega) ⟨.int z.length,H,I.tok _,⟨_,rfl⟩,q⟩
theorem call_list_of:EC X (.type "list") (fun xs H Q=>∃p ys,xs=[.ref p]/\(SqL X.K H p ys∨SqT X.K H p ys)/\∀l,H l=none->Q (.ref l) (FB H l (.lst ys))):=by
 intro pins s σ H xs us Q I r h;obtain⟨p,ys,rfl,hq,q⟩:=h;obtain⟨u,rfl,rx⟩:=vals1 r;cases rx;have fin:∀(its:List Value),aA ys its->ys.length<=sizeLine->∀(h':Heap) (c':Nat),(∀b o',s.heap.get? b=some o'->h'.get? b=some o') ->
   h'.get? s.heap.objs.size=some { cls:=.type "list",dict:=none,data:=.seq its.toArray c',slots:=#[] }->EP X pins σ Q (.ref s.heap.objs.size) { s with heap:=h' }:=fun its r' hz h' c' kp e =>
  ⟨.ref s.heap.objs.size,_,I.laid (t':=s.toks) kp (QX _) (show GC X.prog X.w _ h' _ (.lst ys) from⟨hz,its,c',r',e⟩),rfl,q _ (I.hok.fresh (QX _))⟩
 rcases hq with hq|hq;obtain⟨its,r',pl,hz⟩:=I.list hq;have hlen:=r'.length;obtain⟨o,ho,hc,n,hd⟩:=pl.isList;exact call_list_seq p (.inl rfl) ho hc hd (fun h' c' kp e=>fin its r' hz h' c' kp e) (by simp only[QO]<;>omega);obtain⟨its,r',pl,hz⟩:=I.tuple hq;have hlen:=r'.length;obtain⟨o,ho,hc,n,hd⟩:=pl;exact call_list_seq p (.inr rfl) ho hc hd (fun h' c' kp e=>fin its r' hz h' c' kp e) (by simp only[QO]<;>omega)
theorem call_tuple_of:EC X (.type "tuple") (fun xs H Q=>∃p ys,xs=[.ref p]/\((SqL X.K H p ys/\∀l,H l=none->Q (.ref l) (FB H l (.tup ys)))∨(SqT X.K H p ys/\Q (.ref p) H))):=by
 intro pins s σ H xs us Q I r h;obtain⟨p,ys,rfl,h⟩:=h;obtain⟨u,rfl,rx⟩:=vals1 r;cases rx;rcases h with⟨hq,q⟩| ⟨hq,q⟩
 obtain⟨its,r',pl,hz⟩:=I.list hq;have hlen:=r'.length;refine call_tuple_list pl.isList (fun h' kp=>?_) (by simp only[QO]<;>omega);have I1:Inv X pins σ H { s with heap:=h' }:=I.kept (t':=s.toks) kp;have I2:Inv X pins σ (FB H h'.objs.size (.tup ys)) { s with heap:=h'.push { cls:=.type "tuple",data:=.seq its.toArray } } :=
  I1.laid (t':=s.toks) (fun b o e=>QE _ e) (QX _) (show GC X.prog X.w _ _ _ (.tup ys) from⟨hz,its,r',QCB _ _⟩)
 exact⟨.ref h'.objs.size,_,I2,rfl,q _ (I1.hok.fresh (QX _))⟩;obtain⟨its,r',pl,hz⟩:=I.tuple hq;exact call_tuple_same pl ⟨.ref p,H,I,rfl,q⟩
def tyV(K:QA)(T:String)(x:V)(H:Hp):Prop:=match x with
 | .str _=>T="str"
 | .int _=>T="int"
 | .ref p=>(T="list"/\∃xs,SqL K H p xs)∨(T="tuple"/\∃o,K.lookup p=some o/\o.cls=.type "tuple"/\o.dict=none) ∨
   (T="dict"/\((∃kvs,H p=some (.dK kvs))∨∃kvs,H p=some (.dT kvs)))∨(T="set"/\∃S n,H p=some (.set S n))
 |_=>False
theorem tyV_is{pins:rC}{σ:St}{H:Hp}{s:Shared}{T:String}{x:V}{v:Value}(I:Inv X pins σ H s)(r:FA x v)(ty:tyV X.K T x H) :
  s.TypeIs v T/\∀a,v=.ref a->∃ob,s.heap.get? a=some ob/\ob.dict=none:=by
 cases x with
 |str z=>obtain⟨t,rfl⟩:=r;cases(show T="str" from ty);exact⟨QAC s z t,fun _ e=>nomatch e⟩
 |int i=>obtain⟨t,rfl⟩:=r;cases(show T="int" from ty);exact⟨QAp s i t,fun _ e=>nomatch e⟩
 |ref p =>
  cases r;rcases ty with⟨rfl,xs,hq⟩| ⟨rfl,o,hk,hc,hd⟩| ⟨rfl,hk⟩| ⟨rfl,S,n,hk⟩
  obtain⟨its,_,pl,_⟩:=I.list hq;refine⟨pl.isList.typeIs,fun a e=>?_⟩;cases e;obtain⟨o,n,e,c,hd,_⟩:=pl;exact⟨o,e,hd⟩;refine⟨⟨o,I.kIn p o hk,hc⟩,fun a e=>?_⟩;cases e;exact⟨o,I.kIn _ o hk,hd⟩;have z:∃o,s.heap.get? p=some o/\o.ExactDict:=by
   rcases hk with⟨kvs,hk⟩| ⟨kvs,hk⟩
   obtain⟨_,_,_,_,o,_,_,e,ex,_⟩:=I.hok p _ hk;exact⟨o,e,ex⟩;obtain⟨_,_,_,_,o,_,_,e,ex,_⟩:=I.hok p _ hk;exact⟨o,e,ex⟩
  obtain⟨o,e,ex⟩:=z;refine⟨⟨o,e,ex.1⟩,fun a e2=>?_⟩;cases e2;exact⟨o,e,ex.2.1⟩;obtain⟨o,_,_,_,e,ex,_⟩:=I.hok p _ hk;refine⟨⟨o,e,ex.1⟩,fun a e2=>?_⟩;cases e2;exact⟨o,e,ex.2.1⟩
 |_=>exact QT ty
noncomputable def tBM0(K:QA)(T:String)(r:V->List V->Hp->VK->Prop)(to:TE):TE:=fun σ H Q=>to σ H fun x H1=>tyV K T x H1/\r x [] H1 Q
noncomputable def tBM(K:QA)(T:String)(r:V->List V->Hp->VK->Prop)(to:TE)(t:TA):TE:=fun σ H Q=>to σ H fun x H1=>tyV K T x H1/\t σ H1 fun xs H2=>r x xs H2 Q
variable{o e:Expr}{es:List Expr}{to:TE}{t:TA}{name:Str}{apos cpos:Pos}{T id:String}{r:V->List V->Hp->VK->Prop}
theorem pe_bm0(pa:PlainAttrs T)(slot:Slot T name id)(hty:typeOf (.builtin id)=pure (.type "method_descriptor"))(hm:MtR X id r)(ho:PE X o to)
  (hbase:attributeBase o name X.env (eval o X.env)=eval o X.env:=by rfl) (hline:(apos.endLine==cpos.line)=true:=by rfl):PE X (.Call (.Attribute o name apos) [] [] cpos) (tBM0 X.K T r to):=by
 intro pins s σ H Q I h;refine wpAny_Call_method0_late hbase hline (VB (ho pins s σ H _ I h) fun v s1 ⟨x,H1,I1,r1,ty,q1⟩=>?_);obtain⟨h1,h2⟩:=tyV_is I1 r1 ty;exact⟨T,id,pa,slot,hty,h1,h2,wf rfl (PySem.evalArgs_none (hm pins s1 σ H1 x [] v [] Q I1 r1 .nil q1))⟩
theorem pe_bm(pa:PlainAttrs T)(slot:Slot T name id)(hty:typeOf (.builtin id)=pure (.type "method_descriptor"))(hm:MtR X id r)(ho:PE X o to)(ha:PA X (e::es) t)
  (hbase:attributeBase o name X.env (eval o X.env)=eval o X.env:=by rfl)
  (hfew:((backTo cpos (starEach (e::es) X.env)).all (fun x=>!x.1)&&(backToKw cpos (keywordEach [] X.env)).all (fun x=>x.1.isSome)
   && decide ((e::es).length+([]:List Keyword).length+(if([]:List Keyword).isEmpty then 0 else 1)<30))=true:=by rfl)
  (hline:(apos.endLine==cpos.line)=true:=by rfl) (hs:starEach (e::es) X.env=(false,eval e X.env)::starEach es X.env:=by rfl) (hplain:(backTo cpos (starEach es X.env)).any (·.1)=false:=by rfl) :
  PE X (.Call (.Attribute o name apos) (e::es) [] cpos) (tBM X.K T r to t):=by
 intro pins s σ H Q I h;refine WQ hbase hfew hline rfl (VB (ho pins s σ H _ I h) fun v s1 ⟨x,H1,I1,r1,ty,q1⟩=>?_);obtain⟨h1,h2⟩:=tyV_is I1 r1 ty;refine⟨T,id,pa,slot,hty,h1,h2,?_⟩;have hA:=ha cpos pins s1 σ H1 _ I1 q1;rw[hs]at hA ⊢;refine wf (by show(false||(backTo cpos (starEach es X.env)).any (·.1))=false;rw[hplain]<;>rfl) (Wc ?_);exact VB hA fun us s2 ⟨vs,H2,I2,r2,q2⟩=>hm pins s2 σ H2 x vs v us Q I2 r1 r2 q2
end
def MtM(X:Cx)(id:String)(r:V->List V->Hp->VK->Prop):Prop :=
 ∀(pins:rC) (s:Shared) (σ:St) (H:Hp) (x:V) (xs:List V) (v:Value) (us:List Value) (Q:VK),Inv X pins σ H s->FA x v->aA xs us->r x xs H Q ->
  wpAny (model X.prog X.w) X.A (call (.builtin id) (v::us)) (EP X pins σ Q) X.xe s
theorem aA.one:∀{x:V}{us:List Value},aA [x] us->∃u,us=[u]/\FA x u
 |_,_,.cons r .nil=>⟨_,rfl,r⟩
theorem aA.zero:∀{us:List Value},aA [] us->us=[]
 |_,.nil=>rfl
theorem aA.rep{xs:List V}{us:List Value}(h:aA xs us):∀k:Nat,aA (QH k xs).flatten (QH k us).flatten
 |0=>.nil
 |k+1=>by rw[Qe,Qe,qF,qF];exact aA.append h (aA.rep h k)
theorem erase_last{α:Type}(l:List α):l.eraseIdx (l.length - 1)=l.dropLast:=by
 induction l with
 |nil=>rfl
 |cons a r ih =>
  cases r with
  |nil=>rfl
  |cons b r =>
   have e:(a::b::r).length - 1=((b::r).length - 1)+1:=by have h1:(a::b::r).length=r.length+2:=rfl;have h2:(b::r).length=r.length+1:=rfl;omega
   rw[e,List.eraseIdx_cons_succ,ih]
   all_goals rfl
theorem foldl_rep(its:List Value):∀(k:Nat) (acc:List Value),
  Wl (fun x1 x2=>x1++x2) acc.toArray (QH k its.toArray)=(acc++(QH k its).flatten).toArray
 |0,acc=>by simp
 |k+1,acc=>by
  have e:acc.toArray++its.toArray=(acc++its).toArray:=by simp
  have e2:(acc++its)++(QH k its).flatten=acc++(QH (k+1) its).flatten:=by rw[Qe,qF,qN]
  rw[<- e2,<- foldl_rep its k (acc++its),<- e,Qe,wk]
section
variable{X:Cx}{pins:rC}{σ:St}{H:Hp}{s:Shared}{l b:Addr}{xs ys zs:List V}
theorem Inv.lset{its its':List Value}{n:Nat}{f:Array Value->Array Value}{t':Nat}(I:Inv X pins σ H s)(hH:H l=some (.lst xs))
  (e:s.heap.get? l=some { cls:=.type "list",data:=.seq its.toArray n }) (hf:f its.toArray=its'.toArray) (hv:aA ys its') (hz:ys.length<=sizeLine) :
  Inv X pins σ (FB H l (.lst ys)) { s with heap:=s.heap.update l (QAo f),toks:=t' }:=by
 have q:=PySem.IsL.update e f;rw[hf]at q;refine I.write (x:=l) (e:=l) (by rw[hH];exact trivial) (.inl rfl) (fun b' u hb hu=>(QAY s.heap (QAo f) (Q4 hb)).trans hu) ⟨_,q⟩ ?_;exact⟨hz,its',_,hv,q⟩
theorem Inv.lnew{its:List Value}{t':Nat}(I:Inv X pins σ H s)(hv:aA ys its)(hz:ys.length<=sizeLine) :
  Inv X pins σ (FB H s.heap.objs.size (.lst ys)) { s with heap:=s.heap.push { cls:=.type "list",data:=.seq its.toArray },toks:=t' } :=
 I.laid (fun _ _ q=>QE _ q) (QX _) ⟨hz,its,0,hv,QY _ rfl⟩
theorem Inv.fresh(I:Inv X pins σ H s):H s.heap.objs.size=none:=I.hok.fresh (QX _)
theorem Inv.lstM(I:Inv X pins σ H s)(hH:H l=some (.lst xs)):xs.length<=sizeLine/\∃(its:List Value) (n:Nat),aA xs its/\xs.length=its.length/\s.heap.get? l=some { cls:=.type "list",data:=.seq its.toArray n }:=by obtain⟨z,its,n,r,e⟩:=I.hok l _ hH;exact⟨z,its,n,r,r.length,e⟩
theorem notLongL{n:Nat}(h:n<=sizeLine):qk n=false:=by unfold qk;exact dF (by omega)
end
section
variable{X:Cx}
noncomputable def rAppend:V->List V->Hp->VK->Prop:=fun x vs H Q=>∃l xs y,x=.ref l/\vs=[y]/\H l=some (.lst xs)/\xs.length<sizeLine/\Q .non (FB H l (.lst (xs++[y])))
theorem mt_append:MtM X "list.append" rAppend:=by intro pins s σ H x vs v us Q I rx rv h;obtain⟨l,xs,y,rfl,rfl,hH,hz,q⟩:=h;cases rx;obtain⟨u,rfl,ru⟩:=rv.one;obtain⟨z,its,n,r,hl,e⟩:=I.lstM hH;refine wO F.slot_list_append ⟨_,e,rfl⟩ F.entry_list_append (F.args_list_append_2 _ _) (PySem.list_append l its.toArray n u (by rw[QO];omega)) ⟨e,?_⟩;refine⟨.non,_,I.lset (its':=its++[u]) hH e (by simp) (r.append (.cons ru .nil)) ?_,rfl,q⟩;rw[QK,QAh];omega
noncomputable def rExtend:V->List V->Hp->VK->Prop:=fun x vs H Q=>∃l b xs zs,x=.ref l/\vs=[.ref b]/\H l=some (.lst xs)/\H b=some (.lst zs)/\xs.length+zs.length<=sizeLine/\Q .non (FB H l (.lst (xs++zs)))
theorem mt_extend:MtM X "list.extend" rExtend:=by
 intro pins s σ H x vs v us Q I rx rv h;obtain⟨l,b,xs,zs,rfl,rfl,hH,hB,hz,q⟩:=h;cases rx;obtain⟨u,rfl,ru⟩:=rv.one;cases ru;obtain⟨z,its,n,r,hl,e⟩:=I.lstM hH;obtain⟨z2,its2,n2,r2,hl2,e2⟩:=I.lstM hB;have hsz:its.toArray.size+its2.toArray.size<=sizeLine:=by rw[QO,QO];omega
 have hlong:¬ (!its.toArray.isEmpty&&qk (its.toArray.size+its2.toArray.size))=true:=by rw[notLongL hsz,QAv];exact QC
 refine wO F.slot_list_extend ⟨_,e,rfl⟩ F.entry_list_extend (F.args_list_extend_2 _ _)
  (AutoSeq1.list_extend_list_list_0 l its.toArray n b its2.toArray n2 hlong (by rw[QO];omega) (by omega)) ⟨e,e2,?_⟩
 refine⟨.non,_,I.lset (its':=its++its2) hH e (by simp) (r.append r2) ?_,rfl,q⟩;rw[QK];omega
noncomputable def rClear:V->List V->Hp->VK->Prop:=fun x vs H Q=>∃l xs,x=.ref l/\vs=[]/\H l=some (.lst xs)/\Q .non (FB H l (.lst []))
theorem mt_clear:MtM X "list.clear" rClear:=by intro pins s σ H x vs v us Q I rx rv h;obtain⟨l,xs,rfl,rfl,hH,q⟩:=h;cases rx;have hus:=rv.zero;subst hus;obtain⟨z,its,n,r,hl,e⟩:=I.lstM hH;refine wO F.slot_list_clear ⟨_,e,rfl⟩ F.entry_list_clear (F.args_list_clear_1 _) (AutoSeq1.list_clear_list_0 l its.toArray n (by rw[QO];omega)) ⟨e,?_⟩;exact⟨.non,_,I.lset (its':=[]) (ys:=[]) hH e rfl .nil (QA2 _),rfl,q⟩
theorem len_rep{α:Type}(xs:List α)(k:Nat):(QH k xs).flatten.length=k * xs.length:=by
 induction k with
 |zero=>simp
 |succ k ih=>rw[Qe,qF,QK,ih,Nat.succ_mul,Nat.add_comm]
end
section
variable{prog:Program}{w:World}{A:Around}{E:xD}{s:Shared}
end
section
variable{X:Cx}
end
end L2
namespace Att
open PySem PySem.W PySem.Calls PyProof.Rows
theorem ints_of_wellAll{P:Params}{h:Heap}:∀(ns:List Int) (vs:List Value),WellAll P h vs (ns.map WData.int)->IntsAre vs ns:=by
 intro ns;induction ns with
 |nil=>intro vs w;rw[WA]at w;cases w;exact .nil
 |cons n ns ih =>
  intro vs w;rw[QS]at w;cases w with
  |cons a b=>cases a;exact .cons _ _ (ih _ b)
theorem script_of{l:OpenLaw}{n:Nat}(hn:l.most=some n){P:Params}{h:Heap}{args:List WData}{vals:List Value}
  (hpre:l.row.toRowW.claim.pre args=true) (hwl:WellAll P h vals args) :
  ∃a vs ns,vals=[Value.ref a]/\args=[WData.list (ns.map WData.int)]/\h.get? a=some { cls:=.type "list",data:=.seq vs.toArray }/\IntsAre vs ns/\ns.length<=n:=by
 have hsh:WShape.hasAll [] args [.list .int]=true:=(pre_splitW hpre).1;have hc:l.pre.holds [] { args:=args }=true:=(pre_splitW hpre).2;obtain⟨d,r,rfl,h1,h2⟩:=hasAllW_cons hsh;obtain rfl:=hasAllW_nil h2;obtain⟨xs,rfl,h3⟩:=hasW_list h1;obtain⟨ns,rfl⟩:=items_int h3;have hlen:ns.length<=n:=by
  unfold OpenLaw.pre at hc;have h4:(WTm.not (.lt (.lit (.int (n:Int))) (.len (.arg 0)))).holds [] { args:=[.list (ns.map .int)] }=true:=by have h4:=(holds_andW hc).1;rw[hn]at h4;exact h4
  have h5:=condW_of h4 (w_not (w_lt w_lit (w_len_list (w_arg rfl))));rw[QG]at h5;refine Nat.le_of_not_lt fun q=>?_;have q':(n:Int)<((ns.length:Nat):Int):=by omega
  first
   | (rw[dT q']at h5;exact absurd h5 (by decide))
   | (simp at h5;omega)
 cases hwl with
 |cons w1 w2 =>
  cases w2;cases w1 with
  |list ho hall=>exact⟨_,_,ns,rfl,rfl,ho,ints_of_wellAll ns _ hall,hlen⟩
theorem post_true(l:OpenLaw)(args:List WData):l.row.toRowW.claim.post args (.bool true) args=true :=
 postW_of (r:=l.row.toRowW) (X:=(true==true))
  (show WShape.has [] (.bool true) .bool=true by first|rfl|decide|simp[WShape.has,WShape.arms,WShape.armsAll])
  (show(WTm.eq .res (.lit (.bool true))).value [] { args:=args,res:=some (.bool true),after:=args }=some (.bool (true==true)) from w_eq_bool (w_res rfl) w_lit) rfl
section
variable{prog:Program}{w:World}{A:Around}{E:xD}{s:Shared}{K:Frag}
end
end Att
namespace L2
open PySem PySem.Spec PyProof.Rows
theorem vals_ints:∀{vs:List Value}{ns:List Int},IntsAre vs ns->aA (ns.map V.int) vs
 |_,_,.nil=>.nil
 |_,_,.cons n t h=>.cons ⟨t,rfl⟩ (vals_ints h)
def Only(H:Hp):Prop:=∀b,H b=none∨∃o xs,H b=some (.frz o (.lst xs))
theorem law_call{P:Program}{w:World}{K:QA}{mg mb:Str->Option Value}{CX:CXT}{k:Nat}{fa a:Addr}{fd:FuncData}{x:Str}{sp:Sp}{s₁:Shared}{vs:List Value}{ns:List Int}
  (KX:K.In s₁.heap) (hns:s₁.heap.Ns mainGlobals mg) (hb:s₁.heap.Ns builtinsNs mb) (hbb:∀x:Str,x≠"__name__"->mb x=bootBuiltins x) (hlim:s₁.heap.NoLimit) (hg:s₁.gens=#[])
  (ha:s₁.heap.get? a=some { cls:=.type "list",data:=.seq vs.toArray }) (hi:IntsAre vs ns) (hl:ns.length<=sizeLine) (hr:Room k callerA)
  (F:∀base:Heap,K.In base->base.Ns mainGlobals mg->FnOk P w K mg base CX k fa fd [x] sp) (hbind:∀(s:Shared) (u:Value),BindsTo s fd ⟨[u],[]⟩ [(x,u)])
  (hsp:∀H:Hp,Only H->SqL K H a (ns.map V.int)->sp [.ref a] H (fun v _=>v=.bl true) fun _ _ _=>False)
  (hCX:∀H e s',CX [] H s₁ (fun _ _ _=>False) e s'->False) :
  codeAny (model P w) callerA (.call (.ref fa) ⟨[.ref a],[]⟩) (fun r s'=>r=.ok (.ret (.bool true))/\OldK s₁.heap s'.heap/\s'.os=s₁.os/\AllBare s'.gens) s₁:=by
 have rv:=vals_ints hi;have lenV:=hi.length;have core:∀H:Hp,Only H->SqL K H a (ns.map V.int)->HOk P w H s₁.heap->(∀b,H b≠none->b=a)->(H a≠none->K.lookup a=none) ->
   codeAny (model P w) callerA (.call (.ref fa) ⟨[.ref a],[]⟩) (fun r s'=>r=.ok (.ret (.bool true))/\OldK s₁.heap s'.heap/\s'.os=s₁.os/\AllBare s'.gens) s₁:=by
  intro H hO hS hok hA hK;have base_of:∀{b:Addr}{o:Obj},s₁.heap.get? b=some o->H b=none->(hidT s₁.heap H).get? b=some o:=fun e n=>hidT_get e n;have noA:∀{b:Addr}{o:Obj}{es:Array DictEntry}{ep:Nat},s₁.heap.get? b=some o->o.data=.dict es ep->H b=none:=fun {b o es ep} e d=>by
   cases q:H b with
   |none=>rfl
   |some u=>have e':b=a:=hA b (by rw[q];simp);subst e';rw[ha]at e;cases e;have d':Data.seq vs.toArray _=Data.dict es ep:=d;cases d'
  have nsK:∀{b:Addr}{m:Str->Option Value},s₁.heap.Ns b m->(hidT s₁.heap H).Ns b m:=fun {b m} ⟨o,es,ep,e,d,r⟩=>⟨o,es,ep,base_of e (noA e d),d,r⟩
  have hKb:K.In (hidT s₁.heap H):=fun b o e=>base_of (KX b o e) (by
   cases q:H b with
   |none=>rfl
   |some u=>have e':b=a:=hA b (by rw[q];simp);subst e';rw[hK (by rw[q];simp)]at e;cases e)
  have hM:Mod K mg (hidT s₁.heap H):=⟨hKb,nsK hns,⟨mb,nsK hb,hbb⟩,let⟨mc,h1,h2⟩:=hlim;⟨mc,nsK h1,h2⟩⟩
  have e0:Env0 P w K mg (hidT s₁.heap H) callerA [] s₁ H:=⟨rfl,hM,fun b o e=>of_hidT e,Nat.le_of_eq (hidT_size _ _),trivial,fun b hb=>absurd (show b∈([]:List Addr) from hb) (by simp),hok,.of_eq hg⟩
  refine Wu ((F _ hKb (nsK hns)).run callerA [] s₁ H ⟨[.ref a],[]⟩ [.ref a] [.ref a] _ _ hr e0 (hbind s₁ (.ref a)) (.cons rfl .nil) (hsp H hO hS)) fun r s' h=>?_;cases r with
  |error e=>exact(hCX H e s' h).elim
  |ok fl =>
   cases fl with
   |next=>exact QT h
   |brk=>exact QT h
   |cont=>exact QT h
   |ret u =>
    obtain⟨v,H',os,bare,un,hok',r',q⟩:=h;have q':v=.bl true:=q;subst q';obtain rfl:u=Value.bool true:=r';refine⟨rfl,OldK.of_keep fun b o e=>?_,os,bare⟩;cases q:H b with
    |none=>exact un.keep b o e q (by intro z;exact absurd (show b∈([]:List Addr) from z) (by simp)) (by simp)
    |some u =>
     rcases hO b with z|⟨ob,xs,z⟩
     rw[q]at z;cases z;have z2:=un.frzs b ob _ z;obtain⟨e1,_⟩:=hok b _ z;obtain⟨e2,_⟩:=hok' b _ z2;rw[e]at e1;cases e1;exact e2
 cases hk:K.lookup a with
 |some o=>have e:=KX a o hk;rw[ha]at e;cases e;refine core (fun _=>none) (fun _=>.inl rfl) (.inr ⟨_,vs.toArray,_,hk,rfl,rfl,rfl,by rw[QO,lenV];exact hl,by simpa using rv⟩) (fun b u z=>by have z':(none:Option HO)=some u:=z;cases z') (fun b z=>absurd rfl z) fun z=>absurd rfl z
 |none =>
  refine core (fun b=>if b=a then some (.frz { cls:=.type "list",data:=.seq vs.toArray } (.lst (ns.map V.int))) else none) (fun b=>?_) (.inl (.inr ⟨{ cls:=.type "list",data:=.seq vs.toArray },if_pos rfl⟩)) (fun b u z=>?_) (fun b z=>?_) fun _=>hk;by_cases hb:b=a
  ·exact .inr ⟨_,_,if_pos hb⟩
  exact .inl (if_neg hb);by_cases hb:b=a
  ·have z':=(if_pos hb).symm.trans z
   cases z';subst hb;exact⟨ha,by rw[QG];exact hl,vs,_,rv,ha⟩
  have z':=(if_neg hb).symm.trans z;cases z';by_cases hb:b=a
  ·exact hb
  exact absurd (if_neg hb) z
noncomputable def defArgs(s:Stmt):Arguments:=match s with
 | .FunctionDef _ a _ _ _ _ _ _ _ _=>a
 |_=>{ posonlyargs:=[],args:=[],vararg:=none,kwonlyargs:=[],kw_defaults:=[],kwarg:=none,defaults:=[] }
noncomputable def RC(s:Stmt):List Stmt:=match s with
 | .FunctionDef _ _ b _ _ _ _ _ _ _=>b
 |_=>[]
noncomputable def IA(s:Stmt):Scope:=match s with
 | .FunctionDef _ _ _ _ _ _ sc _ _ _=>sc
 |_=>{ kind:=.function,names:=[],isGenerator:=false,isCoroutine:=false }
noncomputable abbrev CX0:CXT:=fun _ _ _ _ _ _=>False
noncomputable abbrev E0:XK:=fun _ _ _=>False
theorem pass0{X:Cx}:Passes CX0 X E0:=fun _ _ _ _ _ _ _ h=>h.elim
structure Fun(K:QA)(x qual:Str)(st:Stmt)(f:Addr)(fd:FuncData):Prop where
 ex:∃(oc:Value) (od:Option Addr) (kV doc pm:Value) (an:Option Addr) (cdv ct:Value) (osl:Array (Option Value)),
  fd=qh x qual (defArgs st) (RC st) (IA st) .none kV doc pm an cdv ct/\K.lookup f=some ⟨oc,od,.func fd,osl⟩/\Wz K cdv qual=true
 kp:we K (.ref f)=true
section
variable{P:Program}{w:World}{K:QA}{mg:Str->Option Value}{base:Heap}
theorem Fun.ok{x qual:Str}{st:Stmt}{f:Addr}{fd:FuncData}{N ps:List Str}{k:Nat}{sp:Sp}(F:Fun K x qual st f fd)(S:FnScope N ps (IA st))(len:∀vs H Q E,sp vs H Q E->vs.length=ps.length)
  (hbody:∀(cdv:Value) (A:Around) (outer:List Env) (s:Shared) (H:Hp) (vs:List V) (Q:VK) (E:XK),Room k (A.deeper (envOfC qual (IA st) s.heap.objs.size f cdv))->sp vs H Q E ->
   ∃t,PSs (cxOf CX0 P w K mg base N qual (IA st) f cdv A outer s H E).nox (RC st) t/\t { nx:=fun _ H'=>Q .non H',rt:=Q } (start N vs) H):FnOk P w K mg base CX0 (k+1) f fd ps sp:=by
 obtain⟨oc,od,kV,doc,pm,an,cdv,ct,osl,rfl,lk,hcd⟩:=F.ex;refine fn_of lk hcd S len fun A outer s H vs Q E hr hsp=>?_;obtain⟨t,h,q⟩:=hbody cdv A outer s H vs Q E hr hsp;exact⟨t,h.nox,q⟩
theorem Fun.binds{x qual:Str}{st:Stmt}{f:Addr}{fd:FuncData}{ps:List Str}(F:Fun K x qual st f fd)
  (h:∀(kV doc pm:Value) (an:Option Addr) (cdv ct:Value) (us:List Value),us.length=ps.length->bindArgs (qh x qual (defArgs st) (RC st) (IA st) .none kV doc pm an cdv ct) ⟨us,[]⟩=pure (ps.zip us)):Binds K fd ps []:=by
 obtain⟨oc,od,kV,doc,pm,an,cdv,ct,osl,rfl,lk,hcd⟩:=F.ex;exact .all (h kV doc pm an cdv ct)
theorem fun_mk{x qual:Str}{st:Stmt}{f:Addr}{oc:Value}{od an:Option Addr}{osl:Array (Option Value)}{kV doc pm cdv ct:Value}(l:K.lookup f=some ⟨oc,od,.func (qh x qual (defArgs st) (RC st) (IA st) .none kV doc pm an cdv ct),osl⟩)
  (c:Wz K cdv qual=true) (k:we K (.ref f)=true):Fun K x qual st f (qh x qual (defArgs st) (RC st) (IA st) .none kV doc pm an cdv ct):=⟨⟨oc,od,kV,doc,pm,an,cdv,ct,osl,rfl,l,c⟩,k⟩
end
section
variable{X:Cx}
end
theorem ite2{c A B:Prop}[Decidable c](h1:c->A)(h2:¬ c->B):if c then A else B:=by by_cases h:c;rw[if_pos h];exact h1 h;rw[if_neg h];exact h2 h
def Same(H H':Hp):Prop:=∀b o,H b=some o->H' b=some o
theorem Same.refl(H:Hp):Same H H:=fun _ _ h=>h
theorem Same.trans{H H1 H2:Hp}(a:Same H H1)(b:Same H1 H2):Same H H2:=fun c o h=>b c o (a c o h)
theorem Same.free{H H':Hp}(e:Same H H'){l:Addr}(h:H' l=Option.none):H l=Option.none:=by
 cases q:H l with
 |none=>rfl
 |some o=>rw[e l o q]at h;cases h
theorem Same.seq{K:QA}{H H':Hp}{a:Addr}{xs:List V}(e:Same H H')(h:SqL K H a xs):SqL K H' a xs:=by rcases h with(h|⟨o,h⟩)|h;exact .inl (.inl (e _ _ h));exact .inl (.inr ⟨o,e _ _ h⟩);exact .inr h
noncomputable def clOf(env:Env):List (Str×NameKind)->List (Str×Addr)->List (Str×Addr)
 |[],cs=>cs
 | (n,k)::r,cs=>clOf env r (if k==.free then(n,(env.cells.lookup n).getD 0)::cs else cs)
theorem closure_eq{scope:Scope}{env:Env}(h:∀y∈scope.names,y.2=.free->∃c,env.cells.lookup y.1=some c):closureFor scope env=pure (clOf env scope.names []):=by
 have key:∀(l:List (Str×NameKind)) (cs:List (Str×Addr)),(∀y∈l,y.2=.free->∃c,env.cells.lookup y.1=some c) ->
   (forIn l cs fun(x:Str×NameKind) (r:List (Str×Addr))=>(if(x.2==NameKind.free)=true then(do let c <- cellOf env x.1;pure (ForInStep.yield ((x.1,c)::r))) else pure (ForInStep.yield r):Sem (ForInStep (List (Str×Addr)))))=pure (clOf env l cs):=by
  intro l;induction l with
  |nil=>intro cs _;rfl
  |cons y l ih =>
   intro cs hl;obtain⟨n,k⟩:=y;rw[Wm];by_cases hk:k=.free;subst hk;obtain⟨c,hc⟩:=hl (n,.free) QM rfl;have hc:env.cells.lookup n=some c:=hc;simp only[beq_self_eq_true,if_true,cellOf,hc,pure_bind,clOf,QBy];exact ih _ fun z hz=>hl z (QJ _ hz);have hb:(k==NameKind.free)=false:=by simpa using hk
   simp only[hb,Qk,if_false,pure_bind,clOf];exact ih _ fun z hz=>hl z (QJ _ hz)
 have e:=key scope.names [] h;unfold closureFor;exact(congrArg (· >>= pure) e).trans (pure_bind _ _)
theorem clOf_look{env:Env}{x:Str}{c:Addr}:∀(l:List (Str×NameKind)) (cs:List (Str×Addr)),(∀y∈l,y.2=.free->∃c,env.cells.lookup y.1=some c)->(∀c,cs.lookup x=some c->env.cells.lookup x=some c) ->
  (clOf env l cs).lookup x=some c->env.cells.lookup x=some c
 |[],cs,_,hc,h=>hc c h
 | (n,k)::r,cs,hl,hc,h=>by
  refine clOf_look r _ (fun z hz=>hl z (QJ _ hz)) (fun d hd=>?_) h;by_cases hk:k=.free;subst hk;obtain⟨e,he⟩:=hl (n,.free) QM rfl;have he:env.cells.lookup n=some e:=he;simp only[beq_self_eq_true,if_true,he,QBy,qM]at hd;cases hx:x==n with
  |true=>rw[hx]at hd;cases hd;rw[qC hx];exact he
  |false=>rw[hx]at hd;exact hc d hd
  have hb:(k==NameKind.free)=false:=by simpa using hk
  simp only[hb,Qk,if_false]at hd;exact hc d hd
theorem clOf_has{env:Env}{x:Str}:∀(l:List (Str×NameKind)) (cs:List (Str×Addr)),((∃c,cs.lookup x=some c)∨(x,NameKind.free)∈l)->∃c,(clOf env l cs).lookup x=some c
 |[],cs,h=>by rcases h with h|h;exact h;cases h
 | (n,k)::r,cs,h=>by
  refine clOf_has r _ ?_;rcases h with⟨c,h⟩| h;refine .inl ?_;split;rw[qM];split;exact⟨_,rfl⟩;exact⟨c,h⟩;exact⟨c,h⟩;rcases QI.mp h with h|h
  ·cases h
   refine .inl ?_;simp
  exact .inr h
noncomputable def IB:List Bool->Nat->List Str->List Str
 |b::m,j,x::N=>(if b then⟨#[46,j]⟩ else x)::IB m (j+1) N
 |_,_,N=>N
noncomputable def OC:List Bool->St->St
 |b::m,v::σ=>(if b then none else v)::OC m σ
 |_,σ=>σ
theorem maskS_len:∀(m:List Bool) (σ:St),(OC m σ).length=σ.length
 |[],σ=>by unfold OC;rfl
 |_::_,[]=>by unfold OC;rfl
 |b::m,v::σ=>by unfold OC;rw[QL,QL,maskS_len m σ]
theorem hideN_len:∀(m:List Bool) (j:Nat) (N:List Str),(IB m j N).length=N.length
 |[],_,N=>by unfold IB;rfl
 |_::_,_,[]=>by unfold IB;rfl
 |b::m,j,x::N=>by unfold IB;rw[QL,QL,hideN_len m (j+1) N]
theorem mask_get:∀(m:List Bool) (j:Nat) (N:List Str) (σ:St) (i:Nat) (v:V),(OC m σ)[i]?=some (some v)->σ[i]?=some (some v)/\(IB m j N)[i]?=N[i]?
 |[],_,N,σ,i,v,h=>by unfold OC at h;unfold IB;exact⟨h,rfl⟩
 |_::_,_,N,[],i,v,h=>by unfold OC at h;simp at h
 |b::m,j,[],w::σ,i,v,h=>by
  unfold OC at h;cases i with
  |zero =>
   cases b with
   |true=>simp at h
   |false=>simp at h;subst h;exact⟨by simp,by unfold IB;rfl⟩
  |succ i=>have q:=(mask_get m (j+1) [] σ i v (by simpa using h)).1;exact⟨by simpa using q,by unfold IB;rfl⟩
 |b::m,j,x::N,w::σ,0,v,h=>by
  unfold OC at h;cases b with
  |true=>simp at h
  |false=>simp at h;subst h;exact⟨by simp,by unfold IB;simp⟩
 |b::m,j,x::N,w::σ,i+1,v,h=>by unfold OC at h;have q:=mask_get m (j+1) N σ i v (by simpa using h);unfold IB;exact⟨by simpa using q.1,by simpa using q.2⟩
noncomputable def relabelS(scope sc:Scope):Scope :=
  { scope with names:=scope.names.map fun(n,k)=>if(k==.free&&sc.kind==.function&&sc.names.lookup n==some .cell) then(n,.cell) else(n,k) }
theorem bD(sc:Scope)(x:Str):∀(l:List (Str×NameKind)),
  (l.map fun(n,k)=>if(k==NameKind.free&&sc.kind==.function&&sc.names.lookup n==some .cell) then(n,NameKind.cell) else(n,k)).lookup x =
   (l.lookup x).map fun k=>if(k==NameKind.free&&sc.kind==.function&&sc.names.lookup x==some .cell) then NameKind.cell else k
 |[]=>rfl
 | (n,k)::r=>by
  rw[QS];have e:(if(k==NameKind.free&&sc.kind==.function&&sc.names.lookup n==some .cell)=true then(n,NameKind.cell) else(n,k)) =
    (n,if(k==NameKind.free&&sc.kind==.function&&sc.names.lookup n==some .cell)=true then NameKind.cell else k):=by split<;>rfl
  show QAK x ((if(k==NameKind.free&&sc.kind==.function&&sc.names.lookup n==some .cell)=true then(n,NameKind.cell) else(n,k))::_)=_;rw[e,qM,qM];cases hx:x==n with
  |true=>rw[qC hx];simp
  |false=>exact bD sc x r
structure CompSt(N:List Str)(sc scope:Scope)(tgs:List Str)(mask:List Bool):Prop where
 kind:scope.kind=.function
 nocell:∀y∈scope.names,y.2≠.cell
 names:∀y∈scope.names,y.2=.local->scope.names.lookup y.1=some .local
 free:∀y∈scope.names,y.2=.free->sc.names.lookup y.1=some .cell∨sc.names.lookup y.1=some .free
 loc:∀y∈scope.names,y.2=.local->y.1∈tgs∨y.1=(".0":Str)
 nd:(tgs++IB mask 0 N).Nodup
 no0:(".0":Str)∉tgs++IB mask 0 N
noncomputable def yB(X:Cx)(scope:Scope)(tgs:List Str)(mask:List Bool)(s:Shared)(H:Hp)(ex:List Addr):Cx :=
  { X with N:=tgs++IB mask 0 X.N,s₀:=s,H₀:=H,env:=compEnvC scope (clOf X.env scope.names []) s.heap.objs.size X.env,outer:=X.stack,stack:=X.stack,ex:=ex,fn:=fun _=>false,pn:=[],xe:=fun _ _=>False }
noncomputable def entS(k:Nat)(mask:List Bool)(σ:St):St:=QH k none++OC mask σ
section
variable{X:Cx}{pins:rC}{σ:St}{H:Hp}{s:Shared}{scope:Scope}{tgs:List Str}{mask:List Bool}{ex:List Addr}
theorem CompSt.cells(C:CompSt X.N X.env.scope scope tgs mask)(ok:X.Ok):∀y∈scope.names,y.2=.free->∃c,X.env.cells.lookup y.1=some c:=fun y hy hf =>
 ok.has y.1 (C.free y hy hf)
theorem CompSt.kindCF(C:CompSt X.N X.env.scope scope tgs mask){x:Str}(h:(relabel scope X.env).names.lookup x=some .cell∨(relabel scope X.env).names.lookup x=some .free):(x,NameKind.free)∈scope.names:=by
 have e:=bD X.env.scope x scope.names;have e':(relabel scope X.env).names.lookup x=(scope.names.lookup x).map fun k=>if(k==NameKind.free&&X.env.scope.kind==.function&&X.env.scope.names.lookup x==some .cell) then NameKind.cell else k:=e
 rw[e']at h;cases q:scope.names.lookup x with
 |none=>rw[q]at h;simp at h
 |some k =>
  have hm:=Q9 q;have nc:=C.nocell _ hm;cases k with
  |free=>exact hm
  |cell=>exact absurd rfl nc
  | «local»=>rw[q]at h;simp at h
  |_=>rw[q]at h;simp at h
theorem comp_start(I:Inv X pins σ H s)(C:CompSt X.N X.env.scope scope tgs mask)(hex:∀b∈ex,FpOk X pins H b/\b<s.heap.objs.size){h':Heap}{t':Nat}
  (hn:h'.Ns s.heap.objs.size (fun _=>none)) (hs:qt s.heap.objs.size (s.heap.push { cls:=.type "dict",data:=.dict #[] }) h') :
  Inv (yB X scope tgs mask s H ex) [] (entS tgs.length mask σ) H { s with heap:=h',toks:=t' }:=by
 have kept:∀b u,s.heap.get? b=some u->h'.get? b=some u:=fun b u e=>hs.extBut b u (Qu (QV e)) (QE _ e);have look:∀x c,(clOf X.env scope.names []).lookup x=some c->X.env.cells.lookup x=some c:=fun x c e=>clOf_look scope.names [] (C.cells I.ok) (fun c z=>by simp at z) e;have nofs:∀b∈ex,b∉frs X.stack:=fun b hb z=>by obtain⟨⟨_,f1,f2,_⟩,_⟩:=hex b hb;rcases QI.mp (I.stkSub b z) with e|e;exact f1 e;exact f2 e
 refine⟨⟨I.ok.mod,C.kind,I.ok.glob,I.ok.blt,QX _,fun x y c h1 h2=>I.ok.inj x y c (look x c h1) (look y c h2),fun x hx=>?_,fun x c hf _=>absurd (show false=true from hf) QC,I.ok.hd,I.ok.frames,.inl rfl,fun b hb=>?_,I.bs,wF I.ok.bsz I.sz,fun b o e hb=>?_,nofs,I.stack,I.stkFree⟩,
  rfl,I.bare,Un.kept kept,⟨_,hn,fun i x v h1 h2 h3=>?_⟩,fun x c h=>?_,I.hok.fresh (QX _),fun x c h=>I.freeC x c (look x c h),fun p hp=>absurd (show p∈([]:rC) from hp) (by simp),I.hok.kept kept,?_⟩
 exact clOf_has scope.names [] (.inr (C.kindCF hx));obtain⟨⟨_,_,_,_,f4,_⟩,lt⟩:=hex b hb;exact⟨Qu lt,fun x c e=>f4 x c (look x c e)⟩;obtain⟨⟨_,_,_,f3,_⟩,_⟩:=hex b hb;rcases f3 with z|z;exact I.ok.noex b o e z;exact absurd (Ql (QV (I.ok.bs b o e).1) z) (qm _)
 ·
  have hi:tgs.length<=i:=by rcases Wv i tgs.length with z|z;unfold entS at h2;rw[qD (by simpa using z),qp]at h2;split at h2<;>cases h2;exact z
  have h1':(IB mask 0 X.N)[i - tgs.length]?=some x:=by have:(tgs++IB mask 0 X.N)[i]?=some x:=h1;rw[Qv hi]at this;exact this
  have h2':(OC mask σ)[i - tgs.length]?=some (some v):=by unfold entS at h2;rw[Qv (by simpa using hi)]at h2;simpa using h2
  obtain⟨g1,g2⟩:=mask_get mask 0 X.N σ _ v h2';rw[g2]at h1';have hxm:x∈tgs++IB mask 0 X.N:=qP (show(tgs++IB mask 0 X.N)[i]?=some x from h1);have hxt:x∉tgs:=fun z=>by have nd:=C.nd;rw[QAD]at nd;exact nd.2.2 x z x (qP (by rw[g2];exact h1')) rfl
  have hfree:(x,NameKind.free)∈scope.names:=by
   rcases h3 with z|z|z;exfalso;have e:(relabel scope X.env).names.lookup x=some .local:=z;have e2:=bD X.env.scope x scope.names;have e3:(relabel scope X.env).names.lookup x=(scope.names.lookup x).map fun k=>if(k==NameKind.free&&X.env.scope.kind==.function&&X.env.scope.names.lookup x==some .cell) then NameKind.cell else k:=e2
   rw[e3]at e;cases q:scope.names.lookup x with
   |none=>rw[q]at e;cases e
   |some k =>
    rw[q]at e;have hm:=Q9 q;have kl:k=.local:=by
     cases k with
     | «local»=>rfl
     |free=>simp at e;split at e<;>cases e
     |_=>simp at e
    subst kl;rcases C.loc _ hm rfl with z|z;exact hxt z;exact C.no0 (z▸hxm)
   exact C.kindCF (.inl z);exact C.kindCF (.inr z)
  obtain⟨m,hnm,hl⟩:=I.loc;have vis:Vis X.env.scope x:=.inr (C.free _ hfree rfl);obtain⟨u,r,l⟩:=hl _ x v h1' g1 vis;refine⟨u,r,?_⟩;rcases l with⟨k,_⟩| ⟨_,c,hc,hcell⟩
  exfalso;have k':X.env.scope.names.lookup x=some .local:=k;rcases C.free _ hfree rfl with z|z;have z':X.env.scope.names.lookup x=some .cell:=z;rw[k']at z';cases z';have z':X.env.scope.names.lookup x=some .free:=z;rw[k']at z';cases z';obtain⟨c',hc'⟩:=clOf_has (env:=X.env) scope.names [] (.inr hfree);have:c'=c:=by have:=look x c' hc';rw[hc]at this;exact(Qw this).symm
  subst this;refine .inr ⟨?_,c',hc',?_⟩;rcases h3 with z|z|z
  ·exfalso
   have e:(relabel scope X.env).names.lookup x=some .local:=z;have e2:=bD X.env.scope x scope.names;have e3:(relabel scope X.env).names.lookup x=(scope.names.lookup x).map fun k=>if(k==NameKind.free&&X.env.scope.kind==.function&&X.env.scope.names.lookup x==some .cell) then NameKind.cell else k:=e2
   rw[e3]at e;cases q:scope.names.lookup x with
   |none=>rw[q]at e;cases e
   |some k =>
    rw[q]at e;have hm:=Q9 q;have kl:k=.local:=by
     cases k with
     | «local»=>rfl
     |free=>simp at e;split at e<;>cases e
     |_=>simp at e
    subst kl;rcases C.loc _ hm rfl with z|z;exact hxt z;exact C.no0 (z▸hxm)
  exact .inl z;exact .inr z;obtain⟨o,ho,hd⟩:=hcell;exact⟨o,kept _ _ ho,hd⟩
 obtain⟨v,o,ho,hd⟩:=I.cell x c (look x c h);exact⟨v,o,kept _ _ ho,hd⟩;show(entS tgs.length mask σ).length=(tgs++IB mask 0 X.N).length;unfold entS;rw[QK,QK,Q7,maskS_len,hideN_len,I.len]
end
section
variable{X:Cx}{pins:rC}{σ σ':St}{H H':Hp}{s s':Shared}{scope:Scope}{tgs:List Str}{mask:List Bool}{ex:List Addr}{D:Addr}{acc:List V}{its:List Value}
theorem comp_leave(I:Inv X pins σ H s)(hex:∀b∈ex,FpOk X pins H b/\b<s.heap.objs.size)(hD:D∈ex)(J:Inv (yB X scope tgs mask s H ex) [] σ' H' s')(hD':H' D=none)(hv:aA acc its)(hz:acc.length<=sizeLine)
  (hl:s'.heap.PlainList D its.toArray) {h'':Heap}(hs:qt s.heap.objs.size s'.heap h''):Inv X pins σ (FB H' D (.lst acc)) { s' with heap:=h'' }:=by
 have un:Un (frs X.stack) ex H H' s.heap s'.heap:=J.base;have neC:∀b o,s.heap.get? b=some o->b≠s.heap.objs.size:=fun b o e=>Qu (QV e);have fD:=hex D hD;have lC:H' s.heap.objs.size=none:=J.free;have DC:D≠s.heap.objs.size:=Qu fD.2;have go:∀b u,b≠s.heap.objs.size->s'.heap.get? b=some u->h''.get? b=some u:=fun b u nb e=>hs.extBut b u nb e;refine I.call' (s':={ s' with heap:=h'' }) (ch:=ex) J.os ⟨fun b o e n hb hx=>?_,fun b o e n hb hx=>?_,fun b o e n hx=>?_,fun b o e hx=>?_,fun b xs e=>?_,fun b o u e=>?_,fun b ps e=>?_⟩ ?_ J.bare fun b hb=>?_;exact go b o (neC b o e) (un.keep b o e n hb hx);obtain⟨sl,q⟩:=un.slot b o e n hb hx;exact⟨sl,go b _ (neC b o e) q⟩;have q:=un.free b o e n hx;rw[fA (fun(z:b=D)=>hx (by rw[z];exact hD))];exact q;obtain⟨o',q⟩:=un.there b o e hx;exact⟨o',go b o' (neC b o e) q⟩;rw[fA (SA (un.tups b xs e) hD')];exact un.tups b xs e;rw[fA (SA (un.frzs b o u e) hD')];exact un.frzs b o u e;obtain⟨more,q⟩:=un.tbls b ps e;exact⟨more,by rw[fA (SA q hD')];exact q⟩;intro b u e;by_cases hb:b=D;subst hb;rw[nB]at e;cases e;obtain⟨n,q⟩:=hl;exact⟨hz,its,n,hv,go _ _ DC q⟩;rw[fA hb]at e;refine(J.hok b u e).stay (fun c v hc q=>go c v ?_ q) (fun c q=>?_) fun c xs q=>?_;rintro rfl;rcases hc with z|z;subst z;rw[lC]at e;cases e;rw[lC]at z;cases z;rw[fA (SA q hD')];exact q;rw[fA (SA q hD')];exact q;obtain⟨⟨f0,f1,f2,f3,f4,f5⟩,_⟩:=hex b hb;exact⟨f3,f1,f4,f5⟩
end
def PIf(X:Cx)(ifs:List Expr)(t:TT):Prop:=∀(pins:rC) (s:Shared) (σ:St) (H:Hp) (Q:Bool->Hp->Prop),Inv X pins σ H s->t σ H Q ->
 wpAny (model X.prog X.w) X.A (forIn ifs true fun c r=>if r=true then do let ok <- isTrue c X.env (eval c X.env);pure (ForInStep.yield ok) else pure (ForInStep.yield r)) (TP X pins σ Q) X.xe s
theorem pif_nil{X:Cx}:PIf X [] (fun _ H Q=>Q true H):=fun pins s σ H Q I h=>by rw[W0];exact QW ⟨H,I,h⟩
theorem pif_one{X:Cx}{c:Expr}{t:TT}(hc:PT X c t):PIf X [c] t:=fun pins s σ H Q I h=>by rw[Wm];simp only[if_true];refine QF (QF (VB (hc pins s σ H Q I h) fun b s1 q=>QW ?_));dsimp only;rw[W0];exact QW q
theorem codeAny_compLoop_go{prog:Program}{w:World}{A:Around}{R:Result->Shared->Prop}{s:Shared}{elt target iter:Expr}{ifs:List Expr}{scope:Scope}{pos:Pos}{it acc:Value}{env:Env}(I:Nat->Shared->Prop)
  (turn:∀n s,I n s->wpAny (model prog w) A (pyNext it) (fun r s₁=>match r with
   |none=>R (.ok .next) s₁
   |some v=>wpAny (model prog w) A (letOwnedTupleGo target it v) (fun _ s₁'=>wpAny (model prog w) A (assign target env v) (fun _ s₂ =>
     wpAny (model prog w) A (forIn ifs true fun c r=>if r=true then do let ok <- isTrue c env (eval c env);pure (ForInStep.yield ok) else pure (ForInStep.yield r)) (fun ok s₃ =>
      if ok=true then wpAny (model prog w) A (eval elt env) (fun x s₄ =>
       wpAny (model prog w) A (call (.builtin "list.append") [acc,x]) (fun _ s₅=>∃m,m<n/\I m s₅) (fun _ _=>False) s₄) (fun _ _=>False) s₃
      else ∃m,m<n/\I m s₃) (fun _ _=>False) s₂) (fun _ _=>False) s₁') (fun _ _=>False) s₁) (fun _ _=>False) s)
  (n:Nat) (h:I n s) :
  codeAny (model prog w) A (.compLoop (.ListComp elt [⟨target,iter,ifs,0⟩] scope pos) 0 it acc env) R s:=by
 refine codeAny_loop rfl I (fun n s hI=>?_) n h;show wpAny _ A ((compTurn (.ListComp elt [⟨target,iter,ifs,0⟩] scope pos) 0 it acc env).onRaise (fun x=>do noteFrame x env;theTreesLotGoes x)) _ _ s;refine wpAny_noted ?_;rw[compTurn_list];refine QF (QAI (QF (qw (turn n s hI) (fun r s₁ h₁=>?_) fun _ _ h'=>h'.elim)));cases r with
 |none=>exact QW h₁
 |some v =>
  refine QF (qw h₁ (fun _ s₁' h₁'=>?_) fun _ _ h'=>h'.elim);refine QF (qw h₁' (fun _ s₂ h₂=>QF (qw h₂ (fun ok s₃ h₃=>?_) fun _ _ h'=>h'.elim)) fun _ _ h'=>h'.elim);cases ok with
  |false=>exact QW ⟨rfl,h₃⟩
  |true=>exact QF (QF (qw h₃ (fun x s₄ h₄=>QF (qw h₄ (fun _ s₅ h₅=>QW (QW ⟨rfl,h₅⟩)) fun _ _ h'=>h'.elim)) fun _ _ h'=>h'.elim))
noncomputable def tComp(wi:TI)(g:TG)(tc:TT)(te:TE)(k:Nat)(mask:List Bool):TE:=fun σ H Q=>wi σ H fun J H1=>∃W:Nat->Nat->List V->St->Hp->Prop,(∃m,W 0 m [] (entS k mask σ) H1) /\
 ∀i m acc σ' H',W i m acc σ' H'->(J.stop i H'/\acc.length<=sizeLine/\∀p,H' p=none->Q (.ref p) (FB H' p (.lst acc))) ∨
  (J.go i H'/\∀x H2,J.yld i H' x H2->g x σ' H2 fun σ3 H3=>tc σ3 H3 fun b H4=>if b=true then te σ3 H4 fun y H5=>acc.length<sizeLine/\∃m',m' < m/\W (i+1) m' (acc++[y]) σ3 H5 else ∃m',m' < m/\W (i+1) m' acc σ3 H4)
def FrOk(X:Cx)(pins:rC)(H:Hp)(s:Shared)(C:Addr):Prop :=
 H C=none/\C≠X.env.locals/\X.s₀.heap.objs.size<=C/\(∀x c,X.env.cells.lookup x=some c->c≠C)/\(∀p∈X.pn++pins,p.1≠C)/\∃m,s.heap.Ns C m
theorem comp_gen{X:Cx}{elt tg iter:Expr}{ifs:List Expr}{scope:Scope}{pos pos':Pos}{wi:TI}{g:TG}{tc:TT}{te:TE}{tgs:List Str}{mask:List Bool}{use:Option (Value->Sem Unit)}(hc:X.calm=true)(hi:PI X tg iter wi)(C:CompSt X.N X.env.scope scope tgs mask)
  (inner:∀s H ex,PG (yB X scope tgs mask s H ex) tg g/\PIf (yB X scope tgs mask s H ex) ifs tc/\PE (yB X scope tgs mask s H ex) elt te)
  (hs:∀x,foldedSetIterable iter X.env x=pure x) {pins:rC}{s:Shared}{σ:St}{H:Hp}{Q:VK}{QQ:xD}(I:Inv X pins σ H s) (h:tComp wi g tc te tgs.length mask σ H Q)
  (fin:∀(D:Addr) (H':Hp) (s6:Shared) (F:Addr),Inv X pins σ H' s6->FrOk X pins H' s6 F->Q (.ref D) H'->compPost (model X.prog X.w) X.A X.xe use QQ (.ref D) F (.ok .next) s6) :
  wpAny (model X.prog X.w) X.A (comprehension (.ListComp elt [⟨tg,iter,ifs,0⟩] scope pos) scope X.env pos' (newList []) false (eval iter X.env) use) QQ X.xe s:=by
 refine wpAny_comprehension_free (use:=use) rfl hs (closure_eq (C.cells I.ok)) C.kind C.names (VB (hi pins s σ H _ I h) fun v s1 h1=>VB h1 fun itv s2 h2=>?_);obtain⟨it,fp,tn,J,H2,e,I2,T,st2,f2,W,⟨m0,w0⟩,turn⟩:=h2;subst e;refine qy ?_;have I3:Inv X pins σ H2 { s2 with heap:=s2.heap.push { cls:=.type "list",data:=.seq ([]:List Value).toArray } }:=I2.kept (t':=s2.toks) fun b o e=>QE _ e;generalize hS:({ s2 with heap:=s2.heap.push { cls:=.type "list",data:=.seq ([]:List Value).toArray } }:Shared)=s3 at I3;have sz3:s3.heap.objs.size=s2.heap.objs.size+1:=by rw[<- hS];exact qu ..
 have lst3:s3.heap.PlainList s2.heap.objs.size ([]:List Value).toArray:=⟨0,by rw[<- hS];exact QY _ rfl⟩
 have old3:∀b o,s2.heap.get? b=some o->s3.heap.get? b=some o:=fun b o e=>by rw[<- hS];exact QE _ e
 generalize hDd:s2.heap.objs.size=D at sz3 lst3;have fD:FpOk X pins H2 D:=by rw[<- hDd];exact I2.fpOk (QX _) (I2.hok.fresh (QX _))
 have fpl:∀b∈fp,b<D:=fun b hb=>by obtain⟨o,e,_⟩:=T.obj _ _ st2 b hb;rw[<- hDd];exact QV e
 have hex:∀b∈D::fp,FpOk X pins H2 b/\b<s3.heap.objs.size:=fun b hb=>by rcases QI.mp hb with z|z;subst z;exact⟨fD,by rw[sz3];exact Nat.lt_succ_self _⟩;exact⟨f2 b z,by rw[sz3];exact QBa (fpl b z)⟩
 refine wpAny_newFunctionEnv C.nocell (by intro y hy;simp at hy) (fun h' hn hsb=>?_) C.kind;have J0:Inv (yB X scope tgs mask s3 H2 (D::fp)) [] (entS tgs.length mask σ) H2 { s3 with heap:=h',toks:=s3.toks+([]:List (Str×Value)).length }:=comp_start I3 C hex hn hsb;have kept:∀b u,s3.heap.get? b=some u->h'.get? b=some u:=fun b u e=>hsb.extBut b u (Qu (QV e)) (QE _ e);obtain⟨pg,pf,pl⟩:=inner s3 H2 (D::fp);have loop:∀s4:Shared,s4={ s3 with heap:=h',toks:=s3.toks+([]:List (Str×Value)).length } ->
   codeAny (model X.prog X.w) X.A (.compLoop (.ListComp elt [⟨tg,iter,ifs,0⟩] scope pos) 0 (.ref it) (.ref D) (compEnvC scope (clOf X.env scope.names []) s3.heap.objs.size X.env))
    (compPost (model X.prog X.w) X.A X.xe use QQ (.ref D) s3.heap.objs.size) s4:=by
  rintro s4 rfl;have exok:∀{H':Hp},(∀b∈D::fp,H' b=none)->∀(pp:rC),(∀p∈pp,p.1∉fp)->∀b∈fp,FpOk (yB X scope tgs mask s3 H2 (D::fp)) pp H' b:=fun {H'} hn pp hpp b hb=>by have g:=J0.ok.exf b (QJ _ hb);exact⟨hn b (QJ _ hb),g.1,J0.ok.exfs b (QJ _ hb),.inl (QJ _ hb),g.2,fun p hp z=>hpp p (by simpa[yB]using hp) (z▸hb)⟩
  have DX:=J0.ok.exf D QM;have Dfp:D∉fp:=fun z=>qm _ (fpl D z);refine codeAny_compLoop_go (fun n s'=>∃i σ' H' acc its,Inv (yB X scope tgs mask s3 H2 (D::fp)) [] σ' H' s'/\tn i s'.heap/\(∀b∈D::fp,H' b=none)/\aA acc its/\s'.heap.PlainList D its.toArray/\W i n acc σ' H') ?_ m0
   ⟨0,_,H2,[],[],J0,T.keep _ _ _ (T.keep _ _ _ st2 fun b hb o e=>old3 b o e) fun b hb o e=>kept b o e,fun b hb=>((hex b hb).1).1,.nil,lst3.at fun o e=>kept _ _ e,w0⟩
  rintro n s5 ⟨i,σ5,H5,acc,its,I5,st5,fr5,va5,ls5,w5⟩;obtain⟨nL,lo⟩:=id ls5;have pinD:∀{σ':St}{H':Hp}{s':Shared},Inv (yB X scope tgs mask s3 H2 (D::fp)) [] σ' H' s'->(∀b∈D::fp,H' b=none)->s'.heap.get? D=some { cls:=.type "list",dict:=none,data:=.seq its.toArray nL } ->
    Inv (yB X scope tgs mask s3 H2 (D::fp)) [(D,{ cls:=.type "list",dict:=none,data:=.seq its.toArray nL })] σ' H' s':=fun {σ' H' s'} I' fr' e' =>
   I'.pins_of fun p hp=>by
    have e:p=(D,{ cls:=.type "list",dict:=none,data:=.seq its.toArray nL }):=by simpa using hp
    subst e;exact⟨e',fr' D QM,DX.1,J0.ok.exfs D QM,fun v z=>by cases z⟩
  have hppD:∀p∈[(D,({ cls:=.type "list",dict:=none,data:=.seq its.toArray nL }:Obj))],p.1∉fp:=fun p hp=>by
   have e:p=(D,{ cls:=.type "list",dict:=none,data:=.seq its.toArray nL }):=by simpa using hp
   subst e;exact Dfp
  have I5':=pinD I5 fr5 lo;rcases turn i n acc σ5 H5 w5 with⟨stop,hz,qn⟩| ⟨go,step⟩
  refine VB (T.done (yB X scope tgs mask s3 H2 (D::fp)) rfl rfl rfl hc i _ s5 σ5 H5 (fun _ _=>False) I5' (exok fr5 _ hppD) st5 stop) fun r s6 ⟨hr,I6⟩=>?_;subst hr;obtain⟨m6,hn6,_⟩:=I6.loc;have l6:s6.heap.PlainList D its.toArray:=⟨nL,(I6.pin _ (Qb _ (Qz.mpr rfl))).1⟩
  have I6':Inv (yB X scope tgs mask s3 H2 (D::fp)) [] σ5 H5 s6:=I6.pins_of fun p hp=>by simp at hp
  have Iout:Inv X pins σ (FB H5 D (.lst acc)) s6:=comp_leave I3 hex QM I6' (fr5 D QM) va5 hz l6 (qt.refl _ _);have lC:H5 s3.heap.objs.size=none:=I6'.free;refine fin D _ s6 s3.heap.objs.size Iout ⟨?_,WW I3.lt,I3.sz,fun x c e z=>?_,fun p hp z=>?_,m6,hn6⟩ (qn D (fr5 D QM));rw[fA (fun(z:s3.heap.objs.size=D)=>absurd (hex D QM).2 (by rw[z];exact qm _))];exact lC;obtain⟨v,q⟩:=I3.cell x c e;exact absurd q.lt (by rw[z];exact qm _);exact absurd (QV (I3.pin p hp).1) (by rw[z];exact qm _);refine VB (T.item (yB X scope tgs mask s3 H2 (D::fp)) rfl rfl rfl hc i _ s5 σ5 H5 (fun _ _=>False) I5' (exok fr5 _ hppD) st5 go) fun r s6 ⟨u,hr,h6⟩=>?_;subst hr;refine VB h6 fun _ s7 ⟨x,H7,I7,r7,y7,st7,fr7⟩=>?_;have hD7:=(I7.pin _ (Qb _ (Qz.mpr rfl)))
  have fr7':∀b∈D::fp,H7 b=none:=fun b hb=>by rcases QI.mp hb with z|z;subst z;exact hD7.2.1;exact fr7 b z
  have I7':=I7.pinned (exok fr7' _ hppD) (T.obj _ _ st7);have bk:∀{σ':St}{H':Hp}{s':Shared},Inv (yB X scope tgs mask s3 H2 (D::fp)) ([(D,{ cls:=.type "list",dict:=none,data:=.seq its.toArray nL })]++pinsAt fp s7.heap) σ' H' s' ->
    s'.heap.get? D=some { cls:=.type "list",dict:=none,data:=.seq its.toArray nL }/\tn (i+1) s'.heap/\(∀b∈D::fp,H' b=none):=fun {σ' H' s'} I'=>by
   have hD:=I'.pin (D,{ cls:=.type "list",dict:=none,data:=.seq its.toArray nL }) (Qb _ (qZ _ (Qz.mpr rfl)));refine⟨hD.1,T.keep _ _ _ st7 fun b hb o e=>(I'.pin (b,o) (Qb _ (Qb _ (mem_pinsAt hb e)))).1,fun b hb=>?_⟩;rcases QI.mp hb with z|z;subst z;exact hD.2.1;obtain⟨o,e,_⟩:=T.obj _ _ st7 b z;exact(I'.pin (b,o) (Qb _ (Qb _ (mem_pinsAt z e)))).2.1
  refine VB (pg _ s7 σ5 H7 x u _ I7' r7 (step x H7 y7)) fun _ s8 ⟨σ8,H8,I8,q8⟩=>?_;refine VB (pf _ s8 σ8 H8 _ I8 q8) fun ok s9 ⟨H9,I9,q9⟩=>?_;cases ok with
  |false=>obtain⟨m',hm,w'⟩:=q9;obtain⟨b1,b2,b3⟩:=bk I9;exact⟨m',hm,i+1,σ8,H9,acc,its,I9.pins_of fun p hp=>by simp at hp,b2,b3,va5,⟨nL,b1⟩,w'⟩
  |true =>
   refine VB (pl _ s9 σ8 H9 _ I9 q9) fun y s10 ⟨yv,H10,I10,r10,hz,m',hm,w'⟩=>?_;obtain⟨b1,b2,b3⟩:=bk I10;have hlen:=va5.length;refine wpAny_list_append_plain (hsz:=by rw[QO];omega) (show s10.heap.PlainList D its.toArray from⟨nL,b1⟩) fun h11 hl11 hs11=>?_;refine⟨m',hm,i+1,σ8,H10,acc++[yv],its++[y],?_,T.keep _ _ _ b2 fun b hb o e=>(hs11.2 b (fun z=>Dfp (z▸hb))).trans e,b3,va5.append (.cons r10 .nil),by simpa using hl11,w'⟩;have I10':Inv (yB X scope tgs mask s3 H2 (D::fp)) [] σ8 H10 s10:=I10.pins_of fun p hp=>by simp at hp
   exact I10'.turned (t':=s10.toks) (fun b o hb e=>(hs11.2 b hb).trans e) (b3 D QM) DX.1 (.inl QM) DX.2 fun p hp=>by simp[yB]at hp
 refine codeAny_compStart_list (loop _ rfl) (T.self X.A 0 _ _ _ (T.keep _ _ _ (T.keep _ _ _ st2 fun b hb o e=>old3 b o e) fun b hb o e=>kept b o e) (loop _ rfl))
theorem frame_gone{X:Cx}{pins:rC}{σ:St}{H:Hp}{s:Shared}{F:Addr}(I:Inv X pins σ H s)(f:FrOk X pins H s F){h':Heap}(hs:qt F s.heap h'):Inv X pins σ H { s with heap:=h' }:=by obtain⟨f0,f1,f2,f3,f4,_⟩:=f;exact I.turned (t':=s.toks) (fun b o hb e=>(hs.2 b hb).trans e) f0 f1 (.inr f2) f3 f4
theorem pe_comp{X:Cx}{elt tg iter:Expr}{ifs:List Expr}{scope:Scope}{pos:Pos}{wi:TI}{g:TG}{tc:TT}{te:TE}{tgs:List Str}{mask:List Bool}(hc:X.calm=true)(hi:PI X tg iter wi)(C:CompSt X.N X.env.scope scope tgs mask)
  (inner:∀s H ex,PG (yB X scope tgs mask s H ex) tg g/\PIf (yB X scope tgs mask s H ex) ifs tc/\PE (yB X scope tgs mask s H ex) elt te)
  (hs:∀x,foldedSetIterable iter X.env x=pure x:=by intro _;rfl):PE X (.ListComp elt [⟨tg,iter,ifs,0⟩] scope pos) (tComp wi g tc te tgs.length mask):=by
 intro pins s σ H Q I h;rw[eval_ListComp];refine comp_gen hc hi C inner hs I h fun D H' s6 F I6 f q=>?_;obtain⟨m,hn⟩:=f.2.2.2.2.2;exact⟨m,hn,fun h' hs'=>⟨.ref D,H',frame_gone I6 f hs',rfl,q⟩⟩
theorem ps_setC{X:Cx}{elt tg iter:Expr}{ifs:List Expr}{scope:Scope}{cpos pos px:Pos}{wi:TI}{g:TG}{tc:TT}{te:TE}{tgs:List Str}{mask:List Bool}{i:Nat}{x:Str}(hc:X.calm=true)(hN:X.N.Nodup)(hi0:X.N[i]?=some x)(hx:X.env.scope.names.lookup x=some .local)
  (hi:PI X tg iter wi) (C:CompSt X.N X.env.scope scope tgs mask)
  (inner:∀s H ex,PG (yB X scope tgs mask s H ex) tg g/\PIf (yB X scope tgs mask s H ex) ifs tc/\PE (yB X scope tgs mask s H ex) elt te)
  (hs:∀x,foldedSetIterable iter X.env x=pure x) (hsw:swapsWith (.ListComp elt [⟨tg,iter,ifs,0⟩] scope cpos) (some (.Name x px)) pos.line X.env=pure true) :
  PS X (.Assign [.Name x px] (.ListComp elt [⟨tg,iter,ifs,0⟩] scope cpos) pos) (tAsg (tComp wi g tc te tgs.length mask) (gName i)):=by
 intro pins s σ H D0 I h;rw[exec_Assign_Name_used _ _ _ _ hsw];refine QF (QAI (QF ?_));show wpAny _ X.A (do let _ <- comprehension (.ListComp elt [⟨tg,iter,ifs,0⟩] scope cpos) scope X.env _ (newList []) false (eval iter X.env) (some (assign (.Name x px) X.env))) _ _ s;refine QF (qw (comp_gen (use:=some (assign (.Name x px) X.env)) (QQ:=fun _ s'=>SP X pins D0 .next s') hc hi C inner hs I h fun D H' s6 F I6 f q=>?_) (fun _ s' hq=>QW (QW hq)) fun _ _ e=>e);show wpAny _ X.A (assign (.Name x px) X.env (.ref D)) _ _ s6;refine QBV (store_ok2 I6 hN hi0 (.inl hx) (v:=.ref D) rfl (fun s7 I7 ⟨a,sb,ha⟩=>?_) (.inr hx));obtain⟨f0,f1,f2,f3,f4,m,hn⟩:=f;have ne:F≠a:=by rcases ha with z|z;rw[z];exact f1;exact fun e=>f3 x a z e.symm
 have hn7:s7.heap.Ns F m:=hn.sameBut sb ne;exact⟨m,hn7,fun h' hs'=>⟨_,H',frame_gone I7 ⟨f0,f1,f2,f3,f4,m,hn7⟩ hs',q⟩⟩
end L2
namespace L2.L3
open PySem PySem.Spec PyProof.Rows
noncomputable def rAdd(K:QA):R2:=fun x y H Q=>match x,y with
 | .int i,.int j=>Q (.int (i+j)) H
 | .str a,.str b=>a.length+b.length<=sizeLine/\Q (.str (a++b)) H
 | .ref a,.ref b=>(∃xs ys,SqL K H a xs/\SqL K H b ys/\xs.length+ys.length<=sizeLine/\∀p,H p=none->Q (.ref p) (FB H p (.lst (xs++ys))))∨rCatT K (.ref a) (.ref b) H Q
 |_,_=>False
noncomputable def rSub:R2:=fun x y H Q=>match x,y with
 | .int i,.int j=>Q (.int (i - j)) H
 |_,_=>False
noncomputable def repS(x:Str)(n:Int):Str:=Txt.mul x n
noncomputable def rMul(K:QA):R2:=fun x y H Q=>match x,y with
 | .int i,.int j=>IntMulOk i j/\Q (.int (i * j)) H
 | .str a,.int k=>(-(2 ^ 31)<=k/\k<2 ^ 31/\a.length * k.toNat<=sizeLine)/\Q (.str (repS a k)) H
 | .ref a,.int k=>∃xs,SqL K H a xs/\(-(2 ^ 31)<=k/\k<2 ^ 31/\xs.length * k.toNat<=sizeLine)/\∀p,H p=none->Q (.ref p) (FB H p (.lst (QH k.toNat xs).flatten))
 |_,_=>False
noncomputable def rFdiv:R2:=fun x y H Q=>match x,y with
 | .int i,.int j=>(0<j/\j<2 ^ 200)/\Q (.int (i / j)) H
 |_,_=>False
noncomputable def rMod:R2:=fun x y H Q=>match x,y with
 | .int i,.int j=>0<j/\Q (.int (i % j)) H
 |_,_=>False
noncomputable def rPow:R2:=fun x y H Q=>match x,y with
 | .int i,.int j=>CPow i j/\Q (.int (i ^ j.toNat)) H
 |_,_=>False
section
variable{X:Cx}
theorem op_add:OpR X (binaryOp .Add) (rAdd X.K):=by
 intro pins s σ H x y v u Q I rx ry h;cases x with
 |int i =>
  cases y with
  |int j=>exact _root_.L2.op_add pins s σ H _ _ v u Q I rx ry ⟨i,j,rfl,rfl,h⟩
  |_=>exact QT h
 |str a =>
  cases y with
  |str b=>exact op_add_str pins s σ H _ _ v u Q I rx ry ⟨a,b,rfl,rfl,h.1,h.2⟩
  |_=>exact QT h
 |ref a =>
  cases y with
  |ref b =>
   rcases h with⟨xs,ys,hx,hy,hz,q⟩| h;cases rx;cases ry;obtain⟨its,r,⟨⟨cls,dd,data,sl⟩,n1,e1,c1,d1,s1⟩,z1⟩:=I.list hx;obtain⟨its2,r2,⟨⟨cls2,dd2,data2,sl2⟩,n2,e2,c2,d2,s2⟩,z2⟩:=I.list hy;simp only at c1 s1 c2 s2;subst c1 s1 c2 s2;have hl:=r.length;have hl2:=r2.length;refine QBo ⟨_,e1,rfl⟩ ⟨_,e2,rfl⟩ noFill_list_add seq_list_add PySem.F.slot_list_add PySem.F.entry_list_add (PySem.F.args_list_add_2 _ _) (list_addW a b its.toArray its2.toArray n1 n2 dd dd2 sl sl2 (by simp;omega)) ⟨e1,e2,?_⟩;have ea:its.toArray++its2.toArray=(its++its2).toArray:=by simp
   rw[ea];exact⟨.ref _,_,I.lnew (t':=s.toks) (r.append r2) (by rw[QK];omega),rfl,q _ I.fresh⟩;exact op_catT pins s σ H _ _ v u Q I rx ry h
  |_=>exact QT h
 |_=>exact QT h
theorem op_sub:OpR X (binaryOp .Sub) rSub:=by
 intro pins s σ H x y v u Q I rx ry h;cases x with
 |int i =>
  cases y with
  |int j=>exact _root_.L2.op_sub pins s σ H _ _ v u Q I rx ry ⟨i,j,rfl,rfl,h⟩
  |_=>exact QT h
 |_=>exact QT h
theorem op_fdiv:OpR X (binaryOp .FloorDiv) rFdiv:=by
 intro pins s σ H x y v u Q I rx ry h;cases x with
 |int i =>
  cases y with
  |int j =>
   obtain⟨t,rfl⟩:=rx;obtain⟨t',rfl⟩:=ry;obtain⟨⟨h1,h2⟩,q⟩:=h;refine floordiv_int (by omega) ?_ (.inl (PyProof.noPylong_of_log2 ?_));rw[Int.fdiv_eq_ediv_of_nonneg i (by omega)];exact⟨.int _,H,I.tok _,⟨_,rfl⟩,q⟩;have:j.natAbs<2 ^ 200:=by omega
   have:=(QCD (show j.natAbs≠0 by omega)).mpr this;omega
  |_=>exact QT h
 |_=>exact QT h
theorem op_mod:OpR X (binaryOp .Mod) rMod:=by
 intro pins s σ H x y v u Q I rx ry h;cases x with
 |int i =>
  cases y with
  |int j=>exact _root_.L2.op_mod pins s σ H _ _ v u Q I rx ry ⟨i,j,rfl,rfl,h.1,h.2⟩
  |_=>exact QT h
 |_=>exact QT h
theorem op_pow:OpR X (binaryOp .Pow) rPow:=by
 intro pins s σ H x y v u Q I rx ry h;cases x with
 |int i =>
  cases y with
  |int j=>exact _root_.L2.op_pow pins s σ H _ _ v u Q I rx ry ⟨i,j,rfl,rfl,h.1,h.2⟩
  |_=>exact QT h
 |_=>exact QT h
theorem irm_lst(i:Int)(t:Tok)(l:Addr)(items:Array Value)(n:Nat)(sl:Array (Option Value)) :
  Meets (Builtin.«int.__rmul__» ⟨[.int i t,.ref l],[]⟩) (fun _ R s=>s.heap.get? l=some ⟨.type "list",none,.seq items n,sl⟩/\R (.ok (.ret Value.notImplemented)) s) :=
 .of_wp fun prog w A R s h=>by obtain⟨hp,g,d,tk,os⟩:=s;obtain⟨hl,h⟩:=h;wp_walk;exact⟨_,rfl,h⟩
theorem lmul_n(l:Addr)(items:Array Value)(n:Nat)(sl:Array (Option Value))(x:Int)(u:Tok)(hc0:¬(!Builtin.List.listFitsIndex x)=true)(hc1:¬items.size * x.toNat > (2 ^ 63 - 1) / 8)(hc2:¬qk (items.size * x.toNat)=true) :
  Meets (Builtin.«list.__mul__» ⟨[.ref l,.int x u],[]⟩) (fun _ R s=>s.heap.get? l=some ⟨.type "list",none,.seq items n,sl⟩/\R (.ok (.ret (Value.ref s.heap.objs.size))) { s with heap:=s.heap.push { cls:=Value.type "list",data:=Data.seq (Wl (fun x1 x2=>x1++x2) #[] (QH (if items.isEmpty=true then 0 else x.toNat) items)) },toks:=s.toks }) :=
 .of_wp fun prog w A R s h=>by obtain⟨hp,g,d,tk,os⟩:=s;obtain⟨hl,h⟩:=h;have hsz:=AutoListH.joined_fits hc2;wp_walk;refine wpAny_ite_false (dF (Nat.not_lt.mpr hsz)) ?_;wp_walk;exact⟨_,rfl,h⟩
theorem op_lmul{pins:rC}{s:Shared}{σ:St}{H:Hp}{l:Addr}{k:Int}{t:Tok}{xs:List V}{Q:VK}(I:Inv X pins σ H s)(hq:SqL X.K H l xs)(h1:-(2 ^ 31)<=k)(h2:k<2 ^ 31)(hz:xs.length * k.toNat<=sizeLine)(q:∀p,H p=none->Q (.ref p) (FB H p (.lst (QH k.toNat xs).flatten))) :
  wpAny (model X.prog X.w) X.A (binaryOp .Mult (.ref l) (.int k t)) (EP X pins σ Q) X.xe s:=by
 obtain⟨its,r,⟨⟨cl,od,dt,sl⟩,n,e,rfl,rfl,rfl⟩,_⟩:=I.list hq;have hl:=r.length;have hlen:its.toArray.size * k.toNat<=sizeLine:=by rw[QO,<- hl];exact hz
 have hcap:¬ its.toArray.size * k.toNat > (2 ^ 63 - 1) / 8:=by
  have:(sizeLine:Nat)<=(2 ^ 63 - 1) / 8:=by decide
  omega
 have hfit:¬ (!Builtin.List.listFitsIndex k)=true:=by rw[fitsIndex_both (by omega) (by omega)];exact QC
 have hlong:¬ qk (its.toArray.size * k.toNat)=true:=by rw[notLongL hlen];exact QC
 have hnew:Wl (fun x1 x2=>x1++x2) #[] (QH (if its.toArray.isEmpty=true then 0 else k.toNat) its.toArray)=(QH k.toNat its).flatten.toArray:=by
  have f0:∀m:Nat,Wl (fun x1 x2=>x1++x2) #[] (QH m its.toArray)=(QH m its).flatten.toArray:=fun m=>by have:=foldl_rep its m [];rw[Q3]at this;exact this
  rw[f0];cases its with
  |nil=>simp
  |cons a r'=>rw[if_neg (by simp)]
 refine W5 (T:="list") (U:="int") (by decide) ⟨_,e,rfl⟩ (fun s'=>QAp s' k t) noFill_list_mul QCE Wn repeat_list QBz.lookup
  (wO Wn (QAp s k t) QB0 (QBb _ _) (irm_lst k t l its.toArray n sl)
   ⟨e,rfl,⟨_,e,rfl⟩,wO F.slot_list_mul ⟨_,e,rfl⟩ F.entry_list_mul (F.args_list_mul_2 _ _) (lmul_n l its.toArray n sl k t hfit hcap hlong) ⟨e,?_⟩⟩)
 rw[hnew];exact⟨.ref _,_,I.lnew (t':=s.toks) (r.rep k.toNat) (by rw[len_rep,QBr];exact hz),rfl,q _ I.fresh⟩
theorem op_mul:OpR X (binaryOp .Mult) (rMul X.K):=by
 intro pins s σ H x y v u Q I rx ry h;cases x with
 |int i =>
  cases y with
  |int j=>obtain⟨t,rfl⟩:=rx;obtain⟨t',rfl⟩:=ry;exact mul_int ⟨.int _,H,I.tok _,⟨_,rfl⟩,h.2⟩ h.1
  |_=>exact QT h
 |str a =>
  cases y with
  |int k =>
   obtain⟨t,rfl⟩:=rx;obtain⟨t',rfl⟩:=ry;obtain⟨⟨h1,h2,h3⟩,q⟩:=h;refine SB.mul ⟨?_,fun _ _=>?_,fun _ _=>?_⟩ fun t' kk=>⟨.str (repS a k),H,I.tok _,⟨_,rfl⟩,q⟩
   have e1:decide (k < -(2 ^ 63:Int))=false:=dF (by omega);have e2:decide (k ≥ 2 ^ 63)=false:=dF (by omega);rw[e1,e2];rfl;have e:(a.length:Int) * k=((a.length * k.toNat:Nat):Int):=by rw[QCF,QA3 (by omega)]
   have hz:sizeLine=16777216:=QZ;have:=Int.le_ediv_of_mul_le (a:=(a.length:Int)) (b:=2 ^ 63 - 1) (c:=k) (by omega) (by rw[e];omega);omega;unfold Builtin.Str.tooLong;exact dF (by omega)
  |_=>exact QT h
 |ref a =>
  cases y with
  |int k=>obtain⟨xs,hq,⟨h1,h2,h3⟩,q⟩:=h;cases rx;obtain⟨t,rfl⟩:=ry;exact op_lmul I hq h1 h2 h3 q
  |_=>exact QT h
 |_=>exact QT h
end
mutual
inductive Rep(K:QA)(H:Hp):V->PyData->Prop where
 |non:Rep K H .non .none
 |bl (b:Bool):Rep K H (.bl b) (.bool b)
 |int (i:Int):Rep K H (.int i) (.int i)
 |str (x:Str):Rep K H (.str x) (.str x)
 |lst {a:Addr}{xs:List V}{ds:List PyData}:SqL K H a xs->Reps K H xs ds->Rep K H (.ref a) (.list ds)
 |tup {a:Addr}{xs:List V}{ds:List PyData}:SqT K H a xs->Reps K H xs ds->Rep K H (.ref a) (.tuple ds)
inductive Reps(K:QA)(H:Hp):List V->List PyData->Prop where
 |nil:Reps K H [] []
 |cons {x:V}{d:PyData}{xs:List V}{ds:List PyData}:Rep K H x d->Reps K H xs ds->Reps K H (x::xs) (d::ds)
end
theorem Reps.length{K:QA}{H:Hp}:∀{xs:List V}{ds:List PyData},Reps K H xs ds->xs.length=ds.length
 |_,_,.nil=>rfl
 |_,_,.cons _ t=>by rw[QL,QL,Reps.length t]
section
variable{X:Cx}{pins:rC}{σ:St}{H:Hp}{s:Shared}
mutual
theorem Rep.reads(I:Inv X pins σ H s):∀{x:V}{d:PyData}{u:Value},Rep X.K H x d->FA x u->∃as,Reads s.heap u d as
 |_,_,u,.non,r=>by cases r;exact⟨_,.none⟩
 |_,_,u,.bl b,r=>by cases r;exact⟨_,.bool b⟩
 |_,_,u,.int i,r=>by obtain⟨t,rfl⟩:=r;exact⟨_,.int i t⟩
 |_,_,u,.str x,r=>by obtain⟨t,rfl⟩:=r;exact⟨_,.str x t⟩
 |_,_,u,.lst h q,r=>by cases r;obtain⟨its,rv,⟨o,n,e,c,_,d⟩,_⟩:=I.list h;obtain⟨as,ra⟩:=Reps.reads I q rv;exact⟨_,.list e c d (by simpa using ra)⟩
 |_,_,u,.tup h q,r=>by cases r;obtain⟨its,rv,⟨o,e,c,n,d⟩,_⟩:=I.tuple h;obtain⟨as,ra⟩:=Reps.reads I q rv;exact⟨_,.tuple e c d (by simpa using ra)⟩
theorem Reps.reads(I:Inv X pins σ H s):∀{xs:List V}{ds:List PyData}{us:List Value},Reps X.K H xs ds->aA xs us->∃as,ReadsAll s.heap us ds as
 |_,_,_,.nil,.nil=>⟨_,.nil⟩
 |_,_,_,.cons h t,.cons r rs=>by obtain⟨as,ra⟩:=Rep.reads I h r;obtain⟨bs,rb⟩:=Reps.reads I t rs;exact⟨_,.cons ra rb⟩
end
def okD(d:PyData):Prop:=d.canLay0=true/\d.depth<=64
noncomputable def rEq(K:QA)(neg:Bool):R2:=fun x y H Q=>match x,y with
 | .int i,.int j=>Q (.bl (if neg then !decide (i=j) else decide (i=j))) H
 | .str a,.str b=>Q (.bl (if neg then !decide (a=b) else decide (a=b))) H
 | .bl a,.bl b=>Q (.bl (if neg then !decide (a=b) else decide (a=b))) H
 |x,y=>∃dx dy,Rep K H x dx/\Rep K H y dy/\okD dx/\okD dy/\Q (.bl (if neg then !PyData.eqv dx dy else Qy dx dy)) H
theorem op_eq(hu:X.A.units+64<cLine):OpR X (compareOp .Eq) (rEq X.K false):=by
 intro pins s σ H x y v u Q I rx ry h;have gen:(∃dx dy,Rep X.K H x dx/\Rep X.K H y dy/\okD dx/\okD dy/\Q (.bl (if false=true then !PyData.eqv dx dy else Qy dx dy)) H)->wpAny (model X.prog X.w) X.A (compareOp .Eq v u) (EP X pins σ Q) X.xe s:=by rintro⟨dx,dy,h1,h2,⟨o1,o2⟩,⟨o3,o4⟩,q⟩;obtain⟨as,ra⟩:=h1.reads I rx;obtain⟨bs,rb⟩:=h2.reads I ry;exact SeqAt.compareEq_reads ra rb o1 o3 (by omega) ⟨.bl _,H,I,rfl,q⟩
 have sc:scal x y=true->Q (.bl (decide (x=y))) H->wpAny (model X.prog X.w) X.A (compareOp .Eq v u) (EP X pins σ Q) X.xe s:=fun h1 h2=>_root_.L2.op_eq pins s σ H x y v u Q I rx ry ⟨h1,h2⟩;cases x with
 |int i =>
  cases y with
  |int j=>exact sc rfl (by simpa[rEq]using h)
  |_=>exact gen h
 |str a =>
  cases y with
  |str b=>exact sc rfl (by simpa[rEq]using h)
  |_=>exact gen h
 |bl a =>
  cases y with
  |bl b=>exact sc rfl (by simpa[rEq]using h)
  |_=>exact gen h
 |_=>exact gen h
theorem op_ne(hu:X.A.units+64<cLine):OpR X (compareOp .NotEq) (rEq X.K true):=by
 intro pins s σ H x y v u Q I rx ry h;have gen:(∃dx dy,Rep X.K H x dx/\Rep X.K H y dy/\okD dx/\okD dy/\Q (.bl (if true=true then !PyData.eqv dx dy else Qy dx dy)) H)->wpAny (model X.prog X.w) X.A (compareOp .NotEq v u) (EP X pins σ Q) X.xe s:=by rintro⟨dx,dy,h1,h2,⟨o1,o2⟩,⟨o3,o4⟩,q⟩;obtain⟨as,ra⟩:=h1.reads I rx;obtain⟨bs,rb⟩:=h2.reads I ry;exact SeqAt.compareNe_reads ra rb o1 o3 (by omega) ⟨.bl _,H,I,rfl,q⟩
 have sc:scal x y=true->Q (.bl (!decide (x=y))) H->wpAny (model X.prog X.w) X.A (compareOp .NotEq v u) (EP X pins σ Q) X.xe s:=fun h1 h2=>_root_.L2.op_ne pins s σ H x y v u Q I rx ry ⟨h1,h2⟩;cases x with
 |int i =>
  cases y with
  |int j=>exact sc rfl (by simpa[rEq]using h)
  |_=>exact gen h
 |str a =>
  cases y with
  |str b=>exact sc rfl (by simpa[rEq]using h)
  |_=>exact gen h
 |bl a =>
  cases y with
  |bl b=>exact sc rfl (by simpa[rEq]using h)
  |_=>exact gen h
 |_=>exact gen h
noncomputable def rOrd(f:Int->Int->Bool):R2:=fun x y H Q=>match x,y with
 | .int i,.int j=>Q (.bl (f i j)) H
 |_,_=>False
theorem op_ord{op:CmpOp}{f:Int->Int->Bool}(h0:OpR X (compareOp op) (rI0 fun i j=>.bl (f i j))):OpR X (compareOp op) (rOrd f):=by
 intro pins s σ H x y v u Q I rx ry h;cases x with
 |int i =>
  cases y with
  |int j=>exact h0 pins s σ H _ _ v u Q I rx ry ⟨i,j,rfl,rfl,h⟩
  |_=>exact QT h
 |_=>exact QT h
noncomputable def inStr(b a:Str):Bool:=match a.cps.toList with
 |[c]=>decide (c∈b.cps.toList)
 |_=>!(qV b a 0 b.length 1).isEmpty
theorem inStr_eq(b a:Str):inStr b a=!(qV b a 0 b.length 1).isEmpty:=by
 unfold inStr;split;rename_i c e;have ea:a=⟨#[c]⟩:=by
  obtain⟨cps⟩:=a;have:cps=#[c]:=by apply QB1.mp;simpa using e
  rw[this]
 rw[ea];exact(StrLaws.found_one b c).symm;rfl
noncomputable def rInU(K:QA)(neg:Bool):R2:=fun x y H Q=>match y with
 | .str b=>match x with
  | .str a=>Q (.bl (if neg then !inStr b a else inStr b a)) H
  |_=>False
 | .ref p=>rIn K neg x (.ref p) H Q∨(∃d ds,Rep K H x d/\(Rep K H (.ref p) (.list ds)∨Rep K H (.ref p) (.tuple ds))/\okD d/\okD (.list ds)/\Q (.bl (if neg then !(ds.any fun y=>Qy y d) else ds.any fun y=>Qy y d)) H)
 |_=>False
theorem okD_items{ds:List PyData}(h:okD (.list ds)):WS ds=true/\wm ds<=63:=by obtain⟨h1,h2⟩:=h;simp only[QAy]at h1;simp only[WX]at h2;exact⟨h1,by omega⟩
theorem op_in(hu:X.A.units+66<cLine):OpR X (compareOp .In) (rInU X.K false):=by
 intro pins s σ H x y v u Q I rx ry h;cases y with
 |str b =>
  cases x with
  |str a=>refine op_in_str pins s σ H _ _ v u Q I rx ry ⟨a,b,rfl,rfl,?_⟩;rw[<- inStr_eq];simpa[rInU]using h
  |_=>exact QT h
 |ref p =>
  rcases h with h|⟨d,ds,hx,hp,o1,o2,q⟩
  exact op_in_seq pins s σ H _ _ v u Q I rx ry h;obtain⟨as,ra⟩:=hx.reads I rx;obtain⟨c1,c2⟩:=okD_items o2;rcases hp with hp|hp;obtain⟨bs,rb⟩:=hp.reads I ry;exact SeqAt.in_list_reads rb ra c1 o1.1 (by omega) ⟨.bl _,H,I,rfl,q⟩;obtain⟨bs,rb⟩:=hp.reads I ry;exact SeqAt.in_tuple_reads rb ra c1 o1.1 (by omega) ⟨.bl _,H,I,rfl,q⟩
 |_=>exact QT h
theorem op_notin(hu:X.A.units+66<cLine):OpR X (compareOp .NotIn) (rInU X.K true):=by
 intro pins s σ H x y v u Q I rx ry h;cases y with
 |str b =>
  cases x with
  |str a=>refine op_notin_str pins s σ H _ _ v u Q I rx ry ⟨a,b,rfl,rfl,?_⟩;rw[<- inStr_eq];simpa[rInU]using h
  |_=>exact QT h
 |ref p =>
  rcases h with h|⟨d,ds,hx,hp,o1,o2,q⟩
  exact op_notIn_seq pins s σ H _ _ v u Q I rx ry h;obtain⟨as,ra⟩:=hx.reads I rx;obtain⟨c1,c2⟩:=okD_items o2;rcases hp with hp|hp;obtain⟨bs,rb⟩:=hp.reads I ry;exact SeqAt.notIn_list_reads rb ra c1 o1.1 (by omega) ⟨.bl _,H,I,rfl,q⟩;obtain⟨bs,rb⟩:=hp.reads I ry;exact SeqAt.notIn_tuple_reads rb ra c1 o1.1 (by omega) ⟨.bl _,H,I,rfl,q⟩
 |_=>exact QT h
end
noncomputable def Its(z:Str):It:=⟨fun i _=>i<z.cps.size,fun i H x H'=>H'=H/\∃c,z.cps[i]?=some c/\x=.str ⟨#[c]⟩,fun i _=>z.cps.size<=i⟩
theorem turn_str{P:Program}{w:World}{K:QA}{tg:Expr}(it:Addr)(z:Str)(t:Tok):Turn P w K tg (Its z) [it] it (fun i h=>h.IsStrIter it (strIterType z) z t i) where
 mem:=by simp
 obj:=fun i h st b hb=>by
  have e:b=it:=by simpa using hb
  subst e;obtain⟨o,e,c,d⟩:=st;exact⟨o,e,fun v z=>by rw[d]at z;cases z⟩
 keep:=fun i h h' st k=>by obtain⟨o,e,r⟩:=st;exact⟨o,k it (by simp) o e,r⟩
 item:=by
  intro X hP hw hK hc i pins s σ H E I hf st hg;subst hP hw hK;obtain⟨f0,f1,f2,f3,f4,f5⟩:=hf it (by simp);have hg':i<z.cps.size:=hg;obtain⟨ch,hx⟩:∃ch,z.cps[i]?=some ch:=⟨_,Array.getElem?_eq_getElem hg'⟩
  have key:∀h',h'.IsStrIter it (strIterType z) z t (i+1)->qt it s.heap h'->∃u,some (Value.str ⟨#[ch]⟩ s.toks)=some u /\
    wpAny (model X.prog X.w) X.A (letOwnedTupleGo tg (.ref it) u) (fun _ s2=>∃x H',Inv X pins σ H' s2/\FA x u/\(Its z).yld i H x H'/\s2.heap.IsStrIter it (strIterType z) z t (i+1)/\∀b∈[it],H' b=none) E { s with heap:=h',toks:=s.toks+1 }:=fun h' st' sb=>by
   have I1:Inv X pins σ H { s with heap:=h',toks:=s.toks+1 }:=I.turned (fun b o hb e=>(sb.2 b hb).trans e) f0 f1 f3 f4 f5;obtain⟨o,e,c,d⟩:=id st';refine⟨_,rfl,go_of (s:={ s with heap:=h',toks:=s.toks+1 }) (n:=strIterType z) e c d ?_ ⟨.str ⟨#[ch]⟩,H,I1,⟨_,rfl⟩,⟨rfl,_,hx,rfl⟩,st',fun b hb=>(hf b hb).1⟩⟩;unfold strIterType;split<;>decide
  cases ha:z.cps.all (· < 128) with
  |false =>
   have e1:strIterType z="str_iterator":=by simp[strIterType,ha]
   exact wpAny_pyNext_wide_item (by rw[<- e1];exact st) hx fun h' st' sb=>key h' (by rw[e1];exact st') sb
  |true =>
   have e1:strIterType z="str_ascii_iterator":=by simp[strIterType,ha]
   exact wpAny_pyNext_ascii_item (by rw[<- e1];exact st) hx fun h' st' sb=>key h' (by rw[e1];exact st') sb
 done:=by
  intro X hP hw hK hc i pins s σ H E I hf st hg;subst hP hw hK;obtain⟨f0,f1,f2,f3,f4,f5⟩:=hf it (by simp);have hx:z.cps[i]?=none:=by rw[Array.getElem?_eq_none_iff];exact hg
  cases ha:z.cps.all (· < 128) with
  |false =>
   have e1:strIterType z="str_iterator":=by simp[strIterType,ha]
   rw[e1]at st;exact wpAny_pyNext_wide_end (I.ok.hd hc) st hx fun h' eb=>⟨rfl,I.turned (t':=s.toks) (fun b o hb e=>eb b o hb e) f0 f1 f3 f4 f5⟩
  |true =>
   have e1:strIterType z="str_ascii_iterator":=by simp[strIterType,ha]
   rw[e1]at st;exact wpAny_pyNext_ascii_end (I.ok.hd hc) st hx fun h' eb=>⟨rfl,I.turned (t':=s.toks) (fun b o hb e=>eb b o hb e) f0 f1 f3 f4 f5⟩
 self:=by
  intro A i s Q E st h;cases ha:z.cps.all (· < 128) with
  |false =>
   have e1:strIterType z="str_iterator":=by simp[strIterType,ha]
   rw[e1]at st;exact wpAny_pyIter_striter_wide st h
  |true =>
   have e1:strIterType z="str_ascii_iterator":=by simp[strIterType,ha]
   rw[e1]at st;exact wpAny_pyIter_striter_ascii st h
section
variable{X:Cx}
theorem bools_of:∀{bs:List Bool}{us:List Value},aA (bs.map V.bl) us->∀(i:Nat) (v:Value),us[i]?=some v->∃b,bs[i]?=some b/\v=Value.bool b
 |[],_,.nil,i,v,h=>by simp at h
 |b::bs,_,.cons r t,0,v,h=>by simp at h;subst h;exact⟨b,by simp,r⟩
 |b::bs,_,.cons r t,i+1,v,h=>by obtain⟨c,h1,h2⟩:=bools_of (bs:=bs) t i v (by simpa using h);exact⟨c,by simpa using h1,h2⟩
theorem range_all(bs:List Bool):(Qc bs.length).all (fun i=>bs.getD i true)=bs.all id:=by
 rw[wA,Qn,Qn];constructor;intro h b hb;obtain⟨i,hi,e⟩:=QA4 hb;have:=h i (by simpa using hi);simp[QAi,hi,e]at this;simpa using this;intro h i hi;have hi':i<bs.length:=by simpa using hi
 have:=h bs[i] (QAS hi');simpa[QAi,hi']using this
theorem range_any(bs:List Bool):(Qc bs.length).any (fun i=>bs.getD i false)=bs.any id:=by
 rw[wA,QB2,QB2];constructor;rintro⟨i,hi,e⟩;have hi':i<bs.length:=by simpa using hi
 exact⟨bs[i],QAS hi',by simpa[QAi,hi']using e⟩;rintro⟨b,hb,e⟩;obtain⟨i,hi,e'⟩:=QA4 hb;exact⟨i,by simpa using hi,by simp[QAi,hi,e'];simpa using e⟩
noncomputable def rAll(K:QA):List V->Hp->VK->Prop:=fun vs H Q=>match vs with
 |[.ref a]=>∃bs:List Bool,SqL K H a (bs.map V.bl)/\Q (.bl (bs.all id)) H
 |_=>False
noncomputable def rAny(K:QA):List V->Hp->VK->Prop:=fun vs H Q=>match vs with
 |[.ref a]=>∃bs:List Bool,SqL K H a (bs.map V.bl)/\Q (.bl (bs.any id)) H
 |_=>False
theorem call_all(hh:X.calm=true):EC X (.builtin "all") (rAll X.K):=by
 intro pins s σ H xs us Q I r h
 match xs,h with
 |[.ref a],⟨bs,hq,q⟩ =>
  obtain⟨u,rfl,ru⟩:=vals1 r;cases ru;obtain⟨its,rv,p,hz⟩:=I.list hq;have hl:=rv.length;rw[QG]at hl;refine call_all_walk (WT p.isList ?_);have hlt:a<s.heap.objs.size:=by obtain⟨o,n,e,_⟩:=p;exact QV e
  refine⟨s.heap.objs.size,_,_,_,_,_,fun i=>bs.getD i true,rfl,Walks.list (A:=X.A.in1) (I.ok.hd hh) s.heap.objs.size a (Qu hlt) its.toArray,⟨⟨_,QY _ rfl,rfl,rfl⟩,?_⟩,?_,?_⟩;obtain⟨o,n,e,c,d,sq⟩:=p;exact⟨o,QE _ e,c,n,sq⟩;intro i v s' Q' E' hP hQ';obtain⟨b,hb,rfl⟩:=bools_of rv i v (by simpa using hP);refine qS ?_;have:bs.getD i true=b:=by simp[QAi,hb]
  rw[<- this];exact hQ';intro h' tk hk;have e1:(Qc its.toArray.size).all (fun i=>bs.getD i true)=bs.all id:=by rw[QO,<- hl,range_all]
  rw[e1];exact⟨.bl _,H,I.kept (t':=tk) (fun b o e=>hk b o (by simp;exact Qu (QV e)) (QE _ e)),rfl,q⟩
theorem call_any(hh:X.calm=true):EC X (.builtin "any") (rAny X.K):=by
 intro pins s σ H xs us Q I r h
 match xs,h with
 |[.ref a],⟨bs,hq,q⟩ =>
  obtain⟨u,rfl,ru⟩:=vals1 r;cases ru;obtain⟨its,rv,p,hz⟩:=I.list hq;have hl:=rv.length;rw[QG]at hl;refine call_any_walk (WT p.isList ?_);have hlt:a<s.heap.objs.size:=by obtain⟨o,n,e,_⟩:=p;exact QV e
  refine⟨s.heap.objs.size,_,_,_,_,_,fun i=>bs.getD i false,rfl,Walks.list (A:=X.A.in1) (I.ok.hd hh) s.heap.objs.size a (Qu hlt) its.toArray,⟨⟨_,QY _ rfl,rfl,rfl⟩,?_⟩,?_,?_⟩;obtain⟨o,n,e,c,d,sq⟩:=p;exact⟨o,QE _ e,c,n,sq⟩;intro i v s' Q' E' hP hQ';obtain⟨b,hb,rfl⟩:=bools_of rv i v (by simpa using hP);refine qS ?_;have:bs.getD i false=b:=by simp[QAi,hb]
  rw[<- this];exact hQ';intro h' tk hk;have e1:(Qc its.toArray.size).any (fun i=>bs.getD i false)=bs.any id:=by rw[QO,<- hl,range_any]
  rw[e1];exact⟨.bl _,H,I.kept (t':=tk) (fun b o e=>hk b o (by simp;exact Qu (QV e)) (QE _ e)),rfl,q⟩
noncomputable def rLen(K:QA):List V->Hp->VK->Prop:=fun vs H Q=>match vs with
 |[.str z]=>z.length<=sizeLine/\Q (.int z.length) H
 |[.ref a]=>(∃xs,SqL K H a xs/\Q (.int xs.length) H)∨(∃xs,SqT K H a xs/\Q (.int xs.length) H)
 |_=>False
theorem call_len:EC X (.builtin "len") (rLen X.K):=by
 intro pins s σ H xs us Q I r h
 match xs,h with
 |[.str z],h=>exact call_len_str pins s σ H _ us Q I r ⟨z,rfl,h⟩
 |[.ref a],.inl ⟨xs,hq,q⟩=>exact call_len_seq pins s σ H _ us Q I r ⟨a,xs,rfl,.inl hq,q⟩
 |[.ref a],.inr ⟨xs,hq,q⟩=>exact call_len_seq pins s σ H _ us Q I r ⟨a,xs,rfl,.inr hq,q⟩
noncomputable def cV:V->Option Value
 | .ty n=>some (.type n)
 | .ref C=>some (.ref C)
 |_=>none
def TyQ(K:QA)(H:Hp)(x:V)(t:Value):Prop:=(∃a xs,x=.ref a/\SqL K H a xs/\t=.type "list")∨∃a xs,x=.ref a/\SqT K H a xs/\t=.type "tuple"
noncomputable def rIsI(K:QA):List V->Hp->VK->Prop:=fun vs H Q=>match vs with
 |[x,c]=>∃t cv b,(TyOf K H x t∨TyQ K H x t)/\cV c=some cv/\QAx K t cv=some b/\Q (.bl b) H
 |_=>False
theorem call_isi:EC X (.builtin "isinstance") (rIsI X.K):=by
 intro pins s σ H xs us Q I r h
 match xs,h with
 |[x,c],⟨t,cv,b,ty,hc,hk,q⟩ =>
  obtain⟨u,w',rfl,ru,rw'⟩:=vals2 r;have e:w'=cv:=by
   cases c with
   |ty n=>have h1:w'=Value.type n:=rw';have h2:some (Value.type n)=some cv:=hc;rw[h1];exact Qw h2
   |ref C=>have h1:w'=Value.ref C:=rw';have h2:some (Value.ref C)=some cv:=hc;rw[h1];exact Qw h2
   |_=>cases hc
  subst e;rcases ty with ty|⟨a,xs,rfl,hq,rfl⟩| ⟨a,xs,rfl,hq,rfl⟩
  exact isinst_ok I ru ty hk fun tk=>⟨.bl b,H,I.tok tk,rfl,q⟩
  cases ru;obtain⟨its,rv,⟨o,n,e,c,_,d⟩,_⟩:=I.list hq;exact qB W8 I.kIn ⟨o,e,c⟩ hk (fun z=>nomatch z) fun tk=>⟨.bl b,H,I.tok tk,rfl,q⟩
  cases ru;obtain⟨its,rv,⟨o,e,c,n,d⟩,_⟩:=I.tuple hq;exact qB QBM I.kIn ⟨o,e,c⟩ hk (fun z=>nomatch z) fun tk=>⟨.bl b,H,I.tok tk,rfl,q⟩
noncomputable def rSlW(K:QA):V->Option Int->Option Int->Hp->VK->Prop:=fun x lo hi H Q=>∃a xs,x=.ref a/\SqT K H a xs/\(HT.sIx xs.length 0 lo=0/\HT.sIx xs.length xs.length hi=xs.length)/\Q (.ref a) H
theorem whole_tup{P:Program}{w:World}{A:Around}{E:xD}{z:Shared}{b sl:Addr}{js:Array Value}{u1 u2:Value}{lo hi:Option Int}{C:xD}(bt:IsTup z.heap b js)(ss:z.heap.IsSliceOf sl u1 u2 .none)(g1:IsPart u1 lo)(g2:IsPart u2 hi)
  (all:HT.sIx js.size 0 lo=0/\HT.sIx js.size js.size hi=js.size) (c:C (.ref b) z):wpAny (model P w) A (getItem (.ref b) (.ref sl)) C E z:=by
 obtain⟨o,ho,co,_⟩:=id ss;have ty:z.TypeIs (.ref sl) "slice":=⟨o,ho,co⟩
 unfold getItem
 try with_reducible refine wu ?_
 first|refine QF (QW ?_)|skip
 refine QF (QBX bt.typeIs (by decide) (QF (qY (name:=QD "__getitem__") bt.typeIs WI (wd WI bt.typeIs QA1 ?_ (QBN _ _)))));show wpAny _ _ (Ws (.ref b) >>= _) _ _ z;refine QF (tupleItemsOf_ bt (QF (QBp ty ?_)));rw[if_pos (by decide)];refine QF (HT.sliceApplied_gen ss g1 g2 ?_);rw[all.1,all.2];have yes:((((0:Nat):Int)==0&&(1:Int)==1&&(js.size - 0)==js.size)=true):=by simp
 show wpAny _ _ (if(((0:Nat):Int)==0&&(1:Int)==1&&(js.size - 0)==js.size)=true then _ else _) _ _ z;rw[if_pos yes];unfold Builtin.Tuple.tupleIsExact;refine QF (QF (QBp bt.typeIs (QW ?_)));rw[if_pos (by decide)];exact QF (QBc (QW ⟨_,rfl,QW c⟩))
theorem sl_whole:SlR X (rSlW X.K):=by
 rintro pn z σ H _ u u1 u2 lo hi sl Q I rx ss g1 g2 ⟨a,xs,rfl,sq,all,q⟩;cases rx;obtain⟨js,r,bt,_⟩:=I.tuple sq;have n:js.toArray.size=xs.length:=by rw[QO];exact r.length.symm
 exact⟨"tuple",_,WI.lookup,bt.typeIs,whole_tup bt ss g1 g2 (by rw[n];exact all) ⟨.ref a,H,I,rfl,q⟩⟩
noncomputable def rSl(K:QA):V->Option Int->Option Int->Hp->VK->Prop:=fun x lo hi H Q=>match x with
 | .str z=>z.length<=sizeLine/\Q (.str (WY z lo hi)) H
 | .ref a=>rSlL K (.ref a) lo hi H Q∨rSlT K (.ref a) lo hi H Q∨rSlW K (.ref a) lo hi H Q
 |_=>False
theorem sl_any:SlR X (rSl X.K):=by
 intro pins s σ H x v vl vu lo hi sl Q I rx hs pl pu h;cases x with
 |str z =>
  obtain⟨t,rfl⟩:=rx;obtain⟨hz,q⟩:=h;refine⟨"str",_,F.slot_str_getitem.lookup,QAC _ _ _,?_⟩;have fin:∀l u:Option (Int×Tok),l.map (·.1)=lo->u.map (·.1)=hi->s.heap.IsSlice sl l u none->wpAny (model X.prog X.w) X.A (getItem (.str z t) (.ref sl)) (EP X pins σ Q) X.xe s:=fun l u e1 e2 hsl=>by refine wpAny_getItem_str_slice hsl rfl ?_;subst e1 e2;exact post_val_or_str ⟨wF (QBs z _ _) hz,fun t' k=>⟨.str (WY z _ _),H,I.tok k,⟨_,rfl⟩,q⟩⟩
  obtain⟨o,ho,hc,hd⟩:=hs;cases pl with
  |none =>
   cases pu with
   |none=>exact fin none none rfl rfl ⟨o,ho,hc,hd⟩
   |int j tj=>exact fin none (some (j,tj)) rfl rfl ⟨o,ho,hc,hd⟩
  |int i ti =>
   cases pu with
   |none=>exact fin (some (i,ti)) none rfl rfl ⟨o,ho,hc,hd⟩
   |int j tj=>exact fin (some (i,ti)) (some (j,tj)) rfl rfl ⟨o,ho,hc,hd⟩
 |ref a =>
  rcases h with h|h|h
  rotate_left 2
  exact sl_whole pins s σ H _ v vl vu lo hi sl Q I rx hs pl pu h;exact sl_list pins s σ H _ v vl vu lo hi sl Q I rx hs pl pu h;exact sl_tup pins s σ H _ v vl vu lo hi sl Q I rx hs pl pu h
 |_=>exact QT h
theorem vals_strs:∀{l:List (Str×Tok)},aA (l.map fun p=>V.str p.1) (strValues l)
 |[]=>.nil
 |p::r=>.cons ⟨p.2,rfl⟩ vals_strs
theorem vals_strs'{l:List (Str×Tok)}{ts:List Str}(e:l.map (·.1)=ts):aA (ts.map V.str) (strValues l):=by subst e;rw[wW];exact vals_strs
noncomputable def rSplit:V->List V->Hp->VK->Prop:=fun x vs H Q=>match x,vs with
 | .str z,[.str y]=>z.length<=sizeLine/\0<y.length/\(qJ z y).length<=sizeLine/\∀p,H p=none->Q (.ref p) (FB H p (.lst ((qJ z y).map V.str)))
 |_,_=>False
theorem mt_split:MtR X "str.split" rSplit:=by
 intro pins s σ H x xs v us Q I rx rs h
 match x,xs,h with
 | .str z,[.str y],⟨hz,hy,hn,q⟩ =>
  obtain⟨t,rfl⟩:=rx;obtain⟨u,rfl,t',rfl⟩:=vals1 rs;have hy':(y.length==0)=false:=by simp;omega
  cases h1:(decide (z.length<y.length)||decide (QA5 z<QA5 y));cases hf:(qV z y 0 z.length (z.length+1)).isEmpty
  ·have e:qJ z y=Builtin.Str.partsBetween z (qV z y 0 z.length (z.length+1)) y.length:=(if_neg (ne_true_of_eq_false h1)).trans (if_neg (ne_true_of_eq_false hf))
   rw[e]at hn q;refine wO QAT (QAC s z t) QAE (Ww _ _) (meets_str_split_sep z y t t' h1 hy' hf hz hn) ?_;rw[strsFrom_eq];exact⟨.ref _,_,I.lnew (t':=_) (vals_strs' (numbered_texts _ _)) (by rw[QG];exact hn),rfl,q _ I.fresh⟩
  have e:qJ z y=[z]:=(if_neg (ne_true_of_eq_false h1)).trans (if_pos hf);rw[e]at hn q;refine wO QAT (QAC s z t) QAE (Ww _ _) (meets_str_split_not_found z y t t' h1 hy' hf) ?_;exact⟨.ref _,_,I.lnew (t':=s.toks) (ys:=[V.str z]) (its:=[.str z t]) (.cons ⟨t,rfl⟩ .nil) hn,rfl,q _ I.fresh⟩;have e:qJ z y=[z]:=if_pos h1;rw[e]at hn q;refine wO QAT (QAC s z t) QAE (Ww _ _) (meets_str_split_cannot_occur z y t t' h1) ?_;exact⟨.ref _,_,I.lnew (t':=s.toks) (ys:=[V.str z]) (its:=[.str z t]) (.cons ⟨t,rfl⟩ .nil) hn,rfl,q _ I.fresh⟩
end
inductive Src where
 |l (a:Addr)|t (a:Addr)
noncomputable def Src.adr:Src->Addr
 | .l a=>a
 | .t a=>a
noncomputable def HA(h:Heap)(j:Addr):Src->Nat->Prop
 | .l a,k=>h.IsListIter j a k
 | .t a,k=>h.IsTupleIter j a k
noncomputable def rA(h:Heap):Src->Array Value->Prop
 | .l a,xs=>h.IsList a xs
 | .t a,xs=>h.IsTuple a xs
theorem HA.ext{h h':Heap}{j b:Addr}{z:Src}{k:Nat}(x:HA h j z k)(e:QA6 b h h')(n:j≠b):HA h' j z k:=by
 cases z with
 |l a=>exact Heap.IsListIter.extBut x e n
 |t a=>exact Heap.IsTupleIter.extBut x e n
theorem HA.keep{h h':Heap}{j:Addr}{z:Src}{k:Nat}(x:HA h j z k)(e:∀o,h.get? j=some o->h'.get? j=some o):HA h' j z k:=by
 cases z with
 |l a=>obtain⟨o,g1,g2⟩:=x;exact⟨o,e o g1,g2⟩
 |t a=>obtain⟨o,g1,g2⟩:=x;exact⟨o,e o g1,g2⟩
theorem HA.obj{h:Heap}{j:Addr}{z:Src}{k:Nat}(x:HA h j z k):∃o,h.get? j=some o/\∀v,o.data≠.cell v:=by
 cases z with
 |l a=>obtain⟨o,g1,g2,g3⟩:=x;exact⟨o,g1,fun v q=>by rw[g3]at q;cases q⟩
 |t a=>obtain⟨o,g1,g2,g3⟩:=x;exact⟨o,g1,fun v q=>by rw[g3]at q;cases q⟩
theorem rA.ext{h h':Heap}{b:Addr}{z:Src}{xs:Array Value}(x:rA h z xs)(e:QA6 b h h')(n:z.adr≠b):rA h' z xs:=by
 cases z with
 |l a=>exact QA7.extBut x e n
 |t a=>exact Heap.IsTuple.extBut x e n
theorem rA.lt{h:Heap}{z:Src}{xs:Array Value}(x:rA h z xs):z.adr<h.objs.size:=by
 cases z with
 |l a=>obtain⟨o,g1,_⟩:=x;exact QV g1
 |t a=>obtain⟨o,g1,_⟩:=x;exact QV g1
theorem HA.lt{h:Heap}{j:Addr}{z:Src}{k:Nat}(x:HA h j z k):j<h.objs.size:=by obtain⟨o,g1,_⟩:=x.obj;exact QV g1
section
variable{prog:Program}{w:World}{A:Around}{E:xD}{s:Shared}
theorem nx_tup{j t:Addr}{k:Nat}{xs:Array Value}{x:Value}{Q:xD}(p:s.heap.IsTupleIter j t k)(pt:s.heap.IsTuple t xs)(px:xs[k]?=some x)
  (q:∀h',h'.IsTupleIter j t (k+1)->qt j s.heap h'->Q x { s with heap:=h' }):wpAny (model prog w) A (Qs (.ref j)) Q E s:=by
 obtain⟨ob,g1,g2,g3⟩:=id p;obtain⟨ot,t1,_,nt,t3⟩:=pt;unfold Qs;refine QF (qY (name:=QD "__next__") p.typeIs qd (wd qd p.typeIs WJ ?_ (WD _)));show wpAny _ _ (field (.ref j) 0 >>= _) _ _ _;refine QF (qX g1 g3 (x:=.ref t) rfl ?_);show wpAny _ _ (if(Value.ref t==Value.none)=true then _ else _) _ _ _;rw[if_neg (show ¬ (Value.ref t==Value.none)=true from QC)];show wpAny _ _ (field (.ref j) 1 >>= _) _ _ _;refine QF (qX g1 g3 (x:=.int k 0) rfl ?_);show wpAny _ _ (seqItems? (.ref t) >>= _) _ _ _;refine QF (wJ t1 t3 ?_);simp only[QAF,px];refine QF (wpAny_setField g1 g3 (by simp) (QW ⟨x,rfl,QW (q _ ?_ (QA8 ..))⟩));refine⟨_,QAg _ g1 (Obj.isFreed_of_fields (QBO g3 _)),(Obj.cls_mapFields ..).trans g2,?_⟩;rw[QBO g3];simp[rawInt]
theorem nx_tup_end{j t:Addr}{k:Nat}{xs:Array Value}{Q:xD}(ah:A.handled=none)(p:s.heap.IsTupleIter j t k)(pt:s.heap.IsTuple t xs)(px:xs[k]?=none)
  (q:∀h' e,QA6 j s.heap h'->(∃o,h'.get? e=some o/\o.cls=.type "StopIteration")->E (.ref e) { s with heap:=h' }):wpAny (model prog w) A (Qs (.ref j)) Q E s:=by
 obtain⟨ob,g1,g2,g3⟩:=id p;obtain⟨ot,t1,_,nt,t3⟩:=pt;unfold Qs;refine QF (qY (name:=QD "__next__") p.typeIs qd (wd qd p.typeIs WJ ?_ (WD _)));show wpAny _ _ (field (.ref j) 0 >>= _) _ _ _;refine QF (qX g1 g3 (x:=.ref t) rfl ?_);show wpAny _ _ (if(Value.ref t==Value.none)=true then _ else _) _ _ _;rw[if_neg (show ¬ (Value.ref t==Value.none)=true from QC)];show wpAny _ _ (field (.ref j) 1 >>= _) _ _ _;refine QF (qX g1 g3 (x:=.int k 0) rfl ?_);show wpAny _ _ (seqItems? (.ref t) >>= _) _ _ _;refine QF (wJ t1 t3 ?_);simp only[QAF,px];refine QF (QBc (QF (wpAny_setField g1 g3 (by simp) ?_)));refine QF (m:=newExc (.type "StopIteration") []) ?_;simp only[newExc,newTuple];refine QF (qy ?made (by size_fits));refine QF (m:=firstArgMember _ _) (wpAny_of_eq (a:=Value.none) (by first|rfl | (rw[firstArgMember];rfl)) ?arg);refine qy ?made2 (by size_fits);simp only[raiseNew];refine QF (wpAny_handled ?_);first|rw[show A.in1.handled=none from ah]|rw[ah]
 refine QF (QW (wpAny_throw (q _ _ (((QA8 ..).extBut.push _).push _) ⟨_,QY _ rfl,rfl⟩)))
theorem nx_item{j:Addr}{z:Src}{k:Nat}{xs:Array Value}{x:Value}{Q:xD}(p:HA s.heap j z k)(pt:rA s.heap z xs)(px:xs[k]?=some x)
  (q:∀h',HA h' j z (k+1)->qt j s.heap h'->Q x { s with heap:=h' }):wpAny (model prog w) A (Qs (.ref j)) Q E s:=by
 cases z with
 |l a=>exact wpAny_nextOf_list_item p pt px q
 |t a=>exact nx_tup p pt px q
theorem nx_end{j:Addr}{z:Src}{k:Nat}{xs:Array Value}{Q:xD}(ah:A.handled=none)(p:HA s.heap j z k)(pt:rA s.heap z xs)(px:xs[k]?=none)
  (q:∀h' e,QA6 j s.heap h'->(∃o,h'.get? e=some o/\o.cls=.type "StopIteration")->E (.ref e) { s with heap:=h' }):wpAny (model prog w) A (Qs (.ref j)) Q E s:=by
 cases z with
 |l a=>exact wpAny_nextOf_list_end ah p pt px q
 |t a=>exact nx_tup_end ah p pt px q
noncomputable def Src.it:Src->Obj
 | .l a=>{ cls:=.type "list_iterator",data:=.fields #[.ref a,.int 0 0] }
 | .t a=>{ cls:=.type "tuple_iterator",data:=.fields #[.ref a,.int 0 0] }
theorem nD{z:Src}{xs:Array Value}{Q:xD}(pt:rA s.heap z xs)(q:Q (.ref s.heap.objs.size) { s with heap:=s.heap.push z.it }):wpAny (model prog w) A (pyIter (.ref z.adr)) Q E s:=by
 cases z with
 |l a=>exact WT pt q
 |t a=>exact QBP pt q
theorem src_it0(h:Heap)(z:Src):HA (h.push z.it) h.objs.size z 0:=by
 cases z with
 |l a=>exact⟨_,QY _ rfl,rfl,rfl⟩
 |t a=>exact⟨_,QY _ rfl,rfl,rfl⟩
end
section
variable{prog:Program}{w:World}{A:Around}{E:xD}{s:Shared}
theorem sb_it{h h':Heap}{j b:Addr}{z:Src}{k:Nat}(x:HA h j z k)(e:qt b h h')(n:j≠b):HA h' j z k:=x.ext e.extBut n
theorem sb_has{h h':Heap}{b:Addr}{z:Src}{xs:Array Value}(x:rA h z xs)(e:qt b h h')(n:z.adr≠b):rA h' z xs:=x.ext e.extBut n
theorem zipS_item{z TI TO i1 i2:Addr}{z1 z2:Src}{k1 k2:Nat}{xs ys:Array Value}{x y a b:Value}{Q:xD}(D:ZipApart z TI TO i1 i2 z1.adr z2.adr)
  (hz:IsZip s.heap z TI TO .none) (pI:IsPair s.heap TI (.ref i1) (.ref i2)) (pO:IsPair s.heap TO a b) (p1:HA s.heap i1 z1 k1) (p2:HA s.heap i2 z2 k2) (q1:rA s.heap z1 xs) (q2:rA s.heap z2 ys)
  (ex:xs[k1]?=some x) (ey:ys[k2]?=some y)
  (q:∀h',IsZip h' z TI TO (rawInt s.heap.objs.size)->IsPair h' TO x y->HA h' i1 z1 (k1+1)->HA h' i2 z2 (k2+1)->IsPair h' s.heap.objs.size x y->h'.objs.size=s.heap.objs.size+1 ->
   (∀c o,c≠z->c≠TO->c≠i1->c≠i2->s.heap.get? c=some o->h'.get? c=some o)->Q (.ref s.heap.objs.size) { s with heap:=h' }) :
  wpAny (model prog w) A (Builtin.«zip.__next__» ⟨[.ref z],[]⟩) (fun fin s'=>∃v,fin=.done (.ret v)/\Q v s') E s:=by
 show wpAny (model prog w) A (field (.ref z) 2 >>= _) _ _ _;refine QF (qX hz rfl (x:=.bool false) rfl ?f2);show wpAny (model prog w) A (field (.ref z) 3 >>= _) _ _ _;refine QF (qX hz rfl (x:=.ref TI) rfl ?f3);refine QF (wJ pI rfl ?fi);show wpAny (model prog w) A (qR (.ref z) >>= _) _ _ _;refine QF ?free;unfold qR;refine QF (qX hz rfl (x:=.none) rfl (QW ?f0));simp only[if_true];refine QF (QBc ?ru);refine QF (qX hz rfl (x:=.ref TO) rfl ?fo);refine QF (wG hz (by simp) fun ha hza hsa=>?_);replace hza:IsZip ha z TI TO .ellipsis:=hza;refine QF ?lp;simp only[wy,QAj,Wm,W0];refine QF (QF (QAL ?r1));show wpAny (model prog w) A (Qs (.ref i1) >>= _) _ _ _;refine QF (nx_item (sb_it p1 hsa D.i1z) (sb_has q1 hsa D.l1z) ex fun hb p1b hsb=>QW ?_);have pOb:IsPair hb TO a b:=hsb.extBut _ _ D.TOi1 (hsa.extBut _ _ D.TOz pO);refine QF (wJ pOb rfl ?sb);refine QF (Wd pOb fun hc pOc hsc=>?_);replace pOc:IsPair hc TO x b:=pOc;refine QF (QCG (QW ?g1));refine QF (QF (QAL ?r2));show wpAny (model prog w) A (Qs (.ref i2) >>= _) _ _ _;refine QF (nx_item (sb_it (sb_it (sb_it p2 hsa D.i2z) hsb D.i12.symm) hsc D.TOi2.symm) (sb_has (sb_has (sb_has q2 hsa D.l2z) hsb D.l2i1) hsc D.l2TO) ey fun hd p2d hsd=>QW ?_);have pOd:IsPair hd TO x b:=hsd.extBut _ _ D.TOi2 pOc;refine QF (wJ pOd rfl ?sd);refine QF (Wd pOd fun he pOe hse=>?_);replace pOe:IsPair he TO x y:=pOe;refine QF (QCG (QW (QW ?g2)));refine QF (wJ pOe rfl ?se);refine QF (wpAny_newTuple ?nt);have size:he.objs.size=s.heap.objs.size:=by rw[hse.1,hsd.1,hsc.1,hsb.1,hsa.1]
 have hze:IsZip he z TI TO .ellipsis:=hse.extBut _ _ D.TOz.symm (hsd.extBut _ _ D.i2z.symm (hsc.extBut _ _ D.TOz.symm (hsb.extBut _ _ D.i1z.symm hza)));have kept:∀c o,c≠z->c≠TO->c≠i1->c≠i2->s.heap.get? c=some o->he.get? c=some o:=fun c o c1 c2 c3 c4 e=>hse.extBut _ _ c2 (hsd.extBut _ _ c4 (hsc.extBut _ _ c2 (hsb.extBut _ _ c3 (hsa.extBut _ _ c1 e))));have p1e:HA he i1 z1 (k1+1):=sb_it (sb_it (sb_it p1b hsc D.TOi1.symm) hsd D.i12) hse D.TOi1.symm;have p2e:HA he i2 z2 (k2+1):=sb_it p2d hse D.TOi2.symm;have zlt:z<he.objs.size:=QV hze;show wpAny (model prog w) A (wx (.ref z) (.ref he.objs.size) >>= _) _ _ _;refine QF ?ho;unfold wx;have hzf:IsZip (he.push { cls:=.type "tuple",data:=.seq #[x,y] }) z TI TO .ellipsis:=QE _ hze;refine QF (wG hzf (by simp) fun hg hzg hsg=>?_);replace hzg:IsZip hg z TI TO (rawInt he.objs.size):=hzg;refine wG hzg (by simp) fun hh hzh hsh=>?_;replace hzh:IsZip hh z TI TO (rawInt he.objs.size):=hzh;have up:∀c o,c≠z->he.get? c=some o->hh.get? c=some o:=fun c o c1 e=>hsh.extBut _ _ c1 (hsg.extBut _ _ c1 (QE _ e));have pT:IsPair hh he.objs.size x y:=hsh.extBut _ _ (WW zlt) (hsg.extBut _ _ (WW zlt) (QY _ rfl));have sizeh:hh.objs.size=he.objs.size+1:=by rw[hsh.1,hsg.1,qu]
 rw[size]at hzh pT sizeh;refine QW ⟨_,rfl,?_⟩;show Q (.ref he.objs.size) _;rw[size];exact q hh hzh (up _ _ D.TOz pOe) (p1e.keep fun o e=>up _ o D.i1z e) (p2e.keep fun o e=>up _ o D.i2z e) pT sizeh fun c o c1 c2 c3 c4 e=>up c o c1 (kept c o c1 c2 c3 c4 e)
theorem zipS_end{z TI TO i1 i2:Addr}{z1 z2:Src}{k1 k2:Nat}{xs ys:Array Value}{a b:Value}{Q:PySem.Fin->Shared->Prop}(ah:A.handled=none)(D:ZipApart z TI TO i1 i2 z1.adr z2.adr)
  (hz:IsZip s.heap z TI TO .none) (pI:IsPair s.heap TI (.ref i1) (.ref i2)) (pO:IsPair s.heap TO a b) (p1:HA s.heap i1 z1 k1) (p2:HA s.heap i2 z2 k2) (q1:rA s.heap z1 xs) (q2:rA s.heap z2 ys)
  (en:xs[k1]?=none∨ys[k2]?=none)
  (qE:∀h' e,(∀c o,c≠z->c≠TO->c≠i1->c≠i2->s.heap.get? c=some o->h'.get? c=some o)->(∃o,h'.get? e=some o/\o.cls=.type "StopIteration")->E (.ref e) { s with heap:=h' }) :
  wpAny (model prog w) A (Builtin.«zip.__next__» ⟨[.ref z],[]⟩) Q E s:=by
 show wpAny (model prog w) A (field (.ref z) 2 >>= _) _ _ _;refine QF (qX hz rfl (x:=.bool false) rfl ?f2);show wpAny (model prog w) A (field (.ref z) 3 >>= _) _ _ _;refine QF (qX hz rfl (x:=.ref TI) rfl ?f3);refine QF (wJ pI rfl ?fi);show wpAny (model prog w) A (qR (.ref z) >>= _) _ _ _;refine QF ?free;unfold qR;refine QF (qX hz rfl (x:=.none) rfl (QW ?f0));simp only[if_true];refine QF (QBc ?ru);refine QF (qX hz rfl (x:=.ref TO) rfl ?fo);refine QF (wG hz (by simp) fun ha hza hsa=>?_);replace hza:IsZip ha z TI TO .ellipsis:=hza;refine QF ?lp;simp only[wy,QAj,Wm,W0];refine QF (QF (QAL ?r1));show wpAny (model prog w) A (Qs (.ref i1) >>= _) _ _ _;cases ex:xs[k1]? with
 |none =>
  refine QF (nx_end ah (sb_it p1 hsa D.i1z) (sb_has q1 hsa D.l1z) ex fun hb e hsb he=>?_);obtain⟨oe,e1,e2⟩:=he;have hzb:IsZip hb z TI TO .ellipsis:=hsb _ _ D.i1z.symm hza;have ne:e≠z:=fun x=>by subst x;rw[hzb]at e1;cases e1;simp at e2
  refine wG hzb (by simp) fun hc _ hsc=>qE hc e (fun c o c1 _ c3 _ x=>hsc.extBut _ _ c1 (hsb _ _ c3 (hsa.extBut _ _ c1 x))) ⟨oe,hsc.extBut _ _ ne e1,e2⟩
 |some x =>
  have ey:ys[k2]?=none:=by rcases en with h|h;rw[ex]at h;cases h;exact h
  refine QF (nx_item (sb_it p1 hsa D.i1z) (sb_has q1 hsa D.l1z) ex fun hb p1b hsb=>QW ?_);have pOb:IsPair hb TO a b:=hsb.extBut _ _ D.TOi1 (hsa.extBut _ _ D.TOz pO);refine QF (wJ pOb rfl ?sb);refine QF (Wd pOb fun hc pOc hsc=>?_);refine QF (QCG (QW ?g1));refine QF (QF (QAL ?r2));show wpAny (model prog w) A (Qs (.ref i2) >>= _) _ _ _;refine QF (nx_end ah (sb_it (sb_it (sb_it p2 hsa D.i2z) hsb D.i12.symm) hsc D.TOi2.symm) (sb_has (sb_has (sb_has q2 hsa D.l2z) hsb D.l2i1) hsc D.l2TO) ey fun hd e hsd he=>?_);obtain⟨oe,e1,e2⟩:=he;have hzd:IsZip hd z TI TO .ellipsis:=hsd _ _ D.i2z.symm (hsc.extBut _ _ D.TOz.symm (hsb.extBut _ _ D.i1z.symm hza));have ne:e≠z:=fun x=>by subst x;rw[hzd]at e1;cases e1;simp at e2
  refine wG hzd (by simp) fun hf _ hsf=>qE hf e (fun c o c1 c2 c3 c4 x=>hsf.extBut _ _ c1 (hsd _ _ c4 (hsc.extBut _ _ c2 (hsb.extBut _ _ c3 (hsa.extBut _ _ c1 x))))) ⟨oe,hsf.extBut _ _ ne e1,e2⟩
theorem zipS_next{z TI TO i1 i2:Addr}{z1 z2:Src}{k1 k2:Nat}{xs ys:Array Value}{x y a b:Value}{Q:Option Value->Shared->Prop}(D:ZipApart z TI TO i1 i2 z1.adr z2.adr)
  (hz:IsZip s.heap z TI TO .none) (pI:IsPair s.heap TI (.ref i1) (.ref i2)) (pO:IsPair s.heap TO a b) (p1:HA s.heap i1 z1 k1) (p2:HA s.heap i2 z2 k2) (q1:rA s.heap z1 xs) (q2:rA s.heap z2 ys)
  (ex:xs[k1]?=some x) (ey:ys[k2]?=some y)
  (q:∀h',IsZip h' z TI TO (rawInt s.heap.objs.size)->IsPair h' TO x y->HA h' i1 z1 (k1+1)->HA h' i2 z2 (k2+1)->IsPair h' s.heap.objs.size x y->h'.objs.size=s.heap.objs.size+1 ->
   (∀c o,c≠z->c≠TO->c≠i1->c≠i2->s.heap.get? c=some o->h'.get? c=some o)->Q (some (.ref s.heap.objs.size)) { s with heap:=h' }):wpAny (model prog w) A (pyNext (.ref z)) Q E s:=by
 have ht:s.TypeIs (.ref z) "zip":=⟨_,hz,rfl⟩
 unfold pyNext;exact QF (wpAny_attempt (qY (name:=QD "__next__") ht wn (wd wn ht QAZ
  (zipS_item D hz pI pO p1 p2 q1 q2 ex ey fun h' a1 a2 a3 a4 a5 a6 a7=>QW (q h' a1 a2 a3 a4 a5 a6 a7)) (QAM _))))
theorem zipS_done{z TI TO i1 i2:Addr}{z1 z2:Src}{k1 k2:Nat}{xs ys:Array Value}{a b:Value}{Q:Option Value->Shared->Prop}(ah:A.handled=none)(D:ZipApart z TI TO i1 i2 z1.adr z2.adr)
  (hz:IsZip s.heap z TI TO .none) (pI:IsPair s.heap TI (.ref i1) (.ref i2)) (pO:IsPair s.heap TO a b) (p1:HA s.heap i1 z1 k1) (p2:HA s.heap i2 z2 k2) (q1:rA s.heap z1 xs) (q2:rA s.heap z2 ys)
  (en:xs[k1]?=none∨ys[k2]?=none) (q:∀h',(∀c o,c≠z->c≠TO->c≠i1->c≠i2->s.heap.get? c=some o->h'.get? c=some o)->Q none { s with heap:=h' }):wpAny (model prog w) A (pyNext (.ref z)) Q E s:=by
 have ht:s.TypeIs (.ref z) "zip":=⟨_,hz,rfl⟩
 unfold pyNext;refine QF (wpAny_attempt (qY (name:=QD "__next__") ht wn (wd wn ht QAZ
  (zipS_end ah D hz pI pO p1 p2 q1 q2 en fun h' e hk he=>?_) (QAM _))))
 obtain⟨o,ho,hc⟩:=he;exact QF (wpAny_isInstance (T:="StopIteration") (b:=true) ⟨o,ho,hc⟩ isSubtype_stop (QW (q _ hk)))
end
noncomputable abbrev zh1(h:Heap)(z1:Src):Heap:=h.push z1.it
noncomputable abbrev zh2(h:Heap)(z1 z2:Src):Heap:=(zh1 h z1).push z2.it
noncomputable abbrev zh3(h:Heap)(z1 z2:Src):Heap:=(zh2 h z1 z2).push { cls:=.type "tuple",data:=.seq #[.ref h.objs.size,.ref (zh1 h z1).objs.size] }
noncomputable abbrev zh4(h:Heap)(z1 z2:Src):Heap:=(zh3 h z1 z2).push { cls:=.type "tuple",data:=.seq #[.none,.none] }
noncomputable abbrev zh5(h:Heap)(z1 z2:Src):Heap:=(zh4 h z1 z2).push { cls:=.type "zip",data:=.fields #[.none,.bool false,.bool false,.ref (zh2 h z1 z2).objs.size,.ref (zh3 h z1 z2).objs.size] }
theorem rA.push{h:Heap}{z:Src}{xs:Array Value}(x:rA h z xs)(o:Obj):rA (h.push o) z xs:=by
 cases z with
 |l a=>exact QA7.push x o
 |t a=>exact Heap.IsTuple.push x o
theorem zipS_new(z1 z2:Src)(xs ys:Array Value):Meets (Builtin.«zip.__new__» ⟨[.type "zip",.ref z1.adr,.ref z2.adr],[]⟩) (fun _ R s=>rA s.heap z1 xs/\rA s.heap z2 ys /\
   R (.ok (.ret (.ref (zh4 s.heap z1 z2).objs.size))) { s with heap:=zh5 s.heap z1 z2 }) :=
 .of_wp fun prog w A R s h=>by obtain⟨hp,g,d,tk,os⟩:=s;obtain⟨q1,q2,h⟩:=h;have hsub:=sub_zip;have hL1:rA (QA9 ⟨hp,g,d,tk,os⟩) z1 xs:=q1;have hL2:rA (QA9 ⟨hp.push z1.it,g,d,tk,os⟩) z2 ys:=rA.push q2 _;wp_walk using nD hL1,nD hL2;exact⟨_,rfl,h⟩
section
variable{X:Cx}{pins:rC}{σ:St}{H:Hp}{s:Shared}{h':Heap}
theorem _root_.L2.Inv.turnedL{t':Nat}{ch:List Addr}(I:Inv X pins σ H s)(k:∀b o,b∉ch->s.heap.get? b=some o->h'.get? b=some o)(f:∀b∈ch,FpOk X pins H b):Inv X pins σ H { s with heap:=h',toks:=t' }:=by
 have away:∀b u,H b=some u->b∉ch:=fun b u e z=>by rw[(f b z).1]at e;cases e
 have hL:X.env.locals∉ch:=fun z=>(f _ z).2.1 rfl;refine I.step (g':=s.gens) (d':=s.drawn) (ch:=ch) (fun b hb=>?_) (fun b o _ _ hc e _=>k b o hc e) (fun b o _ _ hc e _=>⟨o.slots,k b o hc e⟩) (fun _ _ _ _ n=>n)
  (fun b o hc e=>⟨o,k b o hc e⟩) (fun _ _ e=>e) (fun _ _ _ e=>e) (fun b ps e=>⟨#[],by rw[e];simp⟩) (fun m hm=>?_) (fun b u e=>?_) I.bare
 obtain⟨_,f1,_,f3,f4,f5⟩:=f b hb;exact⟨f3,f1,f4,f5⟩;obtain⟨o,es,ep,ho,r⟩:=hm;exact⟨o,es,ep,k _ o hL ho,r⟩;refine(I.hok b u e).stay (fun c v hc q=>k c v ?_ q) (fun _ q=>q) fun _ _ q=>q;rcases hc with z|z;rw[z];exact away b u e;exact away c _ z
noncomputable def SqS(K:QA)(H:Hp):Src->List V->Prop
 | .l a,xs=>SqL K H a xs
 | .t a,xs=>SqT K H a xs
theorem _root_.L2.Inv.src(I:Inv X pins σ H s){z:Src}{xs:List V}(h:SqS X.K H z xs):∃its:List Value,aA xs its/\rA s.heap z its.toArray/\xs.length<=sizeLine:=by
 cases z with
 |l a=>obtain⟨its,rv,p,hz⟩:=I.list h;exact⟨its,rv,p.isList,hz⟩
 |t a=>obtain⟨its,rv,p,hz⟩:=I.tuple h;exact⟨its,rv,p,hz⟩
theorem _root_.L2.Inv.src_inj(I:Inv X pins σ H s){z:Src}{xs ys:List V}(h:SqS X.K H z xs)(h':SqS X.K H z ys):xs=ys:=by
 cases z with
 |l a=>exact I.list_inj h h'
 |t a=>exact I.tuple_inj h h'
theorem _root_.L2.Inv.pair{p:Addr}{a b:Value}{x y:V}{t':Nat}(I:Inv X pins σ H s)(k:∀b u,s.heap.get? b=some u->h'.get? b=some u)(hp:s.heap.objs.size<=p)(ho:h'.get? p=some { cls:=.type "tuple",data:=.seq #[a,b] })(ra:FA x a)(rb:FA y b) :
  Inv X pins σ (FB H p (.tup [x,y])) { s with heap:=h',toks:=t' } :=
 I.laid k hp ⟨by rw[QZ];show 2<=_;decide,[a,b],.cons ra (.cons rb .nil),_,ho,rfl,_,rfl⟩
end
noncomputable def Itz(K:QA)(z1 z2:Src):It :=
  ⟨fun i H=>∃xs ys x y,SqS K H z1 xs/\SqS K H z2 ys/\xs[i]?=some x/\ys[i]?=some y,
   fun i H v H'=>∃p x y,H p=none/\v=.ref p/\H'=FB H p (.tup [x,y])/\∀xs ys,SqS K H z1 xs->SqS K H z2 ys->xs[i]?=some x/\ys[i]?=some y,
   fun i H=>∃xs ys,SqS K H z1 xs/\SqS K H z2 ys/\(xs.length<=i∨ys.length<=i)⟩
def ZipSt(z TI TO i1 i2:Addr)(z1 z2:Src)(f0:Value)(i:Nat)(h:Heap):Prop:=IsZip h z TI TO f0/\IsPair h TI (.ref i1) (.ref i2)/\(∃a b,IsPair h TO a b)/\HA h i1 z1 i/\HA h i2 z2 i
theorem ZipSt.keep{z TI TO i1 i2:Addr}{z1 z2:Src}{f0:Value}{i:Nat}{h h':Heap}(st:ZipSt z TI TO i1 i2 z1 z2 f0 i h)(k:∀b∈[z,TI,TO,i1,i2],∀o,h.get? b=some o->h'.get? b=some o):ZipSt z TI TO i1 i2 z1 z2 f0 i h':=by obtain⟨a1,a2,⟨u,v,a3⟩,a4,a5⟩:=st;exact⟨k z (by simp) _ a1,k TI (by simp) _ a2,⟨u,v,k TO (by simp) _ a3⟩,a4.keep fun o e=>k i1 (by simp) o e,a5.keep fun o e=>k i2 (by simp) o e⟩
theorem turn_zip{P:Program}{w:World}{K:QA}{es:List Expr}{kk:Nat}{pp:Pos}{z TI TO i1 i2:Addr}{z1 z2:Src}(D:ZipApart z TI TO i1 i2 z1.adr z2.adr) :
  Turn P w K (.Tuple es kk pp) (Itz K z1 z2) [z,TI,TO,i1,i2] z (ZipSt z TI TO i1 i2 z1 z2 .none) where
 mem:=by simp
 obj:=fun i h st b hb=>by obtain⟨a1,a2,⟨u,v,a3⟩,a4,a5⟩:=st;simp only[QI,QR,or_false]at hb;rcases hb with rfl|rfl|rfl|rfl|rfl;exact⟨_,a1,fun v q=>by cases(show Data.fields _=Data.cell v from q)⟩;exact⟨_,a2,fun v q=>by cases(show Data.seq _ _=Data.cell v from q)⟩;exact⟨_,a3,fun v q=>by cases(show Data.seq _ _=Data.cell v from q)⟩;exact a4.obj;exact a5.obj
 keep:=fun i h h' st k=>st.keep k
 item:=by
  intro X hP hw hK hc i pins s σ H E I hf st hg;subst hP hw hK;obtain⟨xs,ys,x,y,h1,h2,ex,ey⟩:=hg;obtain⟨its,rv,sh1,_⟩:=I.src h1;obtain⟨jts,rw',sh2,_⟩:=I.src h2;obtain⟨u,hu,ru⟩:=rv.get ex;obtain⟨v,hv,rvv⟩:=rw'.get ey;obtain⟨a1,a2,⟨c,d,a3⟩,a4,a5⟩:=st;refine zipS_next D a1 a2 a3 a4 a5 sh1 sh2 (x:=u) (y:=v) (by simpa using hu) (by simpa using hv) fun h' b1 b2 b3 b4 b5 b6 b7=>?_;refine⟨_,rfl,wpAny_letOwnedTupleGo_zip b1 fun h'' c1 sb=>?_⟩;have kept:∀b o,b∉[z,TI,TO,i1,i2]->s.heap.get? b=some o->h''.get? b=some o:=fun b o hb e=>by simp only[QI,QR,or_false,not_or]at hb;exact(sb.2 b hb.1).trans (b7 b o hb.1 hb.2.2.1 hb.2.2.2.1 hb.2.2.2.2 e)
  have hp:=I.hok.fresh (QX s.heap.objs.size);have zlt:z<s.heap.objs.size:=QV a1;have pairAt:h''.get? s.heap.objs.size=some { cls:=.type "tuple",data:=.seq #[u,v] }:=(sb.2 _ (WW zlt)).trans b5;have old:∀b∈[z,TI,TO,i1,i2],b<s.heap.objs.size:=fun b hb=>by simp only[QI,QR,or_false]at hb;rcases hb with rfl|rfl|rfl|rfl|rfl;exact zlt;exact QV a2;exact QV a3;exact a4.lt;exact a5.lt
  have I1:=I.pair (h':=s.heap.push { cls:=.type "tuple",data:=.seq #[u,v] }) (t':=s.toks) (fun b o e=>QE _ e) (QX _) (QY _ rfl) ru rvv;have I2:=I1.turnedL (h':=h'') (t':=s.toks) (ch:=[z,TI,TO,i1,i2]) (fun b o hb e=>by
   rcases QAq e with⟨q1,q2⟩| q;subst q1 q2;exact pairAt;exact kept b o hb q) fun b hb=>by
   obtain⟨f0,f1,f2,f3,f4,f5⟩:=hf b hb;exact⟨by rw[fA (Qu (old b hb))];exact f0,f1,f2,f3,f4,f5⟩
  refine⟨.ref s.heap.objs.size,_,I2,rfl,⟨s.heap.objs.size,x,y,hp,rfl,rfl,fun xs' ys' g1 g2=>?_⟩,⟨c1,?_,⟨_,_,(sb.2 _ D.TOz).trans b2⟩,b3.keep fun o e=>(sb.2 _ D.i1z).trans e,b4.keep fun o e=>(sb.2 _ D.i2z).trans e⟩,fun b hb=>?_⟩;rw[I.src_inj g1 h1,I.src_inj g2 h2];exact⟨ex,ey⟩;exact(sb.2 _ D.TIz).trans (b7 _ _ D.TIz D.TITO D.TIi1 D.TIi2 a2);rw[fA (Qu (old b hb))];exact(hf b hb).1
 done:=by
  intro X hP hw hK hc i pins s σ H E I hf st hg;subst hP hw hK;obtain⟨xs,ys,h1,h2,en⟩:=hg;obtain⟨its,rv,sh1,_⟩:=I.src h1;obtain⟨jts,rw',sh2,_⟩:=I.src h2;obtain⟨a1,a2,⟨c,d,a3⟩,a4,a5⟩:=st;have l1:=rv.length;have l2:=rw'.length;have en':its.toArray[i]?=none∨jts.toArray[i]?=none:=by rcases en with q|q;exact .inl (by simp;omega);exact .inr (by simp;omega)
  refine zipS_done (I.ok.hd hc) D a1 a2 a3 a4 a5 sh1 sh2 en' fun h' kp=>⟨rfl,I.turnedL (t':=s.toks) (ch:=[z,TI,TO,i1,i2]) (fun b o hb e=>?_) hf⟩
  simp only[QI,QR,or_false,not_or]at hb;exact kp b o hb.1 hb.2.2.1 hb.2.2.2.1 hb.2.2.2.2 e
 self:=fun _ _ _ _ _ st h=>QB3 st.1 h
theorem drawsS{prog:Program}{w:World}{A:Around}(ah:A.handled=none)(j:Addr)(z:Src)(ne:z.adr≠j)(items:Array Value)(c:Nat) :
  Draws prog w A j [j,z.adr] (c+items.size) (fun i v=>∃k,i=c+k/\items[k]?=some v) (fun i h=>∃k,i=c+k/\HA h j z k/\rA h z items) where
 live:=fun _ _ ⟨_,_,p,_⟩=>let⟨o,e,_⟩:=p.obj;⟨o,e⟩
 frame:=fun _ h h' ⟨k,e,p,q⟩ kp=>⟨k,e,p.keep fun o x=>kp j (by simp) o x,by
  cases z with
  |l a=>exact QA7.at q fun o x=>kp a (by simp[Src.adr]) o x
  |t a=>obtain⟨o,g1,g2⟩:=q;exact⟨o,kp a (by simp[Src.adr]) o g1,g2⟩⟩
 item:=fun i s Q E hi ⟨k,e,p,q⟩ hQ=>by
  have hk:k<items.size:=by omega
  exact nx_item p q (x:=items[k]) (by simp[hk]) fun h' p' sb=>hQ _ h' s.toks ⟨k,e,by simp[hk]⟩ ⟨k+1,by omega,p',sb_has q sb ne⟩ sb
 done:=fun s Q E ⟨k,e,p,q⟩ hE=>by
  have hk:k=items.size:=by omega
  exact nx_end ah p q (by simp[hk]) hE
theorem drawsE{prog:Program}{w:World}{A:Around}(ah:A.handled=none)(j:Addr)(z:Src)(items:Array Value)(n k:Nat)(hx:items[k]?=none) :
  Draws prog w A j [j,z.adr] n (fun _ _=>False) (fun i h=>i=n/\HA h j z k/\rA h z items) where
 live:=fun _ _ ⟨_,p,_⟩=>let⟨o,e,_⟩:=p.obj;⟨o,e⟩
 frame:=fun _ h h' ⟨e,p,q⟩ kp=>⟨e,p.keep fun o x=>kp j (by simp) o x,by
  cases z with
  |l a=>exact QA7.at q fun o x=>kp a (by simp[Src.adr]) o x
  |t a=>obtain⟨o,g1,g2⟩:=q;exact⟨o,kp a (by simp[Src.adr]) o g1,g2⟩⟩
 item:=fun i s Q E hi ⟨e,_,_⟩ hQ=>absurd hi (by omega)
 done:=fun s Q E ⟨_,p,q⟩ hE=>nx_end ah p q hx hE
noncomputable def Ite(K:QA)(z:Src)(c:Nat):It :=
  ⟨fun i H=>∃xs x,SqS K H z xs/\xs[i]?=some x,
   fun i H v H'=>∃p x,H p=none/\v=.ref p/\H'=FB H p (.tup [.int ((c+i:Nat):Int),x])/\∀xs,SqS K H z xs->xs[i]?=some x,
   fun i H=>∃xs,SqS K H z xs/\xs.length<=i⟩
def EnumSt(e j:Addr)(z:Src)(c i:Nat)(h:Heap):Prop:=(∃old,IsEnum h e j ((c+i:Nat):Int) old)/\HA h j z i
theorem turn_enum{P:Program}{w:World}{K:QA}{es:List Expr}{kk:Nat}{pp:Pos}{e j:Addr}{z:Src}{c:Nat}(n1:e≠j)(n2:z.adr≠e)(n3:z.adr≠j) :
  Turn P w K (.Tuple es kk pp) (Ite K z c) [e,j] e (EnumSt e j z c) where
 mem:=by simp
 obj:=fun i h st b hb=>by obtain⟨⟨old,a1⟩,a2⟩:=st;simp only[QI,QR,or_false]at hb;rcases hb with rfl|rfl;exact⟨_,a1,fun v q=>by cases(show Data.fields _=Data.cell v from q)⟩;exact a2.obj
 keep:=fun i h h' st k=>by obtain⟨⟨old,a1⟩,a2⟩:=st;exact⟨⟨old,k e (by simp) _ a1⟩,a2.keep fun o x=>k j (by simp) o x⟩
 item:=by
  intro X hP hw hK hc i pins s σ H E I hf st hg;subst hP hw hK;obtain⟨xs,x,h1,ex⟩:=hg;obtain⟨its,rv,sh,_⟩:=I.src h1;obtain⟨u,hu,ru⟩:=rv.get ex;obtain⟨⟨old,a1⟩,a2⟩:=st;have hi:i<its.toArray.size:=by have:=(Qj.mp hu).1;simpa using this
  refine wpAny_pyNext_enum_itemD (drawsS (show X.A.in1.handled=none from I.ok.hd hc) j z n3 its.toArray c) a1 ⟨i,rfl,a2,sh⟩ (by omega) n1 (by simp[n1,Q4 n2]) fun y h' tk ⟨k,ek,hy⟩ b1 b2 b3 b4 b5=>?_;have ek:k=i:=by omega
  subst ek;have ey:y=u:=by
   have:its.toArray[k]?=some u:=by simpa using hu
   rw[this]at hy;exact(Qw hy).symm
  subst ey;refine⟨_,rfl,wpAny_letOwnedTupleGo_enum b1 fun h'' c1 sb=>?_⟩;obtain⟨k2,ek2,b2,b2'⟩:=b2;have ek2:k2=k+1:=by omega
  subst ek2;have hp:=I.hok.fresh (QX s.heap.objs.size);have elt:e<s.heap.objs.size:=QV a1;have old':∀b∈[e,j],b<s.heap.objs.size:=fun b hb=>by simp only[QI,QR,or_false]at hb;rcases hb with rfl|rfl;exact elt;exact a2.lt
  have kept:∀b o,b∉[e,j]->s.heap.get? b=some o->h''.get? b=some o:=fun b o hb q=>by simp only[QI,QR,or_false,not_or]at hb;exact(sb.2 b hb.1).trans (b5 b o hb.1 hb.2 q)
  have pairAt:h''.get? s.heap.objs.size=some { cls:=.type "tuple",data:=.seq #[.int ((c+k:Nat):Int) tk,y] }:=(sb.2 _ (WW elt)).trans b3;have I1:=I.pair (x:=.int ((c+k:Nat):Int)) (h':=s.heap.push { cls:=.type "tuple",data:=.seq #[.int ((c+k:Nat):Int) tk,y] }) (t':=tk+1) (fun b o e=>QE _ e) (QX _) (QY _ rfl) ⟨_,rfl⟩ ru;have I2:=I1.turnedL (h':=h'') (t':=tk+1) (ch:=[e,j]) (fun b o hb e=>by
   rcases QAq e with⟨q1,q2⟩| q;subst q1 q2;exact pairAt;exact kept b o hb q) fun b hb=>by
   obtain⟨f0,f1,f2,f3,f4,f5⟩:=hf b hb;exact⟨by rw[fA (Qu (old' b hb))];exact f0,f1,f2,f3,f4,f5⟩
  refine⟨.ref s.heap.objs.size,_,I2,rfl,⟨s.heap.objs.size,x,hp,rfl,rfl,fun xs' g1=>?_⟩,⟨⟨y,?_⟩,b2.keep fun o q=>(sb.2 _ (Q4 n1)).trans q⟩,fun b hb=>?_⟩;rw[I.src_inj g1 h1];exact ex;have:(((c+(k+1):Nat)):Int)=((c+k:Nat):Int)+1:=by omega
  rw[this];exact c1;rw[fA (Qu (old' b hb))];exact(hf b hb).1
 done:=by intro X hP hw hK hc i pins s σ H E I hf st hg;subst hP hw hK;obtain⟨xs,h1,en⟩:=hg;obtain⟨its,rv,sh,_⟩:=I.src h1;obtain⟨⟨old,a1⟩,a2⟩:=st;have l1:=rv.length;obtain⟨f0,f1,f2,f3,f4,f5⟩:=hf j (by simp);exact wpAny_pyNext_enum_endD (drawsE (show X.A.in1.handled=none from I.ok.hd hc) j z its.toArray 0 i (by simp;omega)) a1 ⟨rfl,a2,sh⟩ fun h' eb=>⟨rfl,I.turned (t':=s.toks) (fun b o hb e=>eb b o hb e) f0 f1 f3 f4 f5⟩
 self:=fun _ _ _ _ _ st h=>by obtain⟨⟨old,a1⟩,_⟩:=st;exact QBd a1 h
section
variable{prog:Program}{w:World}{A:Around}{E:xD}{s:Shared}
theorem call_zipS{z1 z2:Src}{xs ys:Array Value}{Q:xD}(q1:rA s.heap z1 xs)(q2:rA s.heap z2 ys)
  (h:∀h',ZipSt (s.heap.objs.size+4) (s.heap.objs.size+2) (s.heap.objs.size+3) s.heap.objs.size (s.heap.objs.size+1) z1 z2 .none 0 h'->(∀c o,s.heap.get? c=some o->h'.get? c=some o)->Q (.ref (s.heap.objs.size+4)) { s with heap:=h' }) :
  wpAny (model prog w) A (call (.type "zip") [.ref z1.adr,.ref z2.adr]) Q E s:=by
 refine callType_new PySem.F.called_zip (by decide) (PySem.F.typeCall_zip_2 _ _) (PySem.F.newCall_zip_2 _ _) (fun obj=>PySem.F.args_object_init_3 obj _ _) PySem.F.entry_zip_new (zipS_new z1 z2 xs ys) ⟨q1,q2,?_⟩;have s1:(zh1 s.heap z1).objs.size=s.heap.objs.size+1:=qu ..;have s2:(zh2 s.heap z1 z2).objs.size=s.heap.objs.size+2:=by rw[qu,s1]
 have s3:(zh3 s.heap z1 z2).objs.size=s.heap.objs.size+3:=by rw[qu,s2]
 have s4:(zh4 s.heap z1 z2).objs.size=s.heap.objs.size+4:=by rw[qu,s3]
 have g5:(zh5 s.heap z1 z2).get? (zh4 s.heap z1 z2).objs.size=some _:=QY _ rfl;have g4:(zh5 s.heap z1 z2).get? (zh3 s.heap z1 z2).objs.size=some _:=QE _ (QY _ rfl);have g3:(zh5 s.heap z1 z2).get? (zh2 s.heap z1 z2).objs.size=some _:=QE _ (QE _ (QY _ rfl));have g2:HA (zh5 s.heap z1 z2) (zh1 s.heap z1).objs.size z2 0:=(src_it0 (zh1 s.heap z1) z2).keep fun o e=>QE _ (QE _ (QE _ e));have g1:HA (zh5 s.heap z1 z2) s.heap.objs.size z1 0:=(src_it0 s.heap z1).keep fun o e=>QE _ (QE _ (QE _ (QE _ e)));show _/\_;rw[s2,s3,s4]at g5;rw[s1,s2]at g3;rw[s3]at g4;rw[s1]at g2;rw[s4];exact⟨⟨_,g5,rfl⟩,h _ ⟨g5,g3,⟨_,_,g4⟩,g1,g2⟩ fun c o x=>QE _ (QE _ (QE _ (QE _ (QE _ x))))⟩
end
theorem enumS_new(z:Src)(xs:Array Value):Meets (Builtin.«enumerate.__new__» ⟨[.type "enumerate",.ref z.adr],[]⟩) (fun _ R s=>rA s.heap z xs /\
   R (.ok (.ret (.ref (s.heap.push z.it).objs.size))) { s with heap:=(s.heap.push z.it).push { cls:=.type "enumerate",data:=.fields #[.none,.bool false,.ref s.heap.objs.size,rawInt 0,.none,.none] } }) :=
 .of_wp fun prog w A R s h=>by
  obtain⟨hp,g,d,tk,os⟩:=s;obtain⟨q1,h⟩:=h;have hsub:=sub_enumerate;have hL1:rA (QA9 ⟨hp,g,d,tk,os⟩) z xs:=q1;wp_walk;refine wpAny_stack_any fun st=>QW ?_;split;rename_i cl _ _ _ _ _;cases(cl==Value.type "enumerate")<;>(wp_walk using nD hL1;exact⟨_,rfl,h⟩)
  wp_walk using nD hL1;exact⟨_,rfl,h⟩
theorem enumS_new1(z:Src)(xs:Array Value)(n:Int)(t:Tok)(hn:qr n=true):Meets (Builtin.«enumerate.__new__» ⟨[.type "enumerate",.ref z.adr],[("start",.int n t)]⟩) (fun _ R s=>rA s.heap z xs /\
   R (.ok (.ret (.ref (s.heap.push z.it).objs.size))) { s with heap:=(s.heap.push z.it).push { cls:=.type "enumerate",data:=.fields #[.none,.bool false,.ref s.heap.objs.size,rawInt n,.none,.none] } }) :=
 .of_wp fun prog w A R s h=>by
  obtain⟨hp,g,d,tk,os⟩:=s;obtain⟨q1,h⟩:=h;have hsub:=sub_enumerate;have hL1:rA (QA9 ⟨hp,g,d,tk,os⟩) z xs:=q1;wp_walk;refine wpAny_stack_any fun st=>QW ?_;split;rename_i cl _ _ _ _ _;cases(cl==Value.type "enumerate")<;>(wp_walk using nD hL1;(try simp only[hn,wt,Qk,if_false]);wp_walk using nD hL1;exact⟨_,rfl,h⟩)
  wp_walk using nD hL1;(try simp only[hn,wt,Qk,if_false]);wp_walk using nD hL1;exact⟨_,rfl,h⟩
section
variable{prog:Program}{w:World}{A:Around}{E:xD}{s:Shared}
theorem callKw{T newId initId:String}{Bn Bi:Builtin}{args:List Value}{kw:List (Str×Value)}{S:wE}{Q Q₁:xD}(ft:TypeCalled T newId initId)(hct:checkTypeCall T ⟨args,kw⟩=pure ())(hcn:checkBuiltinCall newId ⟨.type T::args,kw⟩=pure ())
  (eN:entryFor table newId=some Bn) (eI:entryFor table initId=some Bi) (g:Meets (Bn ⟨.type T::args,kw⟩) S) (h:S A.in1 (wants Q₁ E) s)
  (hnx:∀obj s₁,Q₁ obj s₁->s₁.TypeIs obj T/\argsOk initId ⟨obj::args,kw⟩/\∃Si,Meets (Bi ⟨obj::args,kw⟩) Si/\Si A.in1 (wants (fun r s₂=>r=.none/\Q obj s₂) E) s₁):wpAny (model prog w) A (call (.type T) args kw) Q E s:=by
 obtain⟨c,tl,hmro⟩:=ft.mro;have hmade:=ft.made;have hsub:=ft.sub;refine wpAny_call (codeAny_of_tree ?tr);show wpAny _ _ (callAny (.type T) ⟨args,kw⟩) _ _ _;refine QW ⟨Code.quiet_builtin _ (by decide +kernel),codeAny_builtin PySem.F.entry_type_call ?bt⟩;rw[Around.under_plain (weight_type_call_type T args kw) (units_type_call_type T args kw)];have h1:=ft.notType;have h2:=ft.canCreate
 repeat any_goals (first|assumption|wp_step)
 refine Wu (QAr ft.plain eN (wpAny_of_eq hcn (g prog w A.in1 _ s h))) fun r s₁ hr=>?_;cases r with
 |error e=>exact hr
 |ok fl =>
  cases fl with
  |ret obj =>
   obtain⟨hT,hok,Si,gi,hsi⟩:=hnx _ _ hr;have hli:=ft.init.lookup;have hbi:=ft.init.bind obj
   repeat any_goals (first|assumption|wp_step)
   refine Wu (QAr ft.init.plain eI (ft.init.check _ _ _ _ _ _ _ _ hT hok (gi prog w A.in1 _ s₁ hsi))) fun r2 s2 hr2=>?_;cases r2 with
   |error e=>exact hr2
   |ok fl2 =>
    cases fl2 with
    |ret r =>
     obtain⟨rfl,hq⟩:=hr2
     repeat any_goals (first|assumption|wp_step)
    |_=>exact hr2.elim
  |_=>exact hr.elim
end
theorem ct_enum1(a v:Value):checkTypeCall "enumerate" ⟨[a],[("start",v)]⟩=pure ():=by kernel_rfl
theorem cn_enum1(a v:Value):checkBuiltinCall "enumerate.__new__" ⟨[.type "enumerate",a],[("start",v)]⟩=pure ():=by kernel_rfl
theorem ao_kw(a b v:Value):argsOk "object.__init__" ⟨[a,b],[("start",v)]⟩:=by unfold argsOk;rw[signature?_of (id:="object.__init__") (n:="__init__".toList.reverse) (o:="object".toList.reverse) (by kernel_rfl) PySem.F.owner_object];kernel_rfl
theorem oi_kw{T newId:String}{self a:Value}{kw:List (Str×Value)}(hl:typeLookup (.type T) "__init__"=pure (some (.builtin "object.__init__")))(hm:Bind.madeBy (.type T)=pure (some newId))(hne:(some newId != some "object.__new__")=true) :
  Meets (Builtin.«object.__init__» ⟨[self,a],kw⟩) (fun _ R s=>s.TypeIs self T/\R (.ok (.ret .none)) s):=by
 refine Meets.of_wp fun prog w A R s hs=>?_;obtain⟨hT,hq⟩:=hs
 repeat any_goals (first|assumption|wp_step)
 exact⟨_,rfl,hq⟩
section
variable{prog:Program}{w:World}{A:Around}{E:xD}{s:Shared}
theorem enum_at{h:Heap}{z:Src}{n:Int}:IsEnum ((h.push z.it).push { cls:=.type "enumerate",data:=.fields #[.none,.bool false,.ref h.objs.size,rawInt n,.none,.none] }) (h.objs.size+1) h.objs.size n .none:=by have:=QY (h.push z.it) (o:={ cls:=.type "enumerate",data:=.fields #[.none,.bool false,.ref h.objs.size,rawInt n,.none,.none] }) rfl;rw[qu]at this;exact this
theorem call_enumS{z:Src}{xs:Array Value}{Q:xD}(q1:rA s.heap z xs)
  (h:∀h',EnumSt (s.heap.objs.size+1) s.heap.objs.size z 0 0 h'->(∀c o,s.heap.get? c=some o->h'.get? c=some o)->Q (.ref (s.heap.objs.size+1)) { s with heap:=h' }):wpAny (model prog w) A (call (.type "enumerate") [.ref z.adr]) Q E s:=by
 refine callType_new wP (by decide) (PySem.F.typeCall_enumerate_1 _) (PySem.F.newCall_enumerate_1 _) (fun obj=>PySem.F.args_object_init_2 obj _) Wo (enumS_new z xs) ⟨q1,?_⟩;show _/\_;rw[qu];exact⟨⟨_,enum_at,rfl⟩,h _ ⟨⟨.none,enum_at⟩,(src_it0 s.heap z).keep fun o e=>QE _ e⟩ fun c o x=>QE _ (QE _ x)⟩
theorem call_enumS1{z:Src}{xs:Array Value}{n:Nat}{t:Tok}{Q:xD}(hn:qr (n:Int)=true)(q1:rA s.heap z xs)
  (h:∀h',EnumSt (s.heap.objs.size+1) s.heap.objs.size z n 0 h'->(∀c o,s.heap.get? c=some o->h'.get? c=some o)->Q (.ref (s.heap.objs.size+1)) { s with heap:=h' }):wpAny (model prog w) A (call (.type "enumerate") [.ref z.adr] [("start",.int n t)]) Q E s:=by
 refine callKw (Q₁:=fun obj s₁=>s₁.TypeIs obj "enumerate"/\Q obj s₁) wP (ct_enum1 _ _) (cn_enum1 _ _) Wo PySem.F.entry_object_init (enumS_new1 z xs n t hn) ⟨q1,?_⟩ fun obj _ hq=>⟨hq.1,ao_kw _ _ _,_,oi_kw wP.init.lookup wP.made (by decide),hq.1,rfl,hq.2⟩
 show _/\_;rw[qu];exact⟨⟨_,enum_at,rfl⟩,h _ ⟨⟨.none,enum_at⟩,(src_it0 s.heap z).keep fun o e=>QE _ e⟩ fun c o x=>QE _ (QE _ x)⟩
theorem callWith_tyKw{M:Model}{A:Around}{E:xD}{s:Shared}{env:Env}{pos:Pos}{T:String}{e v:Expr}{nm:Str}{kp:Pos}{Q:xD}
  (he:starEach [e] env=[(false,eval e env)])
  (h:wpAny M A (spliced (backTo pos (starEach [e] env))) (fun vs s₁=>wpAny M A (eval v env) (fun kv s₂=>wpAny M A (call (.type T) vs [(nm,kv)]) Q E s₂) E s₁) E s) :
  wpAny M A (callWith pos (.type T) [] (backTo pos (starEach [e] env)) (backToKw pos (keywordEach [⟨some nm,v,kp⟩] env))) Q E s:=by
 unfold callWith;have ev:wpAny M A (evalArgs (.type T) true (backTo pos (starEach [e] env)) (backToKw pos (keywordEach [⟨some nm,v,kp⟩] env))) (fun a s₁=>wpAny M A (call (.type T) ([]++a.pos) a.kw) Q E s₁) E s:=by rw[he]at h ⊢;refine evalArgs_kwB (by rfl) (qw h (fun vs s₁ h₁=>?_) fun _ _ x=>x);exact kws_cons (qw h₁ (fun kv s₂ h₂=>kws_nil h₂) fun _ _ x=>x)
 refine QF (wu (qw ev (fun a s₁ h₁=>QF (QAI ?st)) fun _ _ x=>x));have pl:((backTo pos (starEach [e] env)).any (·.1)||(backToKw pos (keywordEach [⟨some nm,v,kp⟩] env)).any (·.1.isNone))=false:=by rw[he];rfl
 simp only[Bool.or_eq_false_iff]at pl;simp only[pl.1,pl.2,QBG];refine QF (QW ?pr);exact QF (qw h₁ (fun r s₂ hr=>QF (wu (wpAny_point (QW hr)))) fun _ _ x=>x)
end
theorem nne{a b:Nat}(h:a≠b):((a:Addr)≠(b:Addr)):=h
theorem zipOf_apart{n l1 l2:Nat}(h1:l1<n)(h2:l2<n):ZipApart ((n+4:Nat):Addr) ((n+2:Nat):Addr) ((n+3:Nat):Addr) (n:Addr) ((n+1:Nat):Addr) (l1:Addr) (l2:Addr):=by constructor<;>(apply nne;omega)
def DcAt(P:Program)(w:World)(K:QA)(a:Addr)(kvs:List (Str×V)):Prop :=
 (a==sysModules)=false/\∃us:List (Str×Value),KV kvs us/\∀h:Heap,K.In h->h.DictOf (WK P w) a us
theorem kv_look{kvs:List (Str×V)}{us:List (Str×Value)}(r:KV kvs us)(x:Str):RelO (kvs.lookup x) (valueAt us x):=by
 unfold KV at r;induction r with
 |nil=>exact True.intro
 |@cons p q ps qs h t ih =>
  obtain⟨h1,h2⟩:=h;obtain⟨p1,p2⟩:=p;obtain⟨q1,q2⟩:=q;have h1:p1=q1:=h1;subst h1;by_cases e:p1=x;subst e;have l:valueAt ((p1,q2)::qs) p1=some q2:=by simp[valueAt]
  have m:QAK p1 ((p1,p2)::ps)=some p2:=by simp
  rw[l,m];exact h2;have l:valueAt ((p1,q2)::qs) x=valueAt qs x:=by simp[valueAt,e]
  have e':(x==p1)=false:=by simpa using fun z=>e z.symm
  have m:QAK x ((p1,p2)::ps)=QAK x ps:=by rw[qM,e']
  rw[l,m];exact ih
theorem relO_d{o:Option V}{u:Option Value}(r:RelO o u):FA (o.getD .non) (u.getD .none):=by
 cases o with
 |none=>cases u with
  |none=>rfl
  |some _=>exact(show False from r).elim
 |some _=>cases u with
  |none=>exact(show False from r).elim
  |some _=>exact r
section
variable{X:Cx}{a:Addr}{kvs:List (Str×V)}
theorem ix_const(D:DcAt X.prog X.w X.K a kvs):IxR X (fun x y H Q=>∃z v,x=.ref a/\y=.str z/\kvs.lookup z=some v/\Q v H):=by
 intro value slice pins s σ H x y v u Q I rx ry h hs;obtain⟨z,r,rfl,rfl,l,q⟩:=h;cases rx;obtain⟨t,rfl⟩:=ry;obtain⟨hd,us,rel,dd⟩:=D;have dd:=dd _ I.kIn;have rl:=kv_look rel z;rw[l]at rl;cases eu:valueAt us z with
 |none=>rw[eu]at rl;exact(show False from rl).elim
 |some w' =>
  rw[eu]at rl;exact WP (x:=w') dd.typeIs PySem.F.slot_dict_getitem.lookup
   (wpAny_getItem_of (Q:=fun r s'=>r=w'/\EP X pins σ Q r s') (QCL X.prog X.w z t) dd.mapOf eu ⟨rfl,r,H,I.tok _,rl,q⟩) hs
theorem pe_cget{o e:Expr}{ty:TE}{apos cpos:Pos}(D:DcAt X.prog X.w X.K a kvs)(ho:PE X o fun _ H Q=>Q (.ref a) H)(he:PE X e ty)
  (hbase:attributeBase o "get" X.env (eval o X.env)=eval o X.env)
  (hfew:((backTo cpos (starEach [e] X.env)).all (fun x=>!x.1)&&(backToKw cpos (keywordEach [] X.env)).all (fun x=>x.1.isSome)
   && decide (([e]:List Expr).length+([]:List Keyword).length+(if([]:List Keyword).isEmpty then 0 else 1)<30))=true)
  (hline:(apos.endLine==cpos.line)=true) (hs:starEach [e] X.env=[(false,eval e X.env)]) :
  PE X (.Call (.Attribute o "get" apos) [e] [] cpos) (fun σ H Q=>ty σ H fun y H1=>∃z,y=.str z/\Q ((kvs.lookup z).getD .non) H1):=by
 intro pins s σ H Q I h;refine WQ hbase hfew hline rfl (VB (ho pins s σ H (fun x H1=>x=.ref a/\ty σ H1 fun y H2=>∃z,y=.str z/\Q ((kvs.lookup z).getD .non) H2) I ⟨rfl,h⟩) fun v s1 ⟨x,H1,I1,r1,ex,q1⟩=>?_);subst ex;obtain rfl:v=Value.ref a:=r1;obtain⟨hd,us,rel,dd0⟩:=D;have d1:=dd0 _ I1.kIn;refine⟨"dict",_,QAN,wo,QAk,d1.typeIs,fun b q=>?_,?_⟩;cases q;obtain⟨ob,_,_,g1,g2,_⟩:=d1;exact⟨ob,g1,g2.2.1⟩;rw[hs];refine wf rfl (Wc (WH (VB (he pins s1 σ H1 _ I1 q1) fun iv s2 ⟨y,H2,I2,ry,z,ey,q2⟩=>W9 ?_)));subst ey;obtain⟨t,rfl⟩:=ry;have d2:=dd0 _ I2.kIn;refine call_meetsIn wo d2.typeIs QAa (PySem.F.args_dict_get_2 _ _) (meets_dict_get (WK X.prog X.w) a (QCL X.prog X.w z t) hd) ⟨_,d2.mapOf,_,H2,I2.tok _,?_,q2⟩;exact relO_d (kv_look rel z)
theorem relO_dd{o:Option V}{u:Option Value}{d:V}{w:Value}(r:RelO o u)(rd:FA d w):FA (o.getD d) (u.getD w):=by
 cases o with
 |none=>cases u with
  |none=>exact rd
  |some _=>exact(show False from r).elim
 |some _=>cases u with
  |none=>exact(show False from r).elim
  |some _=>exact r
theorem pe_cgetD{o e e':Expr}{ty ty':TE}{apos cpos:Pos}(D:DcAt X.prog X.w X.K a kvs)(ho:PE X o fun _ H Q=>Q (.ref a) H)(he:PE X e ty)(he':PE X e' ty')
  (hbase:attributeBase o "get" X.env (eval o X.env)=eval o X.env)
  (hfew:((backTo cpos (starEach [e,e'] X.env)).all (fun x=>!x.1)&&(backToKw cpos (keywordEach [] X.env)).all (fun x=>x.1.isSome)
   && decide (([e,e']:List Expr).length+([]:List Keyword).length+(if([]:List Keyword).isEmpty then 0 else 1)<30))=true)
  (hline:(apos.endLine==cpos.line)=true) (hs:starEach [e,e'] X.env=[(false,eval e X.env),(false,eval e' X.env)]) :
  PE X (.Call (.Attribute o "get" apos) [e,e'] [] cpos) (fun σ H Q=>ty σ H fun y H1=>ty' σ H1 fun d H2=>∃z,y=.str z/\Q ((kvs.lookup z).getD d) H2):=by
 intro pins s σ H Q I h;refine WQ hbase hfew hline rfl (VB (ho pins s σ H (fun x H1=>x=.ref a/\ty σ H1 fun y H2=>ty' σ H2 fun d H3=>∃z,y=.str z/\Q ((kvs.lookup z).getD d) H3) I ⟨rfl,h⟩) fun v s1 ⟨x,H1,I1,r1,ex,q1⟩=>?_);subst ex;obtain rfl:v=Value.ref a:=r1;obtain⟨hd,us,rel,dd0⟩:=D;have d1:=dd0 _ I1.kIn;refine⟨"dict",_,QAN,wo,QAk,d1.typeIs,fun b q=>?_,?_⟩;cases q;obtain⟨ob,_,_,g1,g2,_⟩:=d1;exact⟨ob,g1,g2.2.1⟩;rw[hs];refine wf rfl (Wc (WH (VB (he pins s1 σ H1 _ I1 q1) fun iv s2 ⟨y,H2,I2,ry,q2⟩=>WH (VB (he' pins s2 σ H2 _ I2 q2) fun dv s3 ⟨d,H3,I3,rd,z,ey,q3⟩=>W9 ?_))));subst ey;obtain⟨t,rfl⟩:=ry;have d2:=dd0 _ I3.kIn;refine call_meetsIn wo d2.typeIs QAa (PySem.F.args_dict_get_3 _ _ _) (meets_dict_get_default (WK X.prog X.w) a (QCL X.prog X.w z t) hd dv) ⟨_,d2.mapOf,_,H3,I3.tok _,?_,q3⟩;exact relO_dd (kv_look rel z) rd
end
theorem noFill_tup:fillsNumberSlot (.type "tuple") "mul"=pure false :=
 PySem.fillsNumberSlot_seq (id:="tuple.__mul__") (r:=some (.builtin "tuple.__rmul__")) Wa.lookup (by decide +kernel) QBe.lookup (by decide +kernel)
theorem rep_tup:seqRepeat? (.type "tuple")=pure (some (.builtin "tuple.__mul__")):=by unfold seqRepeat?;rw[QB4 (T:="tuple") (name:="__mul__") (id:="tuple.__mul__") Wa.lookup (by decide +kernel),QB4 (T:="tuple") (name:="__rmul__") (id:="tuple.__rmul__") QBe.lookup (by decide +kernel)];rfl
theorem irm_tup(i:Int)(t:Tok)(l:Addr)(o:Obj)(items:Array Value)(n:Nat)(hc:o.cls=.type "tuple")(hd:o.data=.seq items n) :
  Meets (Builtin.«int.__rmul__» ⟨[.int i t,.ref l],[]⟩) (fun _ R s=>s.heap.get? l=some o/\R (.ok (.ret Value.notImplemented)) s) :=
 .of_wp fun prog w A R s h=>by obtain⟨hp,g,d,tk,os⟩:=s;obtain⟨hl,h⟩:=h;obtain⟨cl,od,dt,sl⟩:=o;simp only at hc hd;subst hc hd;wp_walk;exact⟨_,rfl,h⟩
theorem tmul_1(l:Addr)(o:Obj)(items:Array Value)(n:Nat)(t:Tok)(hc:o.cls=.type "tuple")(hd:o.data=.seq items n) :
  Meets (Builtin.«tuple.__mul__» ⟨[.ref l,.int 1 t],[]⟩) (fun _ R s=>s.heap.get? l=some o/\R (.ok (.ret (.ref l))) s) :=
 .of_wp fun prog w A R s h=>by obtain⟨hp,g,d,tk,os⟩:=s;obtain⟨hl,h⟩:=h;obtain⟨cl,od,dt,sl⟩:=o;simp only at hc hd;subst hc hd;wp_walk;exact⟨_,rfl,h⟩
theorem tmul_n(l:Addr)(o:Obj)(items:Array Value)(n:Nat)(k:Int)(t:Tok)(hc:o.cls=.type "tuple")(hd:o.data=.seq items n)(h0:items.isEmpty=false)(h1:2<=k)(h2:k<2 ^ 31)(h3:items.size * k.toNat<=sizeLine)(h4:(Wl (fun x1 x2=>x1++x2) #[] (QH k.toNat items)).size<=sizeLine) :
  Meets (Builtin.«tuple.__mul__» ⟨[.ref l,.int k t],[]⟩) (fun _ R s=>s.heap.get? l=some o/\R (.ok (.ret (.ref s.heap.objs.size))) { s with heap:=s.heap.push { cls:=Value.type "tuple",data:=Data.seq (Wl (fun x1 x2=>x1++x2) #[] (QH k.toNat items)) },toks:=s.toks }) :=
 .of_wp fun prog w A R s h=>by
  obtain⟨hp,g,d,tk,os⟩:=s;obtain⟨hl,h⟩:=h;obtain⟨cl,od,dt,sl⟩:=o;simp only at hc hd;subst hc hd;have e1:decide (k < -(2 ^ 63:Int))=false:=dF (by omega);have e2:decide (k ≥ 2 ^ 63)=false:=dF (by omega);have e3:(k==1)=false:=by simp;omega
  have e4:decide (k<=0)=false:=dF (by omega);have e:((items.size * k.toNat:Nat):Int)=(items.size:Int) * k:=by rw[QCF,QA3 (by omega)]
  have hz:sizeLine=16777216:=QZ;have c4:¬ ((items.size:Int) * k > (2 ^ 63 - 1) / 8):=by omega
  have c5:¬ wv ((items.size:Int) * k)=true:=by
   have e6:wv ((items.size:Int) * k)=false:=by unfold wv;exact dF (by omega)
   rw[e6];exact QC
  have c1:¬ (decide (k < -2 ^ 63)||decide (k ≥ 2 ^ 63))=true:=by rw[e1,e2];exact QC
  have c2:¬ (items.isEmpty||k==1)=true:=by rw[h0,e3];exact QC
  have c3:¬ (decide (k<=0)||items.isEmpty)=true:=by rw[h0,e4];exact QC
  have c6:=Nat.not_lt.mpr h4;clear e1 e2 e3 e4 h0 h1 h2 h3 h4 e hz;wp_walk;rw[if_neg c1];wp_walk;rw[if_neg c4];wp_walk;exact⟨_,rfl,h⟩
section
variable{X:Cx}
noncomputable def rTMul(K:QA):R2:=fun x y H Q=>match x,y with
 | .ref a,.int k=>∃xs,SqT K H a xs/\xs≠[]/\(1<=k/\k<2 ^ 31/\xs.length * k.toNat<=sizeLine)/\(k=1->Q (.ref a) H)/\(k≠1->∀p,H p=none->Q (.ref p) (FB H p (.tup (QH k.toNat xs).flatten)))
 |_,_=>False
theorem op_tmul:OpR X (binaryOp .Mult) (rTMul X.K):=by
 intro pins s σ H x y v u Q I rx ry h;cases x with
 |ref a =>
  cases y with
  |int k =>
   obtain⟨xs,hq,hn,⟨h1,h2,h3⟩,q1,q2⟩:=h;cases rx;obtain⟨t,rfl⟩:=ry;obtain⟨its,r,⟨o,ho,hc,n,hd⟩,hz⟩:=I.tuple hq;have hl:=r.length;have go:∀{Q':xD},wpAny (model X.prog X.w) X.A (call (.builtin "tuple.__mul__") [.ref a,.int k t]) Q' X.xe s->wpAny (model X.prog X.w) X.A (binaryOp .Mult (.ref a) (.int k t)) Q' X.xe s:=fun {Q'} hh =>
    W5 (T:="tuple") (U:="int") (by decide) ⟨_,ho,hc⟩ (fun s'=>QAp s' k t) noFill_tup QCE Wn rep_tup QBz.lookup
     (wO Wn (QAp s k t) QB0 (QBb _ _) (irm_tup k t a o its.toArray n hc hd) ⟨ho,rfl,⟨_,ho,hc⟩,hh⟩)
   refine go ?_;by_cases hk:k=1;subst hk;exact wO Wa ⟨_,ho,hc⟩ QBf (QBQ _ _) (tmul_1 a o its.toArray n t hc hd) ⟨ho,.ref a,H,I,rfl,q1 rfl⟩;have hnew:Wl (fun x1 x2=>x1++x2) #[] (QH k.toNat its.toArray)=(QH k.toNat its).flatten.toArray:=by have:=foldl_rep its k.toNat [];rw[Q3]at this;exact this
   have hne:its.toArray.isEmpty=false:=by
    cases its with
    |nil=>cases xs with
     |nil=>exact absurd rfl hn
     |cons _ _=>simp at hl
    |cons _ _=>rfl
   have hsz:(QH k.toNat its).flatten.length<=sizeLine:=by rw[len_rep,QBr,<- hl];exact h3
   refine wO Wa ⟨_,ho,hc⟩ QBf (QBQ _ _) (tmul_n a o its.toArray n k t hc hd hne (by omega) h2 (by rw[QO,<- hl];exact h3) (by rw[hnew,QO];exact hsz)) ⟨ho,?_⟩;rw[hnew];refine⟨.ref s.heap.objs.size,_,I.laid (t':=s.toks) (o:=.tup (QH k.toNat xs).flatten) (fun _ _ q=>QE _ q) (QX _) ?_,rfl,q2 hk _ I.fresh⟩;exact⟨by rw[len_rep,QBr];exact h3,_,r.rep k.toNat,QCB _ _⟩
  |_=>exact QT h
 |_=>exact QT h
end
inductive Bi where
 |len|all|any|int|str|max|list|tuple
 deriving DecidableEq
inductive Mt where
 |split|append|rstrip|join|extend|insert|clear
 deriving DecidableEq
inductive Prm where
 |dget (x:Str)|dix (x:Str)|tmul|dgetD (x:Str)
 deriving DecidableEq
inductive ItK where
 |val|rng1|rng3|zip2|enumA|enum
 deriving DecidableEq
inductive Tg where
 |nm (i:Nat)|tp (is:List Nat)
 deriving DecidableEq
set_option genSizeOf false in
set_option genInjectivity false in
inductive PX where
 |var (i:Nat)|int (i:Int)|str (x:Str)|bl (b:Bool)|non
 |glo (x:Str)|bty (x:Str) (n:String)
 |bin (op:Operator) (a b:PX)
 |cmp (op:CmpOp) (a b:PX)|chn (o p:CmpOp) (a b c:PX)
 |and (a b:PX)|or (a b:PX)|not (a:PX)|ife (c a b:PX)
 |call (f:Str) (as:PX)
 |bi (f:Bi) (as:PX)|isi (a c:PX)|prm (o:Prm) (as:PX)
 |mt (m:Mt) (o as:PX)
 |idx (a b:PX)|slc (a lo hi:PX)|nop
 |lst (as:PX)|tup (as:PX)
 |comp (mask:List Bool) (tgs:List Str) (tg:Tg) (ik:ItK) (its cond elt:PX)
 |nh|ng (a as:PX)|eff (a:PX)
structure Ev where
 sp:Str->Sp
 va:Str->V
 dc:Str->Option (List (Str×V))
structure W3 where
 e:TE
 t:TT
 a:TA
noncomputable def never:W3:=⟨fun _ _ _=>False,fun _ _ _=>False,fun _ _ _=>False⟩
def truQ(K:QA)(x:V)(H:Hp)(Q:Bool->Hp->Prop):Prop:=match x with
 | .bl b=>Q b H
 | .int i=>Q (i != 0) H
 | .non=>Q false H
 | .str z=>z.length<=sizeLine/\Q ((z.length:Int) != 0) H
 |x=>∃k,TruV K x H k/\Q k H
def asB(x:V)(H:Hp)(Q:Bool->Hp->Prop):Prop:=match x with
 | .bl b=>Q b H
 |_=>False
noncomputable def binR(K:QA):Operator->R2
 | .Add=>rAdd K
 | .Sub=>rSub
 | .Mult=>rMul K
 | .FloorDiv=>rFdiv
 | .Mod=>rMod
 | .Pow=>rPow
 |_=>fun _ _ _ _=>False
noncomputable def isNoneR(neg:Bool):R2:=fun x y H Q=>match y with
 | .non=>Q (.bl (if neg then !decide (x=.non) else decide (x=.non))) H
 |_=>False
noncomputable def cmpR(K:QA):CmpOp->R2
 | .Eq=>rEq K false
 | .NotEq=>rEq K true
 | .Lt=>rOrd fun i j=>decide (i<j)
 | .LtE=>rOrd fun i j=>decide (i<=j)
 | .Gt=>rOrd fun i j=>decide (j<i)
 | .GtE=>rOrd fun i j=>decide (j<=i)
 | .In=>rInU K false
 | .NotIn=>rInU K true
 | .Is=>isNoneR false
 | .IsNot=>isNoneR true
noncomputable def rIxU(K:QA):R2:=fun x y H Q=>match x,y with
 | .str z,.int i=>z.length<=sizeLine/\∃c,uC z.cps.toList i=some c/\Q (.str ⟨#[c]⟩) H
 | .ref a,.int i=>∃xs v,(SqL K H a xs∨SqT K H a xs)/\uC xs i=some v/\Q v H
 |_,_=>False
noncomputable def rInt:List V->Hp->VK->Prop:=fun vs H Q=>match vs with
 |[.int i]=>Q (.int i) H
 |[.bl b]=>Q (.int (if b then 1 else 0)) H
 |[.str z]=>z.length<=640/\∃n,intText? z=some n/\Q (.int n) H
 |_=>False
noncomputable def rStr:List V->Hp->VK->Prop:=fun vs H Q=>match vs with
 |[.int i]=>i.natAbs.log2<1920/\Q (.str (toString i)) H
 |[.str z]=>Q (.str z) H
 |_=>False
noncomputable def rMax(g:Bool):List V->Hp->VK->Prop:=fun vs H Q=>match vs with
 |[.int i,.int j]=>Q (.int (if g then(if j > i then j else i) else(if j<i then j else i))) H
 |_=>False
noncomputable def rListOf(K:QA):List V->Hp->VK->Prop:=fun vs H Q=>∃p ys,vs=[.ref p]/\(SqL K H p ys∨SqT K H p ys)/\∀l,H l=none->Q (.ref l) (FB H l (.lst ys))
noncomputable def rTupOf(K:QA):List V->Hp->VK->Prop:=fun vs H Q=>∃p ys,vs=[.ref p]/\((SqL K H p ys/\∀l,H l=none->Q (.ref l) (FB H l (.tup ys)))∨(SqT K H p ys/\Q (.ref p) H))
noncomputable def biR(K:QA):Bi->List V->Hp->VK->Prop
 | .len=>rLen K
 | .all=>rAll K
 | .int=>rInt
 | .str=>rStr
 | .max=>rMax true
 | .any=>rAny K
 | .list=>rListOf K
 | .tuple=>rTupOf K
noncomputable def rAppU:V->List V->Hp->VK->Prop:=fun x vs H Q=>match x,vs with
 | .ref l,[y]=>∃xs,H l=some (.lst xs)/\xs.length<sizeLine/\Q .non (FB H l (.lst (xs++[y])))
 |_,_=>False
noncomputable def rRstrip:V->List V->Hp->VK->Prop:=fun x vs H Q=>match x,vs with
 | .str z,[]=>z.length<=sizeLine/\Q (.str (WB z)) H
 |_,_=>False
noncomputable def rExtU:V->List V->Hp->VK->Prop:=fun x vs H Q=>∃l b xs zs,x=.ref l/\vs=[.ref b]/\H l=some (.lst xs)/\H b=some (.lst zs)/\xs.length+zs.length<=sizeLine/\Q .non (FB H l (.lst (xs++zs)))
noncomputable def insAt{α:Type}(xs:List α)(k:Nat)(y:α):List α:=xs.take k++y::xs.drop k
noncomputable def rInsU:V->List V->Hp->VK->Prop:=fun x vs H Q=>∃l i y xs,x=.ref l/\vs=[.int i,y]/\H l=some (.lst xs)/\(0<=i/\i<=xs.length)/\xs.length<sizeLine/\Q .non (FB H l (.lst (insAt xs i.toNat y)))
noncomputable def rJoin(K:QA):V->List V->Hp->VK->Prop:=fun x vs H Q=>∃z b,∃ys:List Str,x=.str z/\vs=[.ref b]/\SqL K H b (ys.map V.str)/\(ys.map (·.length)).sum+ys.length * z.length<=16777216/\Q (.str (WL z ys)) H
noncomputable def mtR(K:QA):Mt->V->List V->Hp->VK->Prop
 | .split=>rSplit
 | .append=>rAppU
 | .rstrip=>rRstrip
 | .join=>rJoin K
 | .extend=>rExtU
 | .insert=>rInsU
 | .clear=>rClear
noncomputable def Mt.ty:Mt->String
 | .split=>"str"
 | .rstrip=>"str"
 | .join=>"str"
 | .extend=>"list"
 | .insert=>"list"
 | .clear=>"list"
 | .append=>"list"
def partQ(x:V)(H:Hp)(Q:Option Int->Hp->Prop):Prop:=match x with
 | .int i=>Q (some i) H
 |_=>False
noncomputable def rngN(i j k:Int):Nat:=if i<j then((j - i - 1) / k+1).toNat else 0
inductive Item where
 |one (v:V)|tup (vs:List V)
noncomputable def uB(K:QA):ItK->List V->Hp->(List Item->(Hp->Prop)->Hp->Prop)->Prop
 | .val,[.str z],H,R=>R (z.cps.toList.map fun c=>.one (.str ⟨#[c]⟩)) (fun _=>True) H
 | .val,[.ref a],H,R=>(∃xs,SqL K H a xs/\R (xs.map .one) (fun H=>SqL K H a xs) H)∨(∃xs,SqT K H a xs/\R (xs.map .one) (fun H=>SqT K H a xs) H)
 | .rng1,[.int j],H,R=>(-(2 ^ 62)<=j/\j<2 ^ 62)/\R ((Qc j.toNat).map fun(i:Nat)=>.one (.int (i:Int))) (fun _=>True) H
 | .rng3,[.int i,.int j,.int k],H,R=>(-(2 ^ 62)<=i/\i<2 ^ 62/\-(2 ^ 62)<=j/\j<2 ^ 62/\0<k/\k<1000)/\R ((Qc (rngN i j k)).map fun(m:Nat)=>.one (.int (i+(m:Int) * k))) (fun _=>True) H
 | .zip2,[.ref a,.ref b],H,R=>∃z1 z2 xs ys,Src.adr z1=a/\Src.adr z2=b/\SqS K H z1 xs/\SqS K H z2 ys/\R ((xs.zip ys).map fun p=>.tup [p.1,p.2]) (fun H=>SqS K H z1 xs/\SqS K H z2 ys) H
 | .enum,[.ref a],H,R=>∃z xs,Src.adr z=a/\SqS K H z xs/\R (xs.zipIdx.map fun p=>.tup [.int (p.2:Int),p.1]) (fun H=>SqS K H z xs) H
 | .enumA,[.ref a,.int n],H,R=>∃z xs,Src.adr z=a/\SqS K H z xs/\(0<=n/\n<2 ^ 62)/\R (xs.zipIdx.map fun p=>.tup [.int (((n.toNat+p.2:Nat)):Int),p.1]) (fun H=>SqS K H z xs) H
 |_,_,_,_=>False
noncomputable def fB:List Nat->List V->St->Option St
 |[],[],σ=>some σ
 |i::is,v::vs,σ=>fB is vs (σ.set i (some v))
 |_,_,_=>none
noncomputable def bindT(K:QA):Tg->TG
 | .nm i=>fun v σ H Q=>Q (σ.set i (some v)) H
 | .tp is=>fun v σ H Q=>match v with
  | .ref p=>∃xs σ',SqT K H p xs/\fB is xs σ=some σ'/\Q σ' H
  |_=>False
noncomputable def bindI(K:QA)(tg:Tg):Item->St->Hp->(St->Hp->Prop)->Prop
 | .one v=>bindT K tg v
 | .tup vs=>fun σ H Q=>match tg with
  | .tp is=>∀H',Same H H'->∃σ',fB is vs σ=some σ'/\Q σ' H'
  | .nm i=>∀p,H p=none->Q (σ.set i (some (.ref p))) (FB H p (.tup vs))
def compR(K:QA)(xs:List Item)(st:Hp->Prop)(bind:Item->St->Hp->(St->Hp->Prop)->Prop)(tc:TT)(te:TE)(σ:St)(H:Hp)(Q:VK):Prop :=
 ∃W:Nat->List V->Hp->Prop,W 0 [] H/\(∀i acc H,i<=xs.length->W i acc H->st H) /\
  (∀i x acc H,xs[i]?=some x->W i acc H->bind x σ H fun σ2 H2=>tc σ2 H2 fun b H3=>if b=true then te σ2 H3 fun y H4=>acc.length<sizeLine/\W (i+1) (acc++[y]) H4 else W (i+1) acc H3) /\
  ∀acc H2,W xs.length acc H2->acc.length<=sizeLine/\∀p,H2 p=none->Q (.ref p) (FB H2 p (.lst acc))
structure Yields(J:It)(xs:List Item)(st:Hp->Prop):Prop where
 go:∀i H,st H->i<xs.length->J.go i H
 yld:∀i H x H',st H->i<xs.length->J.yld i H x H'->∃it,xs[i]?=some it/\match it with
  | .one v=>x=v/\H'=H
  | .tup vs=>∃p,H p=none/\x=.ref p/\H'=FB H p (.tup vs)
 stop:∀i H,st H->xs.length<=i->J.stop i H
def compJ(J:It)(g:TG)(tc:TT)(te:TE)(σ0:St)(H1:Hp)(Q:VK):Prop:=∃W:Nat->Nat->List V->St->Hp->Prop,(∃m,W 0 m [] σ0 H1) /\
 ∀i m acc σ' H',W i m acc σ' H'->(J.stop i H'/\acc.length<=sizeLine/\∀p,H' p=none->Q (.ref p) (FB H' p (.lst acc))) ∨
  (J.go i H'/\∀x H2,J.yld i H' x H2->g x σ' H2 fun σ3 H3=>tc σ3 H3 fun b H4=>if b=true then te σ3 H4 fun y H5=>acc.length<sizeLine/\∃m',m' < m/\W (i+1) m' (acc++[y]) σ3 H5 else ∃m',m' < m/\W (i+1) m' acc σ3 H4)
def CompB(K:QA)(xs:List Item)(st:Hp->Prop)(tg:Tg)(tc:TT)(te:TE)(σ0:St)(H:Hp)(Q:VK):Prop:=∀J,Yields J xs st->compJ J (bindT K tg) tc te σ0 H Q
noncomputable def prmR(K:QA)(Γ:Ev):Prm->List V->Hp->VK->Prop
 | .dget x,[.str z],H,Q=>∃kvs,Γ.dc x=some kvs/\Q ((kvs.lookup z).getD .non) H
 | .dix x,[.str z],H,Q=>∃kvs v,Γ.dc x=some kvs/\kvs.lookup z=some v/\Q v H
 | .tmul,[x,y],H,Q=>rTMul K x y H Q
 | .dgetD x,[.str z,d],H,Q=>∃kvs,Γ.dc x=some kvs/\Q ((kvs.lookup z).getD d) H
 |_,_,_,_=>False
noncomputable def isNop:PX->Bool
 | .nop=>true
 |_=>false
noncomputable def wp(K:QA)(Γ:Ev):PX->XK->W3
 | .var i,E=>let e:TE:=fun σ H Q=>match σ[i]? with
   |some (some v)=>Q v H
   |_=>False
  ⟨e,fun σ H Q=>e σ H fun x H1=>truQ K x H1 Q,never.a⟩
 | .int i,E=>⟨fun _ H Q=>Q (.int i) H,fun _ H Q=>Q (i != 0) H,never.a⟩
 | .str x,E=>⟨fun _ H Q=>Q (.str x) H,never.t,never.a⟩
 | .bl b,E=>⟨fun _ H Q=>Q (.bl b) H,fun _ H Q=>Q b H,never.a⟩
 | .non,E=>⟨fun _ H Q=>Q .non H,fun _ H Q=>Q false H,never.a⟩
 | .glo x,E=>⟨fun _ H Q=>Q (Γ.va x) H,fun _ H Q=>truQ K (Γ.va x) H Q,never.a⟩
 | .bty _ n,E=>⟨fun _ H Q=>Q (.ty n) H,never.t,never.a⟩
 | .bin op a b,E=>let e:TE:=fun σ H Q=>(wp K Γ a E).e σ H fun x H1=>(wp K Γ b E).e σ H1 fun y H2=>binR K op x y H2 Q
  ⟨e,fun σ H Q=>e σ H fun x H1=>truQ K x H1 Q,never.a⟩
 | .cmp op a b,E=>let e:TE:=fun σ H Q=>(wp K Γ a E).e σ H fun x H1=>(wp K Γ b E).e σ H1 fun y H2=>cmpR K op x y H2 Q
  ⟨e,fun σ H Q=>e σ H fun x H1=>asB x H1 Q,never.a⟩
 | .chn o p a b c,E=>let e:TE:=fun σ H Q=>(wp K Γ a E).e σ H fun x H1=>(wp K Γ b E).e σ H1 fun y H2=>cmpR K o x y H2 fun z H3=>asB z H3 fun k H4=>if k=true then(wp K Γ c E).e σ H4 fun w' H5=>cmpR K p y w' H5 Q else Q (.bl false) H4
  ⟨e,fun σ H Q=>e σ H fun x H1=>asB x H1 Q,never.a⟩
 | .and a b,E=>⟨fun σ H Q=>(wp K Γ a E).e σ H fun x H1=>asB x H1 fun c H2=>if c=true then(wp K Γ b E).e σ H2 Q else Q (.bl false) H2,
   fun σ H Q=>(wp K Γ a E).t σ H fun c H1=>if c=true then(wp K Γ b E).t σ H1 Q else Q false H1,never.a⟩
 | .or a b,E=>⟨fun σ H Q=>(wp K Γ a E).e σ H fun x H1=>asB x H1 fun c H2=>if c=true then Q (.bl true) H2 else(wp K Γ b E).e σ H2 Q,
   fun σ H Q=>(wp K Γ a E).t σ H fun c H1=>if c=true then Q true H1 else(wp K Γ b E).t σ H1 Q,never.a⟩
 | .not a,E=>⟨fun σ H Q=>(wp K Γ a E).e σ H fun x H1=>truQ K x H1 fun c H2=>Q (.bl (!c)) H2,fun σ H Q=>(wp K Γ a E).t σ H fun c H1=>Q (!c) H1,never.a⟩
 | .ife c a b,E=>⟨fun σ H Q=>(wp K Γ c E).t σ H fun k H1=>if k=true then(wp K Γ a E).e σ H1 Q else(wp K Γ b E).e σ H1 Q,never.t,never.a⟩
 | .call f as,E=>let e:TE:=fun σ H Q=>(wp K Γ as E).a σ H fun vs H1=>Γ.sp f vs H1 Q E
  ⟨e,fun σ H Q=>e σ H fun x H1=>truQ K x H1 Q,never.a⟩
 | .bi f as,E=>let e:TE:=fun σ H Q=>(wp K Γ as E).a σ H fun vs H1=>biR K f vs H1 Q
  ⟨e,fun σ H Q=>e σ H fun x H1=>truQ K x H1 Q,never.a⟩
 | .prm o as,E=>let e:TE:=fun σ H Q=>(wp K Γ as E).a σ H fun vs H1=>prmR K Γ o vs H1 Q
  ⟨e,fun σ H Q=>e σ H fun x H1=>truQ K x H1 Q,never.a⟩
 | .isi a c,E=>let e:TE:=fun σ H Q=>(wp K Γ a E).e σ H fun x H1=>(wp K Γ c E).e σ H1 fun y H2=>rIsI K [x,y] H2 Q
  ⟨e,fun σ H Q=>e σ H fun x H1=>truQ K x H1 Q,never.a⟩
 | .mt m o as,E=>let e:TE:=fun σ H Q=>(wp K Γ o E).e σ H fun x H1=>tyV K m.ty x H1/\(wp K Γ as E).a σ H1 fun vs H2=>mtR K m x vs H2 Q
  ⟨e,fun σ H Q=>e σ H fun x H1=>truQ K x H1 Q,never.a⟩
 | .idx a b,E=>let e:TE:=fun σ H Q=>(wp K Γ a E).e σ H fun x H1=>(wp K Γ b E).e σ H1 fun y H2=>rIxU K x y H2 Q
  ⟨e,fun σ H Q=>e σ H fun x H1=>truQ K x H1 Q,never.a⟩
 | .slc a lo hi,E=>⟨fun σ H Q=>(wp K Γ a E).e σ H fun x H1 =>
   (if isNop lo=true then fun(R:Option Int->Hp->Prop)=>R none H1 else fun R=>(wp K Γ lo E).e σ H1 fun l H2=>partQ l H2 R) fun l H2 =>
   (if isNop hi=true then fun(R:Option Int->Hp->Prop)=>R none H2 else fun R=>(wp K Γ hi E).e σ H2 fun u H3=>partQ u H3 R) fun u H3=>rSl K x l u H3 Q,never.t,never.a⟩
 | .nop,E=>never
 | .lst as,E=>⟨fun σ H Q=>(wp K Γ as E).a σ H fun xs H1=>xs.length<=sizeLine/\∀p,H1 p=none->Q (.ref p) (FB H1 p (.lst xs)),never.t,never.a⟩
 | .tup as,E=>⟨fun σ H Q=>(wp K Γ as E).a σ H fun xs H1=>xs.length<=sizeLine/\∀p,H1 p=none->Q (.ref p) (FB H1 p (.tup xs)),never.t,never.a⟩
 | .comp mask tgs tg ik its cond elt,E=>⟨fun σ H Q=>(wp K Γ its E).a σ H fun vs H1=>uB K ik vs H1 fun xs st H2 =>
   CompB K xs st tg (if isNop cond=true then fun _ H Q=>Q true H else(wp K Γ cond (fun _ _ _=>False)).t) (wp K Γ elt (fun _ _ _=>False)).e (entS tgs.length mask σ) H2 Q,never.t,never.a⟩
 | .eff a,E=>⟨(wp K Γ a E).e,never.t,never.a⟩
 | .nh,E=>⟨never.e,never.t,fun _ H Q=>Q [] H⟩
 | .ng a as,E=>⟨never.e,never.t,fun σ H Q=>(wp K Γ a E).e σ H fun x H1=>(wp K Γ as E).a σ H1 fun xs H2=>Q (x::xs) H2⟩
structure Glob where
 ev:Ev
 fn:Str->Prop
 val:Str->Prop
 no:Str->Prop
 dc:Str->Prop
noncomputable def Bi.nm:Bi->Str
 | .len=>"len"
 | .all=>"all"
 | .int=>"int"
 | .str=>"str"
 | .max=>"max"
 | .any=>"any"
 | .list=>"list"
 | .tuple=>"tuple"
noncomputable def Mt.nm:Mt->Str
 | .split=>"split"
 | .append=>"append"
 | .rstrip=>"rstrip"
 | .join=>"join"
 | .extend=>"extend"
 | .insert=>"insert"
 | .clear=>"clear"
noncomputable def ikN(G:Glob):ItK->Prop
 | .val=>True
 | .rng1 | .rng3=>G.no "range"
 | .zip2=>G.no "zip"
 | .enum | .enumA=>G.no "enumerate"
noncomputable def prmN(G:Glob):Prm->Prop
 | .dget x | .dix x | .dgetD x=>G.dc x
 | .tmul=>True
noncomputable def dB(G:Glob):PX->Prop
 | .glo x=>G.val x
 | .bty x n=>G.no x/\bootBuiltins x=some (.type n)
 | .bin _ a b | .cmp _ a b | .and a b | .or a b | .idx a b | .ng a b=>dB G a/\dB G b
 | .not a | .lst a | .tup a | .eff a=>dB G a
 | .chn _ _ a b c | .ife a b c | .slc a b c=>dB G a/\dB G b/\dB G c
 | .call f as=>G.fn f/\dB G as
 | .bi f as=>G.no f.nm/\dB G as
 | .prm o as=>prmN G o/\dB G as
 | .isi a c=>G.no "isinstance"/\dB G a/\dB G c
 | .mt _ o as=>dB G o/\dB G as
 | .comp _ _ _ ik its cond elt=>ikN G ik/\dB G its/\dB G cond/\dB G elt
 |_=>True
structure SC where
 N:List Str
 sc:Scope
noncomputable def LB:Expr->Bool
 | .Starred _ _=>false
 |_=>true
noncomputable def visB(S:SC)(i:Nat)(x:Str):Bool :=
 S.N[i]?==some x&&(S.sc.names.lookup x==some .local||S.sc.names.lookup x==some .cell||S.sc.names.lookup x==some .free)&&x != "__debug__" && x != "__classdict__"
noncomputable def locB(S:SC)(i:Nat)(x:Str):Bool:=S.N[i]?==some x&&S.sc.names.lookup x==some .local
noncomputable def gloB(S:SC)(x:Str):Bool:=S.sc.names.lookup x==some .globalImplicit&&x != "__debug__" && x != "__name__"
noncomputable def compS(S:SC)(scope:Scope)(tgs:List Str)(mask:List Bool):SC:=⟨tgs++IB mask 0 S.N,relabelS scope S.sc⟩
noncomputable def nodupB:List Str->Bool
 |[]=>true
 |x::r=>!r.contains x&&nodupB r
noncomputable def compB(S:SC)(scope:Scope)(tgs:List Str)(mask:List Bool):Bool :=
 scope.kind==.function&&scope.names.all (fun y=>y.2 != .cell&&(y.2 != .local||(scope.names.lookup y.1==some .local&&(tgs.contains y.1||y.1==(".0":Str)))) &&
  (y.2 != .free||S.sc.names.lookup y.1==some .cell||S.sc.names.lookup y.1==some .free))&&nodupB (tgs++IB mask 0 S.N)&&!(tgs++IB mask 0 S.N).contains (".0":Str)
noncomputable def tgB(S:SC):Tg->Expr->Bool
 | .nm i,.Name x _=>locB S i x
 | .tp is,.Tuple es _ _=>is.length==es.length&&(is.zip es).all fun p=>match p.2 with
  | .Name x _=>locB S p.1 x
  |_=>false
 |_,_=>false
noncomputable def noSuper:Expr->Bool
 | .Call (.Name _ _) [] [] _=>false
 |_=>true
noncomputable def noSet:Expr->Bool
 | .Set _ _ _=>false
 |_=>true
noncomputable def noSlice:Expr->Bool
 | .Slice _ _ _ _=>false
 |_=>true
noncomputable def isArgs:PX->Bool
 | .nh=>true
 | .ng _ r=>isArgs r
 |_=>false
noncomputable def isTupE:Expr->Bool
 | .Tuple _ _ _=>true
 |_=>false
section
variable{α:Type}
noncomputable def onName(e:Expr)(f:Str->Pos->Bool):Bool:=match e with | .Name x p=>f x p|_=>false
noncomputable def onConst(e:Expr)(f:Const->Bool):Bool:=match e with | .Constant c _ _=>f c|_=>false
noncomputable def onBin(e:Expr)(f:Expr->Operator->Expr->Pos->Bool):Bool:=match e with | .BinOp l o r p=>f l o r p|_=>false
noncomputable def onUn(e:Expr)(f:UnaryOp->Expr->Bool):Bool:=match e with | .UnaryOp o x _=>f o x|_=>false
noncomputable def onCmp(e:Expr)(f:Expr->List CmpOp->List Expr->Bool):Bool:=match e with | .Compare l os rs _=>f l os rs|_=>false
noncomputable def onBool(e:Expr)(f:BoolOp->List Expr->Pos->Bool):Bool:=match e with | .BoolOp o es p=>f o es p|_=>false
noncomputable def onIf(e:Expr)(f:Expr->Expr->Expr->Bool):Bool:=match e with | .IfExp t l r _=>f t l r|_=>false
noncomputable def onCall(e:Expr)(f:Expr->List Expr->List Keyword->Pos->Bool):Bool:=match e with | .Call g es ks p=>f g es ks p|_=>false
noncomputable def onAttr(e:Expr)(f:Expr->Str->Pos->Bool):Bool:=match e with | .Attribute v n p=>f v n p|_=>false
noncomputable def onSub(e:Expr)(f:Expr->Expr->Pos->Bool):Bool:=match e with | .Subscript v i p=>f v i p|_=>false
noncomputable def onSlice(e:Expr)(f:Option Expr->Option Expr->Option Expr->Bool):Bool:=match e with | .Slice l h s _=>f l h s|_=>false
noncomputable def onList(e:Expr)(f:List Expr->Pos->Bool):Bool:=match e with | .List es p=>f es p|_=>false
noncomputable def onTup(e:Expr)(f:List Expr->Nat->Pos->Bool):Bool:=match e with | .Tuple es k p=>f es k p|_=>false
noncomputable def onLC(e:Expr)(f:Expr->List Comprehension->Scope->Pos->Bool):Bool:=match e with | .ListComp x gs sc p=>f x gs sc p|_=>false
noncomputable def on1(l:List α)(f:α->Bool):Bool:=match l with | [x]=>f x|_=>false
noncomputable def on2(l:List α)(f:α->α->Bool):Bool:=match l with | [x,y]=>f x y|_=>false
noncomputable def on3(l:List α)(f:α->α->α->Bool):Bool:=match l with | [x,y,z]=>f x y z|_=>false
noncomputable def onC(l:List α)(f:α->List α->Bool):Bool:=match l with|x::r=>f x r|_=>false
noncomputable def onO(o:Option α)(n:Bool)(f:α->Bool):Bool:=match o with|none=>n|some x=>f x
theorem MC{e:Expr}{f:Str->Pos->Bool}(h:onName e f=true):∃x p,e=.Name x p/\f x p=true:=by
 cases e with
 |Name x p=>exact⟨x,p,rfl,h⟩
 |_=>exact(QC h).elim
theorem onConst_i{e:Expr}{f:Const->Bool}(h:onConst e f=true):∃c k p,e=.Constant c k p/\f c=true:=by
 cases e with
 |Constant c k p=>exact⟨c,k,p,rfl,h⟩
 |_=>exact(QC h).elim
theorem onBin_i{e:Expr}{f:Expr->Operator->Expr->Pos->Bool}(h:onBin e f=true):∃l o r p,e=.BinOp l o r p/\f l o r p=true:=by
 cases e with
 |BinOp l o r p=>exact⟨l,o,r,p,rfl,h⟩
 |_=>exact(QC h).elim
theorem onUn_i{e:Expr}{f:UnaryOp->Expr->Bool}(h:onUn e f=true):∃o x p,e=.UnaryOp o x p/\f o x=true:=by
 cases e with
 |UnaryOp o x p=>exact⟨o,x,p,rfl,h⟩
 |_=>exact(QC h).elim
theorem onCmp_i{e:Expr}{f:Expr->List CmpOp->List Expr->Bool}(h:onCmp e f=true):∃l os rs p,e=.Compare l os rs p/\f l os rs=true:=by
 cases e with
 |Compare l os rs p=>exact⟨l,os,rs,p,rfl,h⟩
 |_=>exact(QC h).elim
theorem onBool_i{e:Expr}{f:BoolOp->List Expr->Pos->Bool}(h:onBool e f=true):∃o es p,e=.BoolOp o es p/\f o es p=true:=by
 cases e with
 |BoolOp o es p=>exact⟨o,es,p,rfl,h⟩
 |_=>exact(QC h).elim
theorem onIf_i{e:Expr}{f:Expr->Expr->Expr->Bool}(h:onIf e f=true):∃t l r p,e=.IfExp t l r p/\f t l r=true:=by
 cases e with
 |IfExp t l r p=>exact⟨t,l,r,p,rfl,h⟩
 |_=>exact(QC h).elim
theorem onCall_i{e:Expr}{f:Expr->List Expr->List Keyword->Pos->Bool}(h:onCall e f=true):∃g es ks p,e=.Call g es ks p/\f g es ks p=true:=by
 cases e with
 |Call g es ks p=>exact⟨g,es,ks,p,rfl,h⟩
 |_=>exact(QC h).elim
theorem onAttr_i{e:Expr}{f:Expr->Str->Pos->Bool}(h:onAttr e f=true):∃v n p,e=.Attribute v n p/\f v n p=true:=by
 cases e with
 |Attribute v n p=>exact⟨v,n,p,rfl,h⟩
 |_=>exact(QC h).elim
theorem onSub_i{e:Expr}{f:Expr->Expr->Pos->Bool}(h:onSub e f=true):∃v i p,e=.Subscript v i p/\f v i p=true:=by
 cases e with
 |Subscript v i p=>exact⟨v,i,p,rfl,h⟩
 |_=>exact(QC h).elim
theorem onSlice_i{e:Expr}{f:Option Expr->Option Expr->Option Expr->Bool}(h:onSlice e f=true):∃l u s p,e=.Slice l u s p/\f l u s=true:=by
 cases e with
 |Slice l u s p=>exact⟨l,u,s,p,rfl,h⟩
 |_=>exact(QC h).elim
theorem onList_i{e:Expr}{f:List Expr->Pos->Bool}(h:onList e f=true):∃es p,e=.List es p/\f es p=true:=by
 cases e with
 |List es p=>exact⟨es,p,rfl,h⟩
 |_=>exact(QC h).elim
theorem onTup_i{e:Expr}{f:List Expr->Nat->Pos->Bool}(h:onTup e f=true):∃es k p,e=.Tuple es k p/\f es k p=true:=by
 cases e with
 |Tuple es k p=>exact⟨es,k,p,rfl,h⟩
 |_=>exact(QC h).elim
theorem onLC_i{e:Expr}{f:Expr->List Comprehension->Scope->Pos->Bool}(h:onLC e f=true):∃x gs sc p,e=.ListComp x gs sc p/\f x gs sc p=true:=by
 cases e with
 |ListComp x gs sc p=>exact⟨x,gs,sc,p,rfl,h⟩
 |_=>exact(QC h).elim
theorem onC_i{l:List α}{f:α->List α->Bool}(h:onC l f=true):∃x r,l=x::r/\f x r=true:=by
 cases l with
 |nil=>exact(QC h).elim
 |cons x r=>exact⟨x,r,rfl,h⟩
theorem bC{l:List α}{f:α->Bool}(h:on1 l f=true):∃x,l=[x]/\f x=true:=by
 cases l with
 |nil=>exact(QC h).elim
 |cons x r =>
  cases r with
  |nil=>exact⟨x,rfl,h⟩
  |cons _ _=>exact(QC h).elim
theorem on2_i{l:List α}{f:α->α->Bool}(h:on2 l f=true):∃x y,l=[x,y]/\f x y=true:=by
 cases l with
 |nil=>exact(QC h).elim
 |cons x r =>
  obtain⟨y,e,h⟩:=bC (l:=r) (f:=f x) (by
   cases r with
   |nil=>exact h
   |cons y r=>cases r<;>exact h)
  exact⟨x,y,by rw[e],h⟩
theorem on3_i{l:List α}{f:α->α->α->Bool}(h:on3 l f=true):∃x y z,l=[x,y,z]/\f x y z=true:=by
 cases l with
 |nil=>exact(QC h).elim
 |cons x r =>
  obtain⟨y,z,e,h⟩:=on2_i (l:=r) (f:=f x) (by
   cases r with
   |nil=>exact h
   |cons y r=>cases r with
    |nil=>exact h
    |cons z r=>cases r<;>exact h)
  exact⟨x,y,z,by rw[e],h⟩
end
noncomputable def cInt(c:Const)(f:Int->Bool):Bool:=match c with | .int i=>f i|_=>false
noncomputable def cStr(c:Const)(f:Str->Bool):Bool:=match c with | .str i=>f i|_=>false
noncomputable def cBool(c:Const)(f:Bool->Bool):Bool:=match c with | .bool i=>f i|_=>false
noncomputable def cNone(c:Const):Bool:=match c with | .none=>true|_=>false
theorem cInt_i{c:Const}{f:Int->Bool}(h:cInt c f=true):∃i,c=.int i/\f i=true:=by
 cases c with
 |int i=>exact⟨i,rfl,h⟩
 |_=>exact(QC h).elim
theorem cStr_i{c:Const}{f:Str->Bool}(h:cStr c f=true):∃i,c=.str i/\f i=true:=by
 cases c with
 |str i=>exact⟨i,rfl,h⟩
 |_=>exact(QC h).elim
theorem cBool_i{c:Const}{f:Bool->Bool}(h:cBool c f=true):∃i,c=.bool i/\f i=true:=by
 cases c with
 |bool i=>exact⟨i,rfl,h⟩
 |_=>exact(QC h).elim
theorem cNone_i{c:Const}(h:cNone c=true):c=.none:=by
 cases c with
 |none=>rfl
 |_=>exact(QC h).elim
theorem jA{a b:Bool}(h:(a&&b)=true):a=true/\b=true:=by cases a<;>cases b<;>first|exact⟨rfl,rfl⟩| exact(QC h).elim
noncomputable def callC(S:SC)(n:Str)(e:Expr)(f:List Expr->List Keyword->Pos->Bool):Bool:=onCall e fun g es ks p=>onName g fun x _=>n==x&&(gloB S x&&f es ks p)
theorem callC_i{S:SC}{n:Str}{e:Expr}{f:List Expr->List Keyword->Pos->Bool}(h:callC S n e f=true):∃px es ks p,e=.Call (.Name n px) es ks p/\gloB S n=true/\f es ks p=true:=by obtain⟨g,es,ks,p,rfl,q1⟩:=onCall_i h;obtain⟨x,px,rfl,q2⟩:=MC q1;have q3:=jA q2;have q4:=jA q3.2;have e:=qC q3.1;exact⟨px,es,ks,p,by rw[e],by rw[e];exact q4.1,q4.2⟩
noncomputable def methC(n:Str)(e:Expr)(f:Expr->List Expr->Pos->Pos->Bool):Bool:=onCall e fun g es ks p=>onAttr g fun v x ap=>n==x&&(ks.isEmpty&&(ap.endLine==p.line&&f v es ap p))
theorem methC_i{n:Str}{e:Expr}{f:Expr->List Expr->Pos->Pos->Bool}(h:methC n e f=true):∃v ap es p,e=.Call (.Attribute v n ap) es [] p/\(ap.endLine==p.line)=true/\f v es ap p=true:=by obtain⟨g,es,ks,p,rfl,q1⟩:=onCall_i h;obtain⟨v,x,ap,rfl,q2⟩:=onAttr_i q1;have q3:=jA q2;have q4:=jA q3.2;have q5:=jA q4.2;have e:=qC q3.1;have e2:=Q0.mp q4.1;exact⟨v,ap,es,p,by rw[e,e2],q5.1,q5.2⟩
noncomputable def moreE(op:BoolOp)(r:Expr)(rest:List Expr)(pos:Pos):Expr:=match rest with
 |[]=>r
 |q::t=>.BoolOp op (r::q::t) pos
noncomputable def itC(ia:Bool)(S:SC)(ik:ItK)(c:List Expr->Pos->Bool)(t it:Expr)(pos:Pos):Bool:=match ik with
 | .val=>ia&&c [it] pos
 | .rng1=>callC S "range" it fun es ks p=>ks.isEmpty&&on1 es fun a=>c [a] p
 | .rng3=>callC S "range" it fun es ks p=>ks.isEmpty&&on3 es fun a b d=>c [a,b,d] p
 | .zip2=>isTupE t&&callC S "zip" it fun es ks p=>ks.isEmpty&&on2 es fun a b=>c [a,b] p
 | .enum=>isTupE t&&callC S "enumerate" it fun es ks p=>ks.isEmpty&&on1 es fun a=>c [a] p
 | .enumA=>isTupE t&&(ia&&callC S "enumerate" it fun es ks p=>on1 es fun a=>on1 ks fun k=>k.arg==some ("start":Str)&&c [a,k.value] p)
noncomputable def prmC(S:SC)(c:List Expr->Pos->Bool)(e:Expr):Prm->Bool
 | .dget y=>methC "get" e fun v es _ p=>onName v fun x _=>y==x&&(gloB S x&&on1 es fun a=>c [a] p)
 | .dgetD y=>methC "get" e fun v es _ p=>onName v fun x _=>y==x&&(gloB S x&&on2 es fun a b=>c [a,b] p)
 | .dix y=>onSub e fun v i p=>onName v fun x _=>y==x&&(gloB S x&&(noSlice i&&c [i] p))
 | .tmul=>onBin e fun l o r p=>o==.Mult&&c [l,r] p
noncomputable def ifsC(ifs:List Expr)(n:Bool)(f:Expr->Bool):Bool:=match ifs with
 |[]=>n
 |c::r=>r.isEmpty&&(!n&&f c)
noncomputable def xC:PX->SC->Expr->Bool
 | .var i,S,e=>onName e fun x _=>visB S i x
 | .int i,_,e=>onConst e fun c=>cInt c fun j=>i==j
 | .str x,_,e=>onConst e fun c=>cStr c fun y=>x==y
 | .bl b,_,e=>onConst e fun c=>cBool c fun k=>b==k
 | .non,_,e=>onConst e cNone
 | .glo x,S,e=>onName e fun y _=>x==y&&gloB S x
 | .bty x _,S,e=>onName e fun y _=>x==y&&gloB S x
 | .bin op a b,S,e=>onBin e fun l o r _=>op==o&&(xC a S l&&xC b S r)
 | .cmp op a b,S,e=>onCmp e fun l os rs=>on1 os fun o=>on1 rs fun r=>op==o&&(noSet r&&(xC a S l&&xC b S r))
 | .chn o p a b c,S,e=>onCmp e fun l os rs=>on2 os fun o' p'=>on2 rs fun r q=>o==o'&&(p==p'&&(noSet q&&(xC a S l&&(xC b S r&&xC c S q))))
 | .and a b,S,e=>onBool e fun o es p=>o==.And&&onC es fun l t=>onC t fun r t=>xC a S l&&xC b S (moreE .And r t p)
 | .or a b,S,e=>onBool e fun o es p=>o==.Or&&onC es fun l t=>onC t fun r t=>xC a S l&&xC b S (moreE .Or r t p)
 | .not a,S,e=>onUn e fun o x=>o==.Not&&xC a S x
 | .ife c a b,S,e=>onIf e fun t l r=>xC c S t&&(xC a S l&&xC b S r)
 | .call f as,S,e=>callC S f e fun es ks p=>ks.isEmpty&&xC as S (.List es p)
 | .bi f as,S,e=>callC S f.nm e fun es ks p=>ks.isEmpty&&onC es fun x t=>xC as S (.List (x::t) p)
 | .prm o as,S,e=>isArgs as&&prmC S (fun es p=>xC as S (.List es p)) e o
 | .isi a c,S,e=>callC S "isinstance" e fun es ks _=>ks.isEmpty&&on2 es fun l r=>LB l&&(LB r&&(xC a S l&&xC c S r))
 | .mt m o as,S,e=>methC m.nm e fun v es _ p=>isArgs as&&(noSuper v&&(decide (es.length<20)&&(xC o S v&&xC as S (.List es p))))
 | .idx a b,S,e=>onSub e fun v i _=>noSlice i&&(xC a S v&&xC b S i)
 | .slc a lo hi,S,e=>onSub e fun v sl _=>onSlice sl fun l h s=>s.isNone&&(xC a S v&&(onO l (isNop lo) (fun e=>!isNop lo&&xC lo S e)&&onO h (isNop hi) fun e=>!isNop hi&&xC hi S e))
 | .nop,_,_=>false
 | .lst as,S,e=>onList e fun es p=>xC as S (.List es p)
 | .tup as,S,e=>onTup e fun es _ p=>xC as S (.List es p)
 | .comp mask tgs tg ik its cond elt,S,e=>onLC e fun el gs scope p=>on1 gs fun g=>g.is_async==0&&(compB S scope tgs mask&&(tgB (compS S scope tgs mask) tg g.target&&(noSet g.iter &&
   (itC (isArgs its) S ik (fun es p=>xC its S (.List es p)) g.target g.iter p&&(ifsC g.ifs (isNop cond) (fun c=>xC cond (compS S scope tgs mask) c)&&xC elt (compS S scope tgs mask) el)))))
 | .eff a,S,e=>(onLC e fun x y z w=>xC a S (.ListComp x y z w))||onSub e fun x y z=>xC a S (.Subscript x y z)
 | .nh,_,e=>onList e fun es _=>es.isEmpty
 | .ng a as,S,e=>onList e fun es p=>onC es fun x t=>LB x&&(xC a S x&&xC as S (.List t p))
variable{Γ:Ev}
theorem asB_eq(x:V)(H:Hp)(Q:Bool->Hp->Prop):asB x H Q=∃k,x=.bl k/\Q k H:=by
 apply propext;cases x with
 |bl b=>exact⟨fun h=>⟨b,rfl,h⟩,fun⟨k,e,h⟩=>by cases e;exact h⟩
 |_=>exact⟨fun h=>QT h,fun⟨k,e,h⟩=>by cases e⟩
theorem partQ_eq(x:V)(H:Hp)(Q:Option Int->Hp->Prop):partQ x H Q=∃i,x=.int i/\Q (some i) H:=by
 apply propext;cases x with
 |int b=>exact⟨fun h=>⟨b,rfl,h⟩,fun⟨k,e,h⟩=>by cases e;exact h⟩
 |_=>exact⟨fun h=>QT h,fun⟨k,e,h⟩=>by cases e⟩
theorem truQ_eq(K:QA)(x:V)(H:Hp)(Q:Bool->Hp->Prop):truQ K x H Q=∃k,TruV K x H k/\Q k H:=by
 apply propext;cases x with
 |bl b=>exact⟨fun h=>⟨b,rfl,h⟩,fun⟨k,(e:k=b),h⟩=>by subst e;exact h⟩
 |int i=>exact⟨fun h=>⟨i != 0,rfl,h⟩,fun⟨k,(e:k=(i != 0)),h⟩=>by subst e;exact h⟩
 |non=>exact⟨fun h=>⟨false,rfl,h⟩,fun⟨k,(e:k=false),h⟩=>by subst e;exact h⟩
 |str z=>exact⟨fun h=>⟨_,⟨h.1,rfl⟩,h.2⟩,fun⟨k,⟨e1,e2⟩,h⟩=>by subst e2;exact⟨e1,h⟩⟩
 |_=>exact w8
section
variable{X:Cx}
theorem pe_never{e:Expr}:PE X e never.e:=fun _ _ _ _ _ _ h=>QT h
theorem pt_never{e:Expr}:PT X e never.t:=fun _ _ _ _ _ _ h=>QT h
theorem pa_never{es:List Expr}:PA X es never.a:=fun _ _ _ _ _ _ _ h=>QT h
theorem KC{a:Expr}{ta:TE}(ha:PE X a ta)(he:∀whole,isTrue a X.env whole=(do let v <- whole;standAt a.pos;holding [v] (truthy v))) :
  PT X a (fun σ H Q=>ta σ H fun x H'=>truQ X.K x H' Q):=by
 intro pins s σ H Q I h;refine isTrue_plain (VB (ha pins s σ H _ I h) fun v s1 ⟨x,H1,I1,r1,q1⟩=>?_) (he _);have q1:truQ X.K x H1 Q:=q1;rw[truQ_eq]at q1;exact tru_ok pins s1 σ H1 x v Q I1 r1 q1
theorem op_never{f:Value->Value->Sem Value}:OpR X f (fun _ _ _ _=>False):=fun _ _ _ _ _ _ _ _ _ _ _ _ h=>h.elim
theorem op_bin(op:Operator):OpR X (binaryOp op) (binR X.K op):=by
 cases op with
 |Add=>exact op_add
 |Sub=>exact op_sub
 |Mult=>exact op_mul
 |FloorDiv=>exact op_fdiv
 |Mod=>exact op_mod
 |Pow=>exact op_pow
 |_=>exact op_never
theorem op_cmp(hu:X.A.units+66<cLine)(op:CmpOp):OpR X (compareOp op) (cmpR X.K op):=by
 cases op with
 |Eq=>exact op_eq (by omega)
 |NotEq=>exact op_ne (by omega)
 |Lt=>exact op_ord _root_.L2.op_lt
 |LtE=>exact op_ord _root_.L2.op_le
 |Gt=>exact op_ord _root_.L2.op_gt
 |GtE=>exact op_ord _root_.L2.op_ge
 |In=>exact op_in hu
 |NotIn=>exact op_notin hu
 |Is =>
  intro pins s σ H x y v u Q I rx ry h;cases y with
  |non=>exact op_isN pins s σ H x _ v u Q I rx ry ⟨rfl,h⟩
  |_=>exact QT h
 |IsNot =>
  intro pins s σ H x y v u Q I rx ry h;cases y with
  |non=>exact op_notN pins s σ H x _ v u Q I rx ry ⟨rfl,h⟩
  |_=>exact QT h
theorem ix_any:IxR X (rIxU X.K):=by
 intro value slice pins s σ H x y v u Q I rx ry h hs;refine ix_seq value slice pins s σ H x y v u Q I rx ry ?_ hs;cases x with
 |str z =>
  cases y with
  |int i=>obtain⟨h1,c,h2,q⟩:=h;exact .inr (.inr ⟨z,i,c,rfl,rfl,h1,h2,q⟩)
  |_=>exact QT h
 |ref a =>
  cases y with
  |int i=>obtain⟨xs,w',hq,h2,q⟩:=h;rcases hq with hq|hq;exact .inl ⟨a,xs,i,w',rfl,rfl,hq,h2,q⟩;exact .inr (.inl ⟨a,xs,i,w',rfl,rfl,hq,h2,q⟩)
  |_=>exact QT h
 |_=>exact QT h
theorem noMark{op:CmpOp}{b:Expr}(h:noSet b=true):behindInMarks op b=false:=by cases b<;>first|rfl|cases h
theorem plainIx{b:Expr}(h:noSlice b=true):PlainIx b:=by intro o i;cases b<;>first|rfl|cases h
theorem pA{e:Expr}{es:List Expr}(env:Env)(h:LB e=true):starEach (e::es) env=(false,eval e env)::starEach es env:=by cases e<;>first|rfl|cases h
theorem noFold{e:Expr}{env:Env}(h:noSet e=true)(x:Value):foldedSetIterable e env x=pure x:=by cases e<;>first|rfl|cases h
theorem noSup{o:Expr}{n:Str}{env:Env}(h:noSuper o=true):attributeBase o n env (eval o env)=eval o env:=by unfold attributeBase;split;cases h;rfl
theorem mt_appU:MtR X "list.append" rAppU:=by
 intro pins s σ H x xs v us Q I rx rs h
 match x,xs,h with
 | .ref l,[y],⟨xs,hH,hz,q⟩=>exact mt_append pins s σ H _ _ v us Q I rx rs ⟨l,xs,y,rfl,rfl,hH,hz,q⟩
theorem mt_rstrip:MtR X "str.rstrip" rRstrip:=by
 intro pins s σ H x xs v us Q I rx rs h
 match x,xs,h with
 | .str z,[],h=>obtain⟨t,rfl⟩:=rx;cases rs;exact SC.rstrip (fun t' k=>⟨.str _,H,I.tok _,⟨_,rfl⟩,h.2⟩) h.1
theorem call_int:EC X (.type "int") rInt:=by
 intro pins s σ H xs us Q I r h
 match xs,h with
 |[.int i],h=>exact call_int1 pins s σ H _ us Q I r (.inl ⟨i,rfl,h⟩)
 |[.bl b],h=>exact call_int1 pins s σ H _ us Q I r (.inr ⟨b,rfl,h⟩)
 |[.str z],⟨hl,n,hn,q⟩=>obtain⟨u,rfl,t,rfl⟩:=vals1 r;exact PySem.W.KIN.call_text hn hl ⟨.int n,H,I.tok _,⟨_,rfl⟩,q⟩
theorem call_str:EC X (.type "str") rStr:=by
 intro pins s σ H xs us Q I r h
 match xs,h with
 |[.int i],h=>exact call_str_int pins s σ H _ us Q I r ⟨i,rfl,h⟩
 |[.str z],h=>obtain⟨u,rfl,t,rfl⟩:=vals1 r;exact PySem.P.str_of_str ⟨.str z,H,I,⟨_,rfl⟩,h⟩
theorem call_maxU(hc:X.calm=true):EC X (.builtin "max") (rMax true):=by
 intro pins s σ H xs us Q I r h
 match xs,h with
 |[.int i,.int j],h=>exact call_max2 hc pins s σ H _ us Q I r ⟨i,j,rfl,h⟩
theorem mt_extU:MtR X "list.extend" rExtU:=by intro pins s σ H x xs v us Q I rx rs h;obtain⟨l,b,xs,zs,rfl,rfl,h⟩:=h;exact mt_extend pins s σ H _ _ v us Q I rx rs ⟨l,b,xs,zs,rfl,rfl,h⟩
theorem mt_clrU:MtR X "list.clear" rClear:=by intro pins s σ H x xs v us Q I rx rs h;exact mt_clear pins s σ H _ _ v us Q I rx rs h
theorem mt_insU:MtR X "list.insert" rInsU:=by
 intro pins s σ H x xs v us Q I rx rs h;obtain⟨l,i,y,xs,rfl,rfl,hH,hi,hz,q⟩:=h;cases rx;obtain⟨u,w,rfl,ru,rw'⟩:=vals2 rs;obtain⟨t,rfl⟩:=ru;obtain⟨z,its,n,r,hl,e⟩:=I.lstM hH;have hz':sizeLine=16777216:=QZ;have hlen:=r.length;refine wO F.slot_list_insert ⟨_,e,rfl⟩ F.entry_list_insert (F.args_list_insert_3 _ _ _) (PySem.AutoSeq1.list_insert_list_int_val_1 l its.toArray n i t w (by unfold Builtin.List.listFitsIndex;simp;omega) (by rw[QO];omega)) ⟨e,?_⟩;refine⟨.non,_,I.lset (its':=insAt its i.toNat w) hH e ?_ ((r.take _).append (.cons rw' (r.drop _))) ?_,rfl,q⟩;have h1:¬ i<0:=by omega
 have h2:min i.toNat its.toArray.size=i.toNat:=by rw[QO];omega
 simp only[h1,if_false,h2];unfold insAt;simp;exact qf (by simp);simp;omega
theorem strs_are{ys:List Str}{its:List Value}(h:aA (ys.map V.str) its):StrsAre its ys:=by
 induction ys generalizing its with
 |nil=>cases h;exact .nil
 |cons y ys ih =>
  cases h with
  |cons h t=>obtain⟨k,rfl⟩:=h;exact .cons _ _ (ih t)
theorem mt_join:MtR X "str.join" (rJoin X.K):=by intro pins s σ H x xs v us Q I rx rs h;obtain⟨z,b,ys,rfl,rfl,hq,hz,q⟩:=h;obtain⟨t,rfl⟩:=rx;obtain⟨u,rfl,ru⟩:=vals1 rs;cases ru;obtain⟨its,rv,p,_⟩:=I.list hq;exact join_list p.isList (by simpa using strs_are rv) hz fun t' k=>⟨.str _,H,I.tok _,⟨_,rfl⟩,q⟩
theorem bi_ok(hc:X.calm=true)(f:Bi):(∃id,bootBuiltins f.nm=some (.builtin id)/\EC X (.builtin id) (biR X.K f))∨∃T,bootBuiltins f.nm=some (.type T)/\EC X (.type T) (biR X.K f):=by
 cases f with
 |len=>exact .inl ⟨_,PySem.boot_len,call_len⟩
 |all=>exact .inl ⟨_,PyProof.Rows.boot_all,call_all hc⟩
 |int=>exact .inr ⟨_,PyProof.Rows.boot_int,call_int⟩
 |str=>exact .inr ⟨_,PyProof.Rows.boot_str,call_str⟩
 |any=>exact .inl ⟨_,PyProof.Rows.boot_any,call_any hc⟩
 |list=>exact .inr ⟨_,PyProof.Rows.boot_list,call_list_of⟩
 |tuple=>exact .inr ⟨_,by kernel_rfl,call_tuple_of⟩
 |max=>exact .inl ⟨_,by kernel_rfl,call_maxU hc⟩
end
end L2.L3
namespace L2.L3
open PySem PySem.Spec PyProof.Rows
structure OkX(X:Cx)(S:SC)(G:Glob)(E:XK):Prop where
 N:X.N=S.N
 sc:X.env.scope=S.sc
 calm:X.calm=true
 un:X.A.units+66<cLine
 fn:∀f,G.fn f->∃(CX:CXT) (k:Nat) (a:Addr) (fd:FuncData) (ps:List Str),FnOk X.prog X.w X.K X.mg X.base CX k a fd ps (G.ev.sp f)/\Room k X.A/\X.mg f=some (.ref a)/\we X.K (.ref a)=true/\Binds X.K fd ps [] /\
  Passes CX X E/\∀l H s e s',CX l H s (fun _ _ _=>False) e s'->False
 val:∀x,G.val x->∃u,X.mg x=some u/\FA (G.ev.va x) u
 no:∀x,G.no x->X.mg x=none
 dic:∀x,G.dc x->∃a kvs,X.mg x=some (.ref a)/\G.ev.dc x=some kvs/\DcAt X.prog X.w X.K a kvs
noncomputable def ArgsPE(X:Cx)(Γ:Ev)(E:XK):PX->List Expr->Prop
 | .ng a as,e::es=>PE X e (wp X.K Γ a E).e/\ArgsPE X Γ E as es
 |_,_=>True
structure Snd(X:Cx)(Γ:Ev)(E:XK)(p:PX)(e:Expr):Prop where
 pe:PE X e (wp X.K Γ p E).e
 pt:PT X e (wp X.K Γ p E).t
 pw:∀op es pos,e=.BoolOp op es pos->PW X e (wp X.K Γ p E).t
 pa:∀es pos,e=.List es pos->PA X es (wp X.K Γ p E).a
 pas:∀es pos,e=.List es pos->ArgsPE X Γ E p es
theorem visB_ok{S:SC}{i:Nat}{x:Str}(h:visB S i x=true):S.N[i]?=some x/\Vis S.sc x/\(x==("__debug__":Str))=false/\(x==("__classdict__":Str))=false:=by simp only[visB,QU,qi,beq_iff_eq,bne_iff_ne,ne_eq]at h;obtain⟨⟨⟨h1,h2⟩,h3⟩,h4⟩:=h;refine⟨h1,?_,by simpa using h3,by simpa using h4⟩;rcases h2 with(h2|h2)|h2;exact .inl h2;exact .inr (.inl h2);exact .inr (.inr h2)
theorem locB_ok{S:SC}{i:Nat}{x:Str}(h:locB S i x=true):S.N[i]?=some x/\S.sc.names.lookup x=some .local:=by simp only[locB,QU,beq_iff_eq]at h;exact h
theorem gloB_ok{S:SC}{x:Str}(h:gloB S x=true):S.sc.names.lookup x=some .globalImplicit/\(x==("__debug__":Str))=false/\x≠"__name__":=by simp only[gloB,QU,beq_iff_eq,bne_iff_ne,ne_eq]at h;exact⟨h.1.1,by simpa using h.1.2,h.2⟩
theorem nodupB_ok:∀{l:List Str},nodupB l=true->l.Nodup
 |[],_=>QAz
 |x::r,h=>by simp only[nodupB,QU,wQ]at h;exact wB.mpr ⟨by simpa using h.1,nodupB_ok h.2⟩
theorem compB_ok{S:SC}{scope:Scope}{tgs:List Str}{mask:List Bool}(h:compB S scope tgs mask=true):CompSt S.N S.sc scope tgs mask:=by simp only[compB,QU,Qn,beq_iff_eq,wQ]at h;obtain⟨⟨⟨h1,h2⟩,h3⟩,h4⟩:=h;refine⟨h1,fun y hy e=>?_,fun y hy e=>?_,fun y hy e=>?_,fun y hy e=>?_,nodupB_ok h3,by simpa using h4⟩;have:=(h2 y hy).1.1;rw[e]at this;exact absurd this (by decide);have:=(h2 y hy).1.2;rw[e]at this;simp at this;exact this.1;have:=(h2 y hy).2;rw[e]at this;simp at this;exact this;have:=(h2 y hy).1.2;rw[e]at this;simp at this;exact this.2
theorem OkX.comp{X:Cx}{S:SC}{G:Glob}{E:XK}(ok:OkX X S G E)(scope:Scope)(tgs:List Str)(mask:List Bool)(s:Shared)(H:Hp)(ex:List Addr):OkX (yB X scope tgs mask s H ex) (compS S scope tgs mask) G (fun _ _ _=>False) where
 N:=by show tgs++IB mask 0 X.N=tgs++IB mask 0 S.N;rw[ok.N]
 sc:=by show relabelS scope X.env.scope=relabelS scope S.sc;rw[ok.sc]
 calm:=ok.calm
 un:=ok.un
 fn:=fun f h=>by obtain⟨CX,k,a,fd,ps,h1,h2,h3,h4,h5,h6,h7⟩:=ok.fn f h;exact⟨CX,k,a,fd,ps,h1,h2,h3,h4,h5,fun _ _ _ _ _ _ _ z=>(h7 _ _ _ _ _ z).elim,h7⟩
 val:=ok.val
 no:=ok.no
 dic:=ok.dic
section
variable{X:Cx}
theorem setAll_ok{S:SC}(hN:X.N=S.N)(hsc:X.env.scope=S.sc)(nd:X.N.Nodup):∀(is:List Nat) (es:List Expr),is.length=es.length->((is.zip es).all fun p=>match p.2 with | .Name x _=>locB S p.1 x|_=>false)=true ->
  PGs X es (fun vs σ H Q=>∃σ',fB is vs σ=some σ'/\Q σ' H)
 |[],[],_,_=>by
  intro pins s σ H vs us Q I r h;obtain⟨σ',e,q⟩:=h;cases vs with
  |nil=>cases r;simp only[fB]at e;cases e;exact assignInOrder_nil ⟨σ,H,I,q⟩
  |cons _ _=>simp[fB]at e
 |[],_::_,h,_=>by cases h
 |_::_,[],h,_=>by cases h
 |i::is,e::es,hl,hz=>by
  simp only[Wx,Q5,QU]at hz;obtain⟨h1,h2⟩:=hz;cases e with
  |Name x pos =>
   obtain⟨g1,g2⟩:=locB_ok h1;have g1':X.N[i]?=some x:=by rw[hN];exact g1
   have g2':X.env.scope.names.lookup x=some .local:=by rw[hsc];exact g2
   have ih:=setAll_ok hN hsc nd is es (by simpa using hl) h2;intro pins s σ H vs us Q I r h;obtain⟨σ',e,q⟩:=h;cases vs with
   |nil=>simp[fB]at e
   |cons v vs =>
    simp only[fB]at e;cases r with
    |cons r rr=>show wpAny _ _ (assignInOrder (assign (.Name x pos) X.env::(assignEach es X.env).map (·.2)) _) _ _ _;refine assignInOrder_cons (VB (pg_name (pos:=pos) nd g1' (.inl g2') (.inr g2') pins s σ H v _ _ I r (show gName i v σ H (fun σ1 H1=>σ1=σ.set i (some v)/\H1=H) from⟨rfl,rfl⟩)) fun _ s1 ⟨σ1,H1,I1,e1,e2⟩=>?_);subst e1 e2;exact ih pins s1 _ _ vs _ Q I1 rr ⟨σ',e,q⟩
  |_=>simp at h1
theorem len_each:∀(is:List Nat) (es:List Expr) (S:SC),is.length=es.length->((is.zip es).all fun p=>match p.2 with | .Name x _=>locB S p.1 x|_=>false)=true->(assignEach es X.env).length=es.length/\(assignEach es X.env).findIdx? (·.1)=none
 |[],[],_,_,_=>⟨rfl,rfl⟩
 |[],_::_,_,h,_=>by cases h
 |_::_,[],_,h,_=>by cases h
 |i::is,e::es,S,hl,hz=>by
  simp only[Wx,Q5,QU]at hz;obtain⟨h1,h2⟩:=hz;cases e with
  |Name x pos=>have ih:=len_each is es S (by simpa using hl) h2;have e1:assignEach (.Name x pos::es) X.env=(false,assign (.Name x pos) X.env)::assignEach es X.env:=rfl;rw[e1];refine⟨by rw[QL,QL,ih.1],?_⟩;rw[List.findIdx?_cons];simp[ih.2]
  |_=>simp at h1
theorem setAll_len:∀{is:List Nat}{vs:List V}{σ σ':St},fB is vs σ=some σ'->vs.length=is.length
 |[],[],_,_,_=>rfl
 |[],_::_,_,_,h=>by simp[fB]at h
 |_::_,[],_,_,h=>by simp[fB]at h
 |_::is,_::vs,σ,σ',h=>by simp only[fB]at h;rw[QL,QL,setAll_len h]
theorem pg_tg{S:SC}{G:Glob}{E:XK}(ok:OkX X S G E)(nd:X.N.Nodup){tg:Tg}{e:Expr}(h:tgB S tg e=true):PG X e (bindT X.K tg):=by
 cases tg with
 |nm i =>
  cases e with
  |Name x pos =>
   obtain⟨g1,g2⟩:=locB_ok h;have g1':X.N[i]?=some x:=by rw[ok.N];exact g1
   have g2':X.env.scope.names.lookup x=some .local:=by rw[ok.sc];exact g2
   exact pg_name nd g1' (.inl g2') (.inr g2')
  |_=>cases h
 |tp is =>
  cases e with
  |Tuple es k pos =>
   simp only[tgB,QU,beq_iff_eq]at h;obtain⟨h1,h2⟩:=h;obtain⟨l1,l2⟩:=len_each (X:=X) is es S h1 h2;have base:=pg_tup (pos:=pos) (k:=k) (n:=es.length) ok.calm (setAll_ok ok.N ok.sc nd is es h1 h2) l1 l2;intro pins s σ H v u Q I r hw;refine base pins s σ H v u Q I r ?_;cases v with
   |ref p=>obtain⟨xs,σ',hq,e,q⟩:=hw;exact⟨p,xs,rfl,hq,by rw[setAll_len e,h1],σ',e,q⟩
   |_=>exact QT hw
  |_=>cases h
end
variable{Γ:Ev}
theorem yl_list(K:QA)(a:Addr)(xs:List V):Yields (Itl K a) (xs.map .one) (fun H=>SqL K H a xs) :=
  { go:=fun i H h hi=>by
      have hi':i<xs.length:=by simpa using hi
      exact⟨xs,xs[i],h,by simp[hi']⟩
    yld:=fun i H x H' h _ ⟨e,y⟩=>⟨.one x,by rw[Qd,y xs h];rfl,rfl,e⟩
    stop:=fun i H h hi=>⟨xs,h,by simpa using hi⟩ }
theorem yl_tup(K:QA)(a:Addr)(xs:List V):Yields (Itt K a) (xs.map .one) (fun H=>SqT K H a xs) :=
  { go:=fun i H h hi=>by
      have hi':i<xs.length:=by simpa using hi
      exact⟨xs,xs[i],h,by simp[hi']⟩
    yld:=fun i H x H' h _ ⟨e,y⟩=>⟨.one x,by rw[Qd,y xs h];rfl,rfl,e⟩
    stop:=fun i H h hi=>⟨xs,h,by simpa using hi⟩ }
theorem yl_str(z:Str):Yields (Its z) (z.cps.toList.map fun c=>.one (.str ⟨#[c]⟩)) (fun _=>True) :=
  { go:=fun i H h hi=>by
      have hi':i<z.cps.size:=by simpa using hi
      exact hi'
    yld:=fun i H x H' h _ ⟨e,c,hc,ex⟩=>⟨.one x,by rw[Qd,Array.getElem?_toList,hc,ex];rfl,rfl,e⟩
    stop:=fun i H h hi=>by
      have hi':z.cps.size<=i:=by simpa using hi
      exact hi' }
theorem yl_rng(lo:Int)(n:Nat):Yields (Itr lo n) ((Qc n).map fun(k:Nat)=>.one (.int (lo+(k:Int)))) (fun _=>True) :=
  { go:=fun i H h hi=>by
      have hi':i<n:=by simpa using hi
      exact hi'
    yld:=fun i H x H' h hi ⟨e,ex⟩=>by
      have hi':i<n:=by simpa using hi
      exact⟨.one x,by rw[Qd,wX hi',ex];rfl,rfl,e⟩
    stop:=fun i H h hi=>by
      have hi':n<=i:=by simpa using hi
      exact hi' }
theorem yl_zip(K:QA)(z1 z2:Src)(xs ys:List V):Yields (Itz K z1 z2) ((xs.zip ys).map fun p=>.tup [p.1,p.2]) (fun H=>SqS K H z1 xs/\SqS K H z2 ys) :=
  { go:=fun i H h hi=>by
      have hi':i<xs.length/\i<ys.length:=by simp only[QG,QCH]at hi;omega
      exact⟨xs,ys,xs[i],ys[i],h.1,h.2,by simp[hi'.1],by simp[hi'.2]⟩
    yld:=fun i H x H' h hi ⟨p,a,b,hp,e,eH,k⟩=>by obtain⟨e1,e2⟩:=k xs ys h.1 h.2;refine⟨.tup [a,b],?_,p,hp,e,eH⟩;rw[Qd,(List.getElem?_zip_eq_some (z:=(a,b))).mpr ⟨e1,e2⟩];rfl
    stop:=fun i H h hi=>⟨xs,ys,h.1,h.2,by simp only[QG,QCH]at hi;omega⟩ }
theorem yl_enum(K:QA)(z:Src)(c:Nat)(xs:List V):Yields (Ite K z c) (xs.zipIdx.map fun p=>.tup [.int ((c+p.2:Nat):Int),p.1]) (fun H=>SqS K H z xs) :=
  { go:=fun i H h hi=>by
      have hi':i<xs.length:=by simpa using hi
      exact⟨xs,xs[i],h,by simp[hi']⟩
    yld:=fun i H x H' h hi ⟨p,a,hp,e,eH,k⟩=>by
      have hi':i<xs.length:=by simpa using hi
      have e1:=k xs h;refine⟨.tup [.int ((c+i:Nat):Int),a],?_,p,hp,e,eH⟩;have e2:xs.zipIdx[i]?=some (a,i):=by rw[List.getElem?_zipIdx,e1];simp
      rw[Qd,e2];rfl
    stop:=fun i H h hi=>⟨xs,h,by simpa using hi⟩ }
noncomputable def ItrS(lo k:Int)(n:Nat):It:=⟨fun i _=>i<n,fun i H x H'=>H'=H/\x=.int (lo+(i:Int) * k),fun i _=>n<=i⟩
theorem turn_rngS{P:Program}{w:World}{K:QA}{tg:Expr}(it:Addr)(lo k:Int)(n:Nat):Turn P w K tg (ItrS lo k n) [it] it (fun i h=>IsRangeIter h it (lo+(i:Nat) * k) ((n:Int) - (i:Nat)) k) where
 mem:=by simp
 obj:=fun i h st b hb=>by
  have e:b=it:=by simpa using hb
  subst e;exact⟨_,st,fun v z=>by cases(show Data.fields _=Data.cell v from z)⟩
 keep:=fun i h h' st k=>k it (by simp) _ st
 item:=by intro X hP hw hK hc i pins s σ H E I hf st hg;subst hP hw hK;obtain⟨f0,f1,f2,f3,f4,f5⟩:=hf it (by simp);refine(Walks.range (prog:=X.prog) (w:=X.w) (I.ok.hd hc) it lo k n).item i s _ _ hg st fun v h' tk hv st' kk=>?_;obtain⟨t,rfl⟩:=hv;have I1:Inv X pins σ H { s with heap:=h',toks:=tk }:=I.turned (fun b o hb e=>kk b o (by simpa using hb) e) f0 f1 f3 f4 f5;exact⟨_,rfl,go_of (s:={ s with heap:=h',toks:=tk }) (n:="range_iterator") st' rfl rfl (by decide) ⟨.int (lo+(i:Int) * k),H,I1,⟨t,rfl⟩,⟨rfl,rfl⟩,st',fun b hb=>(hf b hb).1⟩⟩
 done:=by intro X hP hw hK hc i pins s σ H E I hf st hg;subst hP hw hK;obtain⟨f0,f1,f2,f3,f4,f5⟩:=hf it (by simp);exact QAU (I.ok.hd hc) st (by have:n<=i:=hg;omega) fun h' eb=>⟨rfl,I.turned (t':=s.toks) (fun b o hb e=>eb b o hb e) f0 f1 f3 f4 f5⟩
 self:=fun _ _ _ _ _ st h=>QAV st h
theorem yl_rngS(lo k:Int)(n:Nat):Yields (ItrS lo k n) ((Qc n).map fun(m:Nat)=>.one (.int (lo+(m:Int) * k))) (fun _=>True) :=
  { go:=fun i H h hi=>by
      have hi':i<n:=by simpa using hi
      exact hi'
    yld:=fun i H x H' h hi ⟨e,ex⟩=>by
      have hi':i<n:=by simpa using hi
      exact⟨.one x,by rw[Qd,wX hi',ex];rfl,rfl,e⟩
    stop:=fun i H h hi=>by
      have hi':n<=i:=by simpa using hi
      exact hi' }
noncomputable def wiOf(wi0:St->Hp->(List Item->(Hp->Prop)->Hp->Prop)->Prop):TI:=fun σ H R=>wi0 σ H fun xs st H'=>∀J,Yields J xs st->R J H'
section
variable{X:Cx}{tg:Expr}
theorem pi_val'{l:Expr}{t:TE}(hl:PE X l t):PI X tg l (wiOf fun σ H R=>t σ H fun v H1=>uB X.K .val [v] H1 R):=by
 intro pins s σ H R I h;refine VB (hl pins s σ H _ I h) fun v s1 ⟨x,H1,I1,r1,q1⟩=>?_;have fp1:∀b∈[s1.heap.objs.size],FpOk X pins H1 b:=fun b hb=>by
  have e:b=s1.heap.objs.size:=by simpa using hb
  subst e;exact I1.fpOk (QX _) (I1.hok.fresh (QX _))
 cases x with
 |str z=>obtain⟨t,rfl⟩:=r1;refine wpAny_pyIter_strU ?_;exact⟨s1.heap.objs.size,[s1.heap.objs.size],_,_,H1,rfl,I1.kept (t':=s1.toks) fun b o e=>QE _ e,turn_str _ z t,⟨_,QY _ rfl,rfl,rfl⟩,fp1,q1 _ (yl_str z)⟩
 |ref a =>
  cases r1;rcases q1 with⟨xs,hq,q⟩| ⟨xs,hq,q⟩
  obtain⟨its,rv,p,hz⟩:=I1.list hq;refine WT p.isList ?_;exact⟨s1.heap.objs.size,[s1.heap.objs.size],_,_,H1,rfl,I1.kept (t':=s1.toks) fun b o e=>QE _ e,turn_list a _,⟨_,QY _ rfl,rfl,rfl⟩,fp1,q _ (yl_list _ a xs)⟩;obtain⟨its,rv,p,hz⟩:=I1.tuple hq;refine QBP (show s1.heap.IsTuple a its.toArray from p) ?_;exact⟨s1.heap.objs.size,[s1.heap.objs.size],_,_,H1,rfl,I1.kept (t':=s1.toks) fun b o e=>QE _ e,turn_tuple a _,⟨_,QY _ rfl,rfl,rfl⟩,fp1,q _ (yl_tup _ a xs)⟩
 |_=>exact QT q1
theorem pi_rng1{a:Expr}{ta:TA}{p pos:Pos}{x:Str}(hx:x="range")(hg:Gl X x)(hm:X.mg x=none)(ha:PA X [a] ta)(hs:LB a=true) :
  PI X tg (.Call (.Name x p) [a] [] pos) (wiOf fun σ H R=>ta σ H fun vs H1=>uB X.K .rng1 vs H1 R):=by
 subst hx;intro pins s σ H R I h;refine Call_ (ld_blt I hg hm boot_range (qW (VB (ha pos pins s σ H _ I h) fun us s1 ⟨vs,H1,I1,r1,q1⟩=>?_) (pA _ hs) rfl))
 match vs,q1 with
 |[.int j],⟨⟨q1,q2⟩,q⟩ =>
  cases r1 with
  |cons r rr =>
   cases rr;obtain⟨t,rfl⟩:=r;refine call_range_1 (range_it I1 (by omega) (by omega) q1 q2 ?_);have e:(j - 0).toNat=j.toNat:=by simp
   rw[e];have y:=yl_rng 0 j.toNat;refine q _ ?_;simpa using y
theorem pi_rng3{a b c:Expr}{ta:TA}{p pos:Pos}{x:Str}(hx:x="range")(hg:Gl X x)(hm:X.mg x=none)(ha:PA X [a,b,c] ta)(hs:LB a=true)(hs2:LB b=true)(hs3:LB c=true) :
  PI X tg (.Call (.Name x p) [a,b,c] [] pos) (wiOf fun σ H R=>ta σ H fun vs H1=>uB X.K .rng3 vs H1 R):=by
 subst hx;intro pins s σ H R I h;refine Call_ (ld_blt I hg hm boot_range (qW (VB (ha pos pins s σ H _ I h) fun us s1 ⟨vs,H1,I1,r1,q1⟩=>?_) (pA _ hs) (by rw[pA _ hs2,pA _ hs3];rfl)))
 match vs,q1 with
 |[.int i,.int j,.int k],⟨⟨q1,q2,q3,q4,q5,q6⟩,q⟩ =>
  cases r1 with
  |cons r rr =>
   cases rr with
   |cons r' rr =>
    cases rr with
    |cons r'' rr =>
     cases rr;obtain⟨t,rfl⟩:=r;obtain⟨t',rfl⟩:=r';obtain⟨t'',rfl⟩:=r'';have hp:Builtin.divisionGoesByPylong (j - i) k=false:=PyProof.noPylong_small (by omega);have rs:qU i j k=((rngN i j k:Nat):Int):=by unfold qU rngN;rw[if_pos q5];split;have:0<=(j - i - 1) / k:=QCI (by omega) (by omega);omega;rfl
     have sm:QBA i j k=true:=by
      unfold QBA;have hd:(j - i - 1) / k<=j - i - 1∨j<=i:=by rcases Int.lt_or_le i j with q|q;exact .inl (Int.ediv_le_self _ (by omega));exact .inr q
      have e:qU i j k=if i<j then(j - i - 1) / k+1 else 0:=by unfold qU;rw[if_pos q5]
      have hn:0<=(j - i - 1) / k∨j<=i:=by rcases Int.lt_or_le i j with q|q;exact .inl (QCI (by omega) (by omega));exact .inr q
      rw[e];simp only[Builtin.Range.rangeFitsLong,QU,qi,decide_eq_true_eq,beq_iff_eq,q5,if_true];split<;>omega
     refine PySem.call_range_3 (by omega) ?_ (.inl hp);refine QBJ (IsRange.new ..) sm ?_;have I2:Inv X pins σ H1 { s1 with heap:=s1.heap.push { cls:=.type "range",data:=.fields #[.int i t,.int j t',.int k t''] } }:=I1.kept (t':=s1.toks) fun b o e=>QE _ e;refine⟨_,[_],_,_,H1,rfl,I2.kept (t':=s1.toks) fun b o e=>QE _ e,turn_rngS _ i k (rngN i j k),?_,fun b hb=>?_,q _ (yl_rngS i k _)⟩;have e1:i+((0:Nat):Int) * k=i:=by simp
     have e2:((rngN i j k:Nat):Int) - ((0:Nat):Int)=qU i j k:=by rw[rs];simp
     rw[e1,e2];exact QY _ rfl;have e:=Qz.mp hb;subst e;exact I2.fpOk (QX _) (I2.hok.fresh (QX _))
theorem boot_zip:bootBuiltins ("zip":Str)=some (.type "zip"):=by kernel_rfl
theorem boot_enum:bootBuiltins ("enumerate":Str)=some (.type "enumerate"):=by kernel_rfl
theorem pi_zip{a b:Expr}{ta:TA}{p pos pt:Pos}{x:Str}{es:List Expr}{kt:Nat}(hx:x="zip")(hg:Gl X x)(hm:X.mg x=none)(ha:PA X [a,b] ta)(hs:LB a=true)(hs2:LB b=true) :
  PI X (.Tuple es kt pt) (.Call (.Name x p) [a,b] [] pos) (wiOf fun σ H R=>ta σ H fun vs H1=>uB X.K .zip2 vs H1 R):=by
 subst hx;intro pins s σ H R I h;refine Call_ (ld_blt I hg hm boot_zip (qW (VB (ha pos pins s σ H _ I h) fun us s1 ⟨vs,H1,I1,r1,q1⟩=>?_) (pA _ hs) (by rw[pA _ hs2];rfl)))
 match vs,q1 with
 |[.ref l1,.ref l2],⟨z1,z2,xs,ys,e1,e2,h1,h2,q⟩ =>
  subst e1 e2;cases r1 with
  |cons r rr =>
   cases rr with
   |cons r' rr =>
    cases rr;cases r;cases r';obtain⟨its,_,sh1,_⟩:=I1.src h1;obtain⟨jts,_,sh2,_⟩:=I1.src h2;refine call_zipS sh1 sh2 fun h' st kp=>QB3 st.1 ?_;have I2:=I1.kept (h':=h') (t':=s1.toks) kp;refine⟨_,[s1.heap.objs.size+4,s1.heap.objs.size+2,s1.heap.objs.size+3,s1.heap.objs.size,s1.heap.objs.size+1],_,_,H1,rfl,I2,turn_zip (zipOf_apart sh1.lt sh2.lt),st,fun b hb=>?_,q _ (yl_zip _ z1 z2 xs ys)⟩;have hb':s1.heap.objs.size<=b:=by simp only[QI,QR,or_false]at hb;rcases hb with rfl|rfl|rfl|rfl|rfl;exact wz _ _;exact wz _ _;exact wz _ _;exact QX _;exact wz _ _
    exact I1.fpOk hb' (I1.hok.fresh hb')
theorem enum_pie{pins:rC}{σ:St}{H1:Hp}{s1:Shared}{R:It->Hp->Prop}{es:List Expr}{kt c:Nat}{pt:Pos}{z:Src}{xs:List V}{its:Array Value}{h':Heap}(I1:Inv X pins σ H1 s1)(sh:rA s1.heap z its)(st:EnumSt (s1.heap.objs.size+1) s1.heap.objs.size z c 0 h')(kp:∀c o,s1.heap.get? c=some o->h'.get? c=some o)
  (q:∀J,Yields J (xs.zipIdx.map fun p=>.tup [.int ((c+p.2:Nat):Int),p.1]) (fun H=>SqS X.K H z xs)->R J H1):wpAny (model X.prog X.w) X.A (pyIter (.ref (s1.heap.objs.size+1))) (PIE X pins σ (.Tuple es kt pt) R) X.xe { s1 with heap:=h' }:=by
 obtain⟨⟨old,a1⟩,_⟩:=id st;refine QBd a1 ?_;have I2:=I1.kept (h':=h') (t':=s1.toks) kp;have lt:=sh.lt;refine⟨_,[s1.heap.objs.size+1,s1.heap.objs.size],_,_,H1,rfl,I2,turn_enum (nne (Nat.succ_ne_self _)) (Qu (QBa lt)) (Qu lt),st,fun b hb=>?_,q _ (yl_enum _ z c xs)⟩;have hb':s1.heap.objs.size<=b:=by simp only[QI,QR,or_false]at hb;rcases hb with rfl|rfl;exact wz _ _;exact QX _
 exact I1.fpOk hb' (I1.hok.fresh hb')
theorem pi_enum{a:Expr}{ta:TA}{p pos pt:Pos}{x:Str}{es:List Expr}{kt:Nat}(hx:x="enumerate")(hg:Gl X x)(hm:X.mg x=none)(ha:PA X [a] ta)(hs:LB a=true) :
  PI X (.Tuple es kt pt) (.Call (.Name x p) [a] [] pos) (wiOf fun σ H R=>ta σ H fun vs H1=>uB X.K .enum vs H1 R):=by
 subst hx;intro pins s σ H R I h;refine Call_ (ld_blt I hg hm boot_enum (qW (VB (ha pos pins s σ H _ I h) fun us s1 ⟨vs,H1,I1,r1,q1⟩=>?_) (pA _ hs) rfl))
 match vs,q1 with
 |[.ref l1],⟨z,xs,e1,h1,q⟩ =>
  subst e1;cases r1 with
  |cons r rr=>cases rr;cases r;obtain⟨its,_,sh1,_⟩:=I1.src h1;refine call_enumS sh1 fun h' st kp=>enum_pie (xs:=xs) I1 sh1 st kp ?_;simpa using q
theorem enumA_inv{K:QA}{u n:V}{H:Hp}{R:List Item->(Hp->Prop)->Hp->Prop}(h:uB K .enumA [u,n] H R):∃l i,u=.ref l/\n=.int i/\uB K .enumA [.ref l,.int i] H R:=by
 cases u with
 |ref l =>
  cases n with
  |int i=>exact⟨l,i,rfl,rfl,h⟩
  |_=>exact QT h
 |_=>cases n<;>exact QT h
theorem pi_enumA{a v:Expr}{ta tv:TE}{p pos pt kp:Pos}{x k:Str}{es:List Expr}{kt:Nat}(hx:x="enumerate")(hk:k="start")(hg:Gl X x)(hm:X.mg x=none)(ha:PE X a ta)(hv:PE X v tv)(hs:LB a=true) :
  PI X (.Tuple es kt pt) (.Call (.Name x p) [a] [⟨some k,v,kp⟩] pos) (wiOf fun σ H R=>ta σ H fun u H1=>tv σ H1 fun n H2=>uB X.K .enumA [u,n] H2 R):=by
 subst hx;intro pins s σ H R I h;refine wg (ld_blt I hg hm boot_enum (callWith_tyKw (pA _ hs) ?_));have hh:(tCons ta tNil) σ H fun vs H1=>∃u,vs=[u]/\tv σ H1 fun n H2=>uB X.K .enumA [u,n] H2 fun xs st H'=>∀J,Yields J xs st->R J H':=by
  have e:∀(x:V) (H1:Hp),(tv σ H1 fun n H2=>uB X.K .enumA [x,n] H2 fun xs st H'=>∀J,Yields J xs st->R J H')=∃u,[x]=[u]/\tv σ H1 fun n H2=>uB X.K .enumA [u,n] H2 fun xs st H'=>∀J,Yields J xs st->R J H':=fun x H1=>propext ⟨fun q=>⟨x,rfl,q⟩,fun⟨u,e,q⟩=>by cases e;exact q⟩;have h2:ta σ H fun x H1=>tv σ H1 fun n H2=>uB X.K .enumA [x,n] H2 fun xs st H'=>∀J,Yields J xs st->R J H':=h;have e2:(fun(x:V) (H1:Hp)=>tv σ H1 fun n H2=>uB X.K .enumA [x,n] H2 fun xs st H'=>∀J,Yields J xs st->R J H')=fun(x:V) (H1:Hp)=>∃u,[x]=[u]/\tv σ H1 fun n H2=>uB X.K .enumA [u,n] H2 fun xs st H'=>∀J,Yields J xs st->R J H':=by funext x H1;exact e x H1
  rw[e2]at h2;exact h2
 refine VB ((pa_cons ha pa_nil (pA _ hs)) pos pins s σ H _ I hh) fun us s1 ⟨vs,H1,I1,r1,u,ev,q1⟩=>?_;subst ev;cases r1 with
 |cons r rr =>
  cases rr;refine VB (hv pins s1 σ H1 _ I1 q1) fun kv s2 ⟨n,H2,I2,r2,q2⟩=>?_;obtain⟨l1,n',rfl,rfl,q2⟩:=enumA_inv q2;obtain⟨z,xs,e1,h1,⟨n0,n1⟩,q⟩:=q2;subst e1;cases r;obtain⟨t,rfl⟩:=r2;obtain⟨its,_,sh1,_⟩:=I2.src h1;have en:n'=((n'.toNat:Nat):Int):=by omega
  have fits:qr ((n'.toNat:Nat):Int)=true:=by rw[<- en];unfold qr;simp only[QU,decide_eq_true_eq];omega
  rw[en,hk];exact call_enumS1 fits sh1 fun h' st kp=>enum_pie (xs:=xs) I2 sh1 st kp q
end
noncomputable def Tg.at:Tg->List Nat
 | .nm i=>[i]
 | .tp is=>is
def Agree(tg:Tg)(σ' σ:St):Prop:=σ'.length=σ.length/\∀(j:Nat),j∉tg.at->σ'[j]?=σ[j]?
theorem set_agree{i:Nat}{v:Option V}{σ' σ:St}(h:σ'.length=σ.length)(hj:∀j,j≠i->σ'[j]?=σ[j]?):σ'.set i v=σ.set i v:=by apply wT;intro j;by_cases e:j=i;subst e;by_cases hl:j<σ.length;rw[qe (by omega),qe hl];rw[wH (by rw[wC];omega),wH (by rw[wC];omega)];rw[qO (Q4 e),qO (Q4 e)];exact hj j e
theorem setAll_agree:∀(is:List Nat) (vs:List V) (σ' σ:St),σ'.length=σ.length->(∀j,j∉is->σ'[j]?=σ[j]?)->fB is vs σ'=fB is vs σ
 |[],[],σ',σ,hl,h=>by have:σ'=σ:=wT fun j=>h j (by simp);rw[this]
 |[],_::_,_,_,_,_=>rfl
 |_::_,[],_,_,_,_=>rfl
 |i::is,v::vs,σ',σ,hl,h=>by simp only[fB];refine setAll_agree is vs _ _ (by simp[hl]) fun j hj=>?_;by_cases e:j=i;subst e;by_cases hl':j<σ.length;rw[qe (by omega),qe hl'];rw[wH (by rw[wC];omega),wH (by rw[wC];omega)];rw[qO (Q4 e),qO (Q4 e)];exact h j (by simp[e,hj])
theorem setAll_keeps:∀(is:List Nat) (vs:List V) (σ σ':St),fB is vs σ=some σ'->σ'.length=σ.length/\∀j,j∉is->σ'[j]?=σ[j]?
 |[],[],σ,σ',e=>by simp only[fB]at e;cases e;exact⟨rfl,fun _ _=>rfl⟩
 |[],_::_,_,_,e=>by simp[fB]at e
 |_::_,[],_,_,e=>by simp[fB]at e
 |i::is,v::vs,σ,σ',e=>by simp only[fB]at e;obtain⟨h1,h2⟩:=setAll_keeps is vs _ _ e;refine⟨by rw[h1,wC],fun j hj=>?_⟩;rw[h2 j (fun z=>hj (QJ _ z)),qO (fun z=>hj (by simp[z]))]
theorem bindT_agree{K:QA}{tg:Tg}{v:V}{σ' σ:St}{H:Hp}{Q:St->Hp->Prop}(a:Agree tg σ' σ)(h:bindT K tg v σ H Q):bindT K tg v σ' H fun σ3 H3=>Agree tg σ3 σ/\Q σ3 H3:=by
 obtain⟨al,aj⟩:=a;cases tg with
 |nm i=>have e:σ'.set i (some v)=σ.set i (some v):=set_agree al fun j hj=>aj j (by simpa[Tg.at]using hj);show Agree (.nm i) (σ'.set i (some v)) σ/\Q (σ'.set i (some v)) H;rw[e];exact⟨⟨by simp,fun j hj=>qO (fun z=>hj (by simp[Tg.at,z]))⟩,h⟩
 |tp is =>
  cases v with
  |ref p=>obtain⟨xs,σ3,hq,e,q⟩:=h;exact⟨xs,σ3,hq,by rw[setAll_agree is xs σ' σ al fun j hj=>aj j hj];exact e,⟨(setAll_keeps is xs σ σ3 e).1,fun j hj=>(setAll_keeps is xs σ σ3 e).2 j hj⟩,q⟩
  |_=>exact QT h
theorem bindT_mono{K:QA}{tg:Tg}{v:V}{σ:St}{H:Hp}{Q Q':St->Hp->Prop}(m:∀σ H,Q σ H->Q' σ H)(h:bindT K tg v σ H Q):bindT K tg v σ H Q':=by
 cases tg with
 |nm i=>exact m _ _ h
 |tp is =>
  cases v with
  |ref p=>obtain⟨xs,σ3,hq,e,q⟩:=h;exact⟨xs,σ3,hq,e,m _ _ q⟩
  |_=>exact QT h
theorem bindI_step{K:QA}{tg:Tg}{it:Item}{x:V}{σ:St}{H H':Hp}{Q:St->Hp->Prop}(hi:match it with | .one v=>x=v/\H'=H | .tup vs=>∃p,H p=none/\x=.ref p/\H'=FB H p (.tup vs))(h:bindI K tg it σ H Q):bindT K tg x σ H' Q:=by
 cases it with
 |one v=>obtain⟨rfl,rfl⟩:=hi;exact h
 |tup vs =>
  obtain⟨p,hp,rfl,rfl⟩:=hi;cases tg with
  |nm i=>exact h p hp
  |tp is =>
   obtain⟨σ',e,q⟩:=h (FB H p (.tup vs)) fun b o e=>by rw[fA (SA e hp)];exact e
   exact⟨vs,σ',SqT.of nB,e,q⟩
theorem compB_of{K:QA}{xs:List Item}{st:Hp->Prop}{tg:Tg}{tc:TT}{te:TE}{σ0:St}{H:Hp}{Q:VK}(h:compR K xs st (bindI K tg) tc te σ0 H Q):CompB K xs st tg tc te σ0 H Q:=by
 obtain⟨W,w0,hst,turn,done⟩:=h;intro J Y;refine⟨fun i m acc σ' H'=>m=xs.length - i/\i<=xs.length/\Agree tg σ' σ0/\W i acc H',⟨xs.length,by simp,QA2 _,⟨rfl,fun _ _=>rfl⟩,w0⟩,?_⟩;rintro i m acc σ' H' ⟨rfl,hi,ag,w⟩;have s':=hst i acc H' hi w;by_cases hlt:i<xs.length;refine .inr ⟨Y.go i H' s' hlt,fun x H2 y=>?_⟩;obtain⟨it,hit,hy⟩:=Y.yld i H' x H2 s' hlt y;have b:=bindT_agree ag (bindI_step hy (turn i it acc H' hit w));refine bindT_mono (fun σ3 H3 q=>?_) b;obtain⟨ag3,q⟩:=q;have e1:∀(acc':List V) (H5:Hp),(∃m',m' < xs.length - i/\m'=xs.length - (i+1)/\i+1<=xs.length/\Agree tg σ3 σ0/\W (i+1) acc' H5)=W (i+1) acc' H5:=fun acc' H5 =>
  propext ⟨fun⟨_,_,_,_,_,w⟩=>w,fun w=>⟨_,by omega,rfl,hlt,ag3,w⟩⟩
 simp only[e1];exact q
 ·have e:i=xs.length:=by omega
  subst e;obtain⟨hz,q⟩:=done acc H' w;exact .inl ⟨Y.stop _ H' s' (QX _),hz,q⟩
end L2.L3
namespace L2.L3
open PySem PySem.Spec PyProof.Rows
variable{Γ:Ev}
noncomputable def notArgs:PX->Bool
 | .ng _ _=>false
 |_=>true
theorem argsPE_triv{X:Cx}{E:XK}{p:PX}{es:List Expr}(h:notArgs p=true):ArgsPE X Γ E p es:=by cases p<;>first|trivial|cases h
theorem asB_eq'(Q:Bool->Hp->Prop):(fun(x:V) (H1:Hp)=>asB x H1 Q)=fun(x:V) (H1:Hp)=>∃k,x=.bl k/\Q k H1:=by funext x H1;exact asB_eq x H1 Q
theorem Snd.of{X:Cx}{E:XK}{p:PX}{e:Expr}(pe:PE X e (wp X.K Γ p E).e)(pt:PT X e (wp X.K Γ p E).t)(hb:∀op es pos,e≠.BoolOp op es pos)(ha:(wp X.K Γ p E).a=never.a)(hn:notArgs p=true:=by rfl):Snd X Γ E p e :=
 ⟨pe,pt,fun op es pos z=>absurd z (hb op es pos),fun es pos z=>by rw[ha];exact pa_never,fun _ _ _=>argsPE_triv hn⟩
theorem Snd.lit{X:Cx}{E:XK}{p:PX}{e:Expr}(pe:PE X e (wp X.K Γ p E).e)(ht:(wp X.K Γ p E).t=never.t)(hb:∀op es pos,e≠.BoolOp op es pos)(ha:(wp X.K Γ p E).a=never.a)(hn:notArgs p=true:=by rfl):Snd X Γ E p e :=
 Snd.of pe (by rw[ht];exact pt_never) hb ha hn
theorem Snd.args{X:Cx}{E:XK}{p:PX}{es:List Expr}{pos:Pos}(ha:PA X es (wp X.K Γ p E).a)(hp:ArgsPE X Γ E p es)(he:(wp X.K Γ p E).e=never.e)(ht:(wp X.K Γ p E).t=never.t):Snd X Γ E p (.List es pos) :=
 ⟨by rw[he];exact pe_never,by rw[ht];exact pt_never,fun _ _ _ z=>(by cases z),fun es' pos' z=>by cases z;exact ha,fun es' pos' z=>by cases z;exact hp⟩
theorem pe_glo{X:Cx}{S:SC}{x:Str}{v:V}{u:Value}{pos:Pos}(hsc:X.env.scope=S.sc)(h:gloB S x=true)(hm:X.mg x=some u)(r:FA v u):PE X (.Name x pos) (fun _ H Q=>Q v H):=by obtain⟨h1,h2,h3⟩:=gloB_ok h;exact pe_glob (show X.env.scope.names.lookup x=some .globalImplicit by rw[hsc];exact h1) hm r h2
theorem EB{S:SC}{pos:Pos}:∀(p:PX) {es:List Expr},xC p S (.List es pos)=true->es.all LB=true:=by
 intro p;induction p with
 |nh=>intro es h;have h:es.isEmpty=true:=h;rw[Q0.mp h];rfl
 |ng a as _ ih=>intro es h;have h:onC es _=true:=h;obtain⟨x,t,rfl,h⟩:=onC_i h;have h1:=jA h;rw[Q5,h1.1,ih (jA h1.2).2];rfl
 |lst as ih=>exact fun h=>ih h
 |prm o as=>intro es h;have h:=(jA h).2;cases o<;>exact(QC h).elim
 |_=>exact fun h=>(QC h).elim
theorem args_nil{K:QA}{E:XK}{S:SC}{pos:Pos}{σ:St}{H:Hp}{Q:List V->Hp->Prop}:∀(p:PX),isArgs p=true->xC p S (.List [] pos)=true->((wp K Γ p E).a σ H Q↔Q [] H):=by
 intro p;cases p with
 |nh=>exact fun _ _=>w8
 |ng _ _=>exact fun _ h=>(QC h).elim
 |_=>exact fun h=>(QC h).elim
theorem args_nil0{K:QA}{E:XK}{S:SC}{pos:Pos}{σ:St}{H:Hp}{Q:List V->Hp->Prop}(p:PX)(h:xC p S (.List [] pos)=true)(q:(wp K Γ p E).a σ H Q):Q [] H:=by
 cases hi:isArgs p with
 |true=>exact(args_nil p hi h).mp q
 |false =>
  cases p with
  |nh=>exact q
  |ng _ _=>exact(QC h).elim
  |_=>exact q.elim
theorem args_one{S:SC}{a:Expr}{pos:Pos}(p:PX)(h0:isArgs p=true)(h:xC p S (.List [a] pos)=true):∃a1,p=.ng a1 .nh:=by
 cases p with
 |ng a1 r =>
  have h2:xC r S (.List [] pos)=true:=(jA (jA h).2).2;cases r with
  |nh=>exact⟨a1,rfl⟩
  |ng _ _=>exact(QC h2).elim
  |_=>exact(QC h0).elim
 |nh=>exact(QC h).elim
 |_=>exact(QC h0).elim
theorem args_two{S:SC}{a b:Expr}{pos:Pos}(p:PX)(h0:isArgs p=true)(h:xC p S (.List [a,b] pos)=true):∃a1 b1,p=.ng a1 (.ng b1 .nh):=by
 cases p with
 |ng a1 r=>obtain⟨b1,e⟩:=args_one r h0 (jA (jA h).2).2;exact⟨a1,b1,by rw[e]⟩
 |nh=>exact(QC h).elim
 |_=>exact(QC h0).elim
theorem mt_ok{X:Cx}(m:Mt):∃id,PlainAttrs m.ty/\Slot m.ty m.nm id/\typeOf (.builtin id)=pure (.type "method_descriptor")/\MtR X id (mtR X.K m):=by
 cases m with
 |split=>exact⟨_,WR,PySem.F.slot_str_split,PySem.F.type_str_split,mt_split⟩
 |append=>exact⟨_,wY,PySem.F.slot_list_append,PySem.F.type_list_append,mt_appU⟩
 |rstrip=>exact⟨_,WR,PySem.F.slot_str_rstrip,PySem.F.type_str_rstrip,mt_rstrip⟩
 |join=>exact⟨_,WR,PySem.F.slot_str_join,PySem.F.type_str_join,mt_join⟩
 |extend=>exact⟨_,wY,PySem.F.slot_list_extend,PySem.F.type_list_extend,mt_extU⟩
 |insert=>exact⟨_,wY,PySem.F.slot_list_insert,PySem.F.type_list_insert,mt_insU⟩
 |clear=>exact⟨_,wY,PySem.F.slot_list_clear,PySem.F.type_list_clear,mt_clrU⟩
theorem any_star{env:Env}{pos:Pos}:∀{es:List Expr},es.all LB=true->(backTo pos (starEach es env)).any (·.1)=false
 |[],_=>rfl
 |e::es,h=>by rw[Q5]at h;obtain⟨h1,h2⟩:=jA h;rw[pA env h1];show(false||(backTo pos (starEach es env)).any (·.1))=false;rw[any_star h2];rfl
theorem all_star{env:Env}{pos:Pos}:∀{es:List Expr},es.all LB=true->(backTo pos (starEach es env)).all (fun x=>!x.1)=true
 |[],_=>rfl
 |e::es,h=>by rw[Q5]at h;obtain⟨h1,h2⟩:=jA h;rw[pA env h1];show(true&&(backTo pos (starEach es env)).all (fun x=>!x.1))=true;rw[all_star h2];rfl
theorem pi_ofS{X:Cx}{S:SC}{G:Glob}{E:XK}(ok:OkX X S G E){ik:ItK}{its:PX}{t it:Expr}{pos:Pos}(hik:itC (isArgs its) S ik (fun es p=>xC its S (.List es p)) t it pos=true)(n1:ikN G ik)
  (sn:∀es p,xC its S (.List es p)=true->Snd X G.ev E its (.List es p)):PI X t it (wiOf fun σ H R=>(wp X.K G.ev its E).a σ H fun vs H1=>uB X.K ik vs H1 R):=by
 have glo:∀{x:Str},gloB S x=true->Gl X x:=fun {x} h=>by show X.env.scope.names.lookup x=some .globalImplicit;rw[ok.sc];exact(gloB_ok h).1
 have tupT:isTupE t=true->∃es k p,t=.Tuple es k p:=fun h=>by
  cases t with
  |Tuple es k p=>exact⟨es,k,p,rfl⟩
  |_=>exact(QC h).elim
 cases ik with
 |val=>have i:=jA hik;have pas:=(sn _ pos i.2).pas _ pos rfl;obtain⟨a,rfl⟩:=args_one its i.1 i.2;exact pi_val' pas.1
 |rng1=>obtain⟨px,es,ks,p,rfl,hg,h⟩:=callC_i hik;have h1:=jA h;cases Q0.mp h1.1;obtain⟨a,rfl,h3⟩:=bC h1.2;exact pi_rng1 rfl (glo hg) (ok.no _ n1) ((sn _ p h3).pa _ p rfl) (by simpa using EB its h3)
 |rng3=>obtain⟨px,es,ks,p,rfl,hg,h⟩:=callC_i hik;have h1:=jA h;cases Q0.mp h1.1;obtain⟨a,b,c,rfl,h3⟩:=on3_i h1.2;have st:=jA (EB its h3);have st2:=jA st.2;exact pi_rng3 rfl (glo hg) (ok.no _ n1) ((sn _ p h3).pa _ p rfl) st.1 st2.1 (jA st2.2).1
 |zip2=>have i:=jA hik;obtain⟨es,k,pt,rfl⟩:=tupT i.1;obtain⟨px,es,ks,p,rfl,hg,h⟩:=callC_i i.2;have h1:=jA h;cases Q0.mp h1.1;obtain⟨a,b,rfl,h3⟩:=on2_i h1.2;have st:=jA (EB its h3);exact pi_zip rfl (glo hg) (ok.no _ n1) ((sn _ p h3).pa _ p rfl) st.1 (jA st.2).1
 |enum=>have i:=jA hik;obtain⟨es,k,pt,rfl⟩:=tupT i.1;obtain⟨px,es,ks,p,rfl,hg,h⟩:=callC_i i.2;have h1:=jA h;cases Q0.mp h1.1;obtain⟨a,rfl,h3⟩:=bC h1.2;exact pi_enum rfl (glo hg) (ok.no _ n1) ((sn _ p h3).pa _ p rfl) (by simpa using EB its h3)
 |enumA=>have i:=jA hik;obtain⟨es,k,pt,rfl⟩:=tupT i.1;have i2:=jA i.2;obtain⟨px,es,ks,p,rfl,hg,h⟩:=callC_i i2.2;obtain⟨a,rfl,h1⟩:=bC h;obtain⟨⟨ka,kv,kp⟩,rfl,h2⟩:=bC h1;have h3:=jA h2;have ek:ka=some ("start":Str):=qC h3.1;cases ek;have st:=jA (EB its h3.2);have pas:=(sn _ p h3.2).pas _ p rfl;obtain⟨c,d,rfl⟩:=args_two its i2.1 h3.2;exact pi_enumA rfl rfl (glo hg) (ok.no _ n1) pas.1 pas.2.1 st.1
theorem pe_cont{X:Cx}{e:Expr}{te te':TE}(h:PE X e te)(q:∀σ H Q,te' σ H Q->te σ H Q):PE X e te':=fun pins s σ H Q I z=>h pins s σ H Q I (q σ H Q z)
theorem snd{G:Glob}:∀(p:PX) {X:Cx}{S:SC}{E:XK}(ok:OkX X S G E) {e:Expr},xC p S e=true->dB G p->Snd X G.ev E p e:=by
 intro p;induction p with
 |var i =>
  intro X S E ok e h _;obtain⟨x,pos,rfl,h⟩:=MC h;obtain⟨h1,h2,h3,h4⟩:=visB_ok h;have base:=pe_var (pos:=pos) (show X.N[i]?=some x by rw[ok.N];exact h1) (show Vis X.env.scope x by rw[ok.sc];exact h2) h3 h4;have pe:PE X (.Name x pos) (wp X.K G.ev (.var i) E).e:=pe_cont base fun σ H Q q=>by
   have q:(match σ[i]? with|some (some v)=>Q v H|_=>False):=q;cases hs:σ[i]? with
   |none=>rw[hs]at q;exact q.elim
   |some o =>
    rw[hs]at q;cases o with
    |none=>exact q.elim
    |some v=>exact⟨v,hs,q⟩
  exact Snd.of pe (KC pe fun _=>rfl) (fun _ _ _ z=>by cases z) rfl
 |int i=>intro X S E ok e h _;obtain⟨c,k,pos,rfl,h⟩:=onConst_i h;obtain⟨j,rfl,h⟩:=cInt_i h;cases qC h;exact Snd.of pe_int (KC (ta:=fun _ H Q=>Q (.int i) H) pe_int fun _=>rfl) (fun _ _ _ z=>by cases z) rfl
 |str x=>intro X S E ok e h _;obtain⟨c,k,pos,rfl,h⟩:=onConst_i h;obtain⟨j,rfl,h⟩:=cStr_i h;cases qC h;exact Snd.lit pe_str rfl (fun _ _ _ z=>by cases z) rfl
 |bl b=>intro X S E ok e h _;obtain⟨c,k,pos,rfl,h⟩:=onConst_i h;obtain⟨j,rfl,h⟩:=cBool_i h;cases qC h;exact Snd.of pe_bl (KC (ta:=fun _ H Q=>Q (.bl b) H) pe_bl fun _=>rfl) (fun _ _ _ z=>by cases z) rfl
 |non=>intro X S E ok e h _;obtain⟨c,k,pos,rfl,h⟩:=onConst_i h;cases cNone_i h;exact Snd.of pe_non (KC (ta:=fun _ H Q=>Q .non H) pe_non fun _=>rfl) (fun _ _ _ z=>by cases z) rfl
 |glo x=>intro X S E ok e h nd;obtain⟨y,pos,rfl,h⟩:=MC h;have h:=jA h;cases qC h.1;obtain⟨u,hm,r⟩:=ok.val x nd;have pe:=pe_glo (pos:=pos) ok.sc h.2 hm r;exact Snd.of pe (KC pe fun _=>rfl) (fun _ _ _ z=>by cases z) rfl
 |bty x n=>intro X S E ok e h nd;obtain⟨y,pos,rfl,h⟩:=MC h;have h:=jA h;cases qC h.1;obtain⟨g1,g2,g3⟩:=gloB_ok h.2;exact Snd.lit (pe_bltn (show X.env.scope.names.lookup x=some .globalImplicit by rw[ok.sc];exact g1) (ok.no x nd.1) nd.2 rfl g3 g2) rfl (fun _ _ _ z=>by cases z) rfl
 |bin op a b iha ihb=>intro X S E ok e h nd;obtain⟨l,o,r,pos,rfl,h⟩:=onBin_i h;have h1:=jA h;have h2:=jA h1.2;cases qC h1.1;have pe:=pe_op (pos:=pos) (op_bin op) (iha ok h2.1 nd.1).pe (ihb ok h2.2 nd.2).pe;exact Snd.of pe (KC pe fun _=>rfl) (fun _ _ _ z=>by cases z) rfl
 |cmp op a b iha ihb=>intro X S E ok e h nd;obtain⟨l,os,rs,pos,rfl,h⟩:=onCmp_i h;obtain⟨o,rfl,h⟩:=bC h;obtain⟨r,rfl,h⟩:=bC h;have h1:=jA h;have h2:=jA h1.2;have h3:=jA h2.2;cases qC h1.1;have pa:=(iha ok h3.1 nd.1).pe;have pb:=(ihb ok h3.2 nd.2).pe;refine Snd.of (pe_cmpR (pos:=pos) (op_cmp ok.un op) pa pb (noMark h2.1)) (fun pins s σ H Q I q=>pt_cmpR (pos:=pos) (op_cmp ok.un op) pa pb (noMark h2.1) pins s σ H Q I ?_) (fun _ _ _ z=>by cases z) rfl;show tOp _ _ _ σ H (fun(x:V) (H1:Hp)=>∃k,x=.bl k/\Q k H1);rw[<- asB_eq' Q];exact q
 |chn o p a b c iha ihb ihc =>
  intro X S E ok e h nd;obtain⟨l,os,rs,pos,rfl,h⟩:=onCmp_i h;obtain⟨o',p',rfl,h⟩:=on2_i h;obtain⟨r,q',rfl,h⟩:=on2_i h;have h1:=jA h;have h2:=jA h1.2;have h3:=jA h2.2;have h4:=jA h3.2;have h5:=jA h4.2;cases qC h1.1;cases qC h2.1;have pa:=(iha ok h4.1 nd.1).pe;have pb:=(ihb ok h5.1 nd.2.1).pe;have pc:=(ihc ok h5.2 nd.2.2).pe;have lm:lastMarks [o,p] [r,q']=false:=noMark h3.1;have eq:∀(Q:VK) (σ:St) (y:V),(fun(z:V) (H3:Hp)=>∃k,z=.bl k/\(if k=true then(wp X.K G.ev c E).e σ H3 fun w' H4=>cmpR X.K p y w' H4 Q else Q (.bl false) H3)) =
    fun(z:V) (H3:Hp)=>asB z H3 fun k H4=>if k=true then(wp X.K G.ev c E).e σ H4 fun w' H5=>cmpR X.K p y w' H5 Q else Q (.bl false) H4:=fun Q σ y=>(asB_eq' _).symm
  have pe:PE X (.Compare l [o,p] [r,q'] pos) (wp X.K G.ev (.chn o p a b c) E).e:=fun pins s σ H Q I q=>pe_chain (pos:=pos) (op_cmp ok.un o) (op_cmp ok.un p) pa pb pc lm pins s σ H Q I (by show(wp X.K G.ev a E).e σ H fun x H1=>(wp X.K G.ev b E).e σ H1 fun y H2=>cmpR X.K o x y H2 ((fun(y:V) (z:V) (H3:Hp)=>∃k,z=.bl k/\(if k=true then(wp X.K G.ev c E).e σ H3 fun w' H4=>cmpR X.K p y w' H4 Q else Q (.bl false) H3)) y);simp only[eq];exact q);refine Snd.of pe (fun pins s σ H Q I q=>pt_chain (pos:=pos) (op_cmp ok.un o) (op_cmp ok.un p) pa pb pc lm pins s σ H Q I ?_) (fun _ _ _ z=>by cases z) rfl;show tChain _ _ _ _ _ σ H (fun(x:V) (H1:Hp)=>∃k,x=.bl k/\Q k H1);rw[<- asB_eq' Q];show(wp X.K G.ev a E).e σ H fun x H1=>(wp X.K G.ev b E).e σ H1 fun y H2=>cmpR X.K o x y H2 ((fun(y:V) (z:V) (H3:Hp)=>∃k,z=.bl k/\(if k=true then(wp X.K G.ev c E).e σ H3 fun w' H4=>cmpR X.K p y w' H4 (fun(x:V) (H1:Hp)=>asB x H1 Q) else(fun(x:V) (H1:Hp)=>asB x H1 Q) (.bl false) H3)) y);simp only[eq];exact q
 |and a b iha ihb =>
  intro X S E ok e h nd;obtain⟨o,es,pos,rfl,h⟩:=onBool_i h;have h1:=jA h;cases qC h1.1;obtain⟨l,t,rfl,h2⟩:=onC_i h1.2;obtain⟨r,t,rfl,h3⟩:=onC_i h2;have h4:=jA h3;have sa:=iha ok h4.1 nd.1;have sb:=ihb ok h4.2 nd.2;have eqA:∀(σ:St) (Q:VK),(fun(x:V) (H1:Hp)=>∃c,x=.bl c/\if c=true then(wp X.K G.ev b E).e σ H1 Q else Q (.bl false) H1)=fun(x:V) (H1:Hp)=>asB x H1 fun c H2=>if c=true then(wp X.K G.ev b E).e σ H2 Q else Q (.bl false) H2:=fun σ Q=>(asB_eq' _).symm
  have key:PW X (.BoolOp .And (l::r::t) pos) (wp X.K G.ev (.and a b) E).t/\PE X (.BoolOp .And (l::r::t) pos) (fun σ H Q=>(wp X.K G.ev a E).e σ H fun x H1=>∃c,x=.bl c/\if c=true then(wp X.K G.ev b E).e σ H1 Q else Q (.bl false) H1):=by
   cases t with
   |nil=>exact⟨pw_and sa.pt (pw_and1 sb.pt),pe_and (pos:=pos) sa.pe (pe_one sb.pe)⟩
   |cons q t=>exact⟨pw_and sa.pt (sb.pw _ _ _ rfl),pe_and (pos:=pos) sa.pe sb.pe⟩
  refine⟨pe_cont key.2 fun σ H Q q=>?_,key.1.pt,fun _ _ _ _=>key.1,fun _ _ z=>(by cases z),fun _ _ z=>trivial⟩;rw[eqA];exact q
 |or a b iha ihb =>
  intro X S E ok e h nd;obtain⟨o,es,pos,rfl,h⟩:=onBool_i h;have h1:=jA h;cases qC h1.1;obtain⟨l,t,rfl,h2⟩:=onC_i h1.2;obtain⟨r,t,rfl,h3⟩:=onC_i h2;have h4:=jA h3;have sa:=iha ok h4.1 nd.1;have sb:=ihb ok h4.2 nd.2;have eqA:∀(σ:St) (Q:VK),(fun(x:V) (H1:Hp)=>∃c,x=.bl c/\if c=true then Q (.bl true) H1 else(wp X.K G.ev b E).e σ H1 Q)=fun(x:V) (H1:Hp)=>asB x H1 fun c H2=>if c=true then Q (.bl true) H2 else(wp X.K G.ev b E).e σ H2 Q:=fun σ Q=>(asB_eq' _).symm
  have key:PW X (.BoolOp .Or (l::r::t) pos) (wp X.K G.ev (.or a b) E).t/\PE X (.BoolOp .Or (l::r::t) pos) (fun σ H Q=>(wp X.K G.ev a E).e σ H fun x H1=>∃c,x=.bl c/\if c=true then Q (.bl true) H1 else(wp X.K G.ev b E).e σ H1 Q):=by
   cases t with
   |nil=>exact⟨pw_or sa.pt (pw_or1 sb.pt),pe_or (pos:=pos) sa.pe (pe_one sb.pe)⟩
   |cons q t=>exact⟨pw_or sa.pt (sb.pw _ _ _ rfl),pe_or (pos:=pos) sa.pe sb.pe⟩
  refine⟨pe_cont key.2 fun σ H Q q=>?_,key.1.pt,fun _ _ _ _=>key.1,fun _ _ z=>(by cases z),fun _ _ z=>trivial⟩;rw[eqA];exact q
 |not a iha=>intro X S E ok e h nd;obtain⟨o,x,pos,rfl,h⟩:=onUn_i h;have h1:=jA h;cases qC h1.1;have sa:=iha ok h1.2 nd;refine Snd.of (fun pins s σ H Q I q=>?_) (pt_not sa.pt) (fun _ _ _ z=>by cases z) rfl;refine UnaryOp_ (VB (sa.pe pins s σ H _ I q) fun v s1 ⟨x,H1,I1,r1,q1⟩=>?_);have q1:truQ X.K x H1 (fun c H2=>Q (.bl (!c)) H2):=q1;rw[truQ_eq]at q1;refine not_of (VB (tru_ok pins s1 σ H1 x v _ I1 r1 q1) fun c s2 ⟨H2,I2,q2⟩=>?_);exact⟨.bl (!c),H2,I2,rfl,q2⟩
 |ife c a b ihc iha ihb=>intro X S E ok e h nd;obtain⟨t,l,r,pos,rfl,h⟩:=onIf_i h;have h1:=jA h;have h2:=jA h1.2;exact Snd.lit (pe_ifExp (pos:=pos) (ihc ok h1.1 nd.1).pt (iha ok h2.1 nd.2.1).pe (ihb ok h2.2 nd.2.2).pe) rfl (fun _ _ _ z=>by cases z) rfl
 |call f as ih =>
  intro X S E ok e h nd;obtain⟨p,es,ks,pos,rfl,hg,h⟩:=callC_i h;have h1:=jA h;cases Q0.mp h1.1;obtain⟨g1,g2,g3⟩:=gloB_ok hg;have hg:Gl X f:=show X.env.scope.names.lookup f=some .globalImplicit by rw[ok.sc];exact g1
  obtain⟨CX,k,a,fd,ps,F,hr,hm,hk,hb,hx,_⟩:=ok.fn f nd.1;have pa:=(ih ok h1.2 nd.2).pa es pos rfl;have st:=EB as h1.2;have pe:PE X (.Call (.Name f p) es [] pos) (wp X.K G.ev (.call f as) E).e:=by
   cases es with
   |nil=>exact pe_cont (pe_call0 (pos:=pos) (p:=p) F hr hg hm hk hb .nil hx g2) fun σ H Q q=>args_nil0 as h1.2 q
   |cons e1 es1=>have st:=jA st;refine pe_cont (pe_call (pos:=pos) (p:=p) F hr hg hm hk hb .nil hx pa g2 (pA _ st.1) (any_star st.2)) fun σ H Q q=>?_;show(wp X.K G.ev as E).a σ H fun vs H1=>G.ev.sp f (vs++[]) H1 Q E;simp only[Qi];exact q
  exact Snd.of pe (KC pe fun _=>rfl) (fun _ _ _ z=>by cases z) rfl
 |idx a b iha ihb=>intro X S E ok e h nd;obtain⟨v,i,pos,rfl,h⟩:=onSub_i h;have h1:=jA h;have h2:=jA h1.2;have pe:=pe_ix (pos:=pos) ix_any (iha ok h2.1 nd.1).pe (ihb ok h2.2 nd.2).pe (plainIx h1.1);exact Snd.of pe (KC pe fun _=>rfl) (fun _ _ _ z=>by cases z) rfl
 |nop=>intro X S E ok e h nd;exact(QC h).elim
 |lst as ih=>intro X S E ok e h nd;obtain⟨es,pos,rfl,h⟩:=onList_i h;have pa:=(ih ok h nd).pa es pos rfl;exact⟨pe_lst pa,pt_never,fun _ _ _ z=>(by cases z),fun _ _ z=>pa_never,fun _ _ z=>trivial⟩
 |tup as ih=>intro X S E ok e h nd;obtain⟨es,k,pos,rfl,h⟩:=onTup_i h;exact Snd.lit (pe_tup ((ih ok h nd).pa es pos rfl)) rfl (fun _ _ _ z=>by cases z) rfl
 |nh=>intro X S E ok e h nd;obtain⟨es,pos,rfl,h⟩:=onList_i h;cases Q0.mp h;exact Snd.args pa_nil trivial rfl rfl
 |ng a as iha ih=>intro X S E ok e h nd;obtain⟨es,pos,rfl,h⟩:=onList_i h;obtain⟨e1,es1,rfl,h⟩:=onC_i h;have h1:=jA h;have h2:=jA h1.2;have sa:=(iha ok h2.1 nd.1).pe;have ss:=ih ok h2.2 nd.2;exact Snd.args (pa_cons sa (ss.pa es1 pos rfl) (pA _ h1.1)) ⟨sa,ss.pas es1 pos rfl⟩ rfl rfl
 |bi f as ih =>
  intro X S E ok e h nd;obtain⟨p,es,ks,pos,rfl,hg,h⟩:=callC_i h;have h1:=jA h;cases Q0.mp h1.1;obtain⟨e1,es1,rfl,h3⟩:=onC_i h1.2;obtain⟨g1,g2,g3⟩:=gloB_ok hg;have hg:Gl X f.nm:=show X.env.scope.names.lookup f.nm=some .globalImplicit by rw[ok.sc];exact g1
  have pa:=(ih ok h3 nd.2).pa _ pos rfl;have st:=jA (EB as h3);have pe:PE X (.Call (.Name f.nm p) (e1::es1) [] pos) (wp X.K G.ev (.bi f as) E).e:=by
   rcases bi_ok ok.calm f with⟨id,hb,hc⟩| ⟨T,hb,hc⟩
   exact pe_callB (pos:=pos) (p:=p) hc hg (ok.no _ nd.1) hb pa g3 g2 (pA _ st.1) (any_star st.2);exact pe_callTy (pos:=pos) (p:=p) hc hg (ok.no _ nd.1) hb pa g3 g2 (pA _ st.1) (any_star st.2)
  exact Snd.of pe (KC pe fun _=>rfl) (fun _ _ _ z=>by cases z) rfl
 |eff a iha=>intro X S E ok e h nd;rcases(qi _ _).mp h with h|h;obtain⟨x,y,z,w,rfl,h⟩:=onLC_i h;exact Snd.lit (iha ok h nd).pe rfl (fun _ _ _ z=>by cases z) rfl;obtain⟨x,y,z,rfl,h⟩:=onSub_i h;exact Snd.lit (iha ok h nd).pe rfl (fun _ _ _ z=>by cases z) rfl
 |prm o as ih =>
  intro X S E ok e h nd;have h0:=jA h;cases o with
  |dget x =>
   obtain⟨v,ap,es,cp,rfl,hl,h1⟩:=methC_i h0.2;obtain⟨y,p,rfl,h2⟩:=MC h1;have h3:=jA h2;have h4:=jA h3.2;cases qC h3.1;obtain⟨a,rfl,h5⟩:=bC h4.2;obtain⟨ad,kvs,hm,hd,D⟩:=ok.dic x nd.1;have po:PE X (.Name x p) (fun _ H Q=>Q (.ref ad) H):=pe_glo (pos:=p) ok.sc h4.1 hm rfl;have st:=EB as h5;have pas:=(ih ok h5 nd.2).pas _ cp rfl;obtain⟨a1,rfl⟩:=args_one as h0.1 h5;have base:=pe_cget (apos:=ap) (cpos:=cp) D po pas.1 rfl (by rw[all_star st];rfl) hl (pA _ (jA st).1);have pe:PE X (.Call (.Attribute (.Name x p) "get" ap) [a] [] cp) (wp X.K G.ev (.prm (.dget x) (.ng a1 .nh)) E).e:=by
    refine pe_cont base fun σ H Q q=>?_;have e:(fun(y:V) (H1:Hp)=>∃z,y=.str z/\Q ((kvs.lookup z).getD .non) H1)=fun(y:V) (H1:Hp)=>prmR X.K G.ev (.dget x) [y] H1 Q:=by
     funext y H1;apply propext;constructor;rintro⟨z,rfl,q⟩;exact⟨kvs,hd,q⟩;intro q;cases y with
     |str z=>obtain⟨k2,e2,q⟩:=q;rw[hd]at e2;cases e2;exact⟨z,rfl,q⟩
     |_=>exact q.elim
    rw[e];exact q
   exact Snd.of pe (KC pe fun _=>rfl) (fun _ _ _ z=>by cases z) rfl
  |dgetD x =>
   obtain⟨v,ap,es,cp,rfl,hl,h1⟩:=methC_i h0.2;obtain⟨y,p,rfl,h2⟩:=MC h1;have h3:=jA h2;have h4:=jA h3.2;cases qC h3.1;obtain⟨a,b,rfl,h5⟩:=on2_i h4.2;obtain⟨ad,kvs,hm,hd,D⟩:=ok.dic x nd.1;have po:PE X (.Name x p) (fun _ H Q=>Q (.ref ad) H):=pe_glo (pos:=p) ok.sc h4.1 hm rfl;have st:=EB as h5;have pas:=(ih ok h5 nd.2).pas _ cp rfl;obtain⟨a1,b1,rfl⟩:=args_two as h0.1 h5;have st':=st;rw[Q5,Q5]at st';have base:=pe_cgetD (apos:=ap) (cpos:=cp) D po pas.1 pas.2.1 rfl (by rw[all_star st];rfl) hl (by rw[pA _ (jA st').1,pA _ (jA (jA st').2).1];rfl);have pe:PE X (.Call (.Attribute (.Name x p) "get" ap) [a,b] [] cp) (wp X.K G.ev (.prm (.dgetD x) (.ng a1 (.ng b1 .nh))) E).e:=by
    intro pins s σ H Q I q;refine base pins s σ H Q I ?_;have e:(fun(y:V) (H1:Hp)=>(wp X.K G.ev b1 E).e σ H1 fun(d:V) (H2:Hp)=>∃z,y=.str z/\Q ((kvs.lookup z).getD d) H2)=fun(y:V) (H1:Hp)=>(wp X.K G.ev b1 E).e σ H1 fun(d:V) (H2:Hp)=>prmR X.K G.ev (.dgetD x) [y,d] H2 Q:=by
     funext y H1;congr 1;funext d H2;apply propext;constructor;rintro⟨z,rfl,q⟩;exact⟨kvs,hd,q⟩;intro q;cases y with
     |str z=>obtain⟨k2,e2,q⟩:=q;rw[hd]at e2;cases e2;exact⟨z,rfl,q⟩
     |_=>exact q.elim
    show(wp X.K G.ev a1 E).e σ H (fun(y:V) (H1:Hp)=>(wp X.K G.ev b1 E).e σ H1 fun(d:V) (H2:Hp)=>∃z,y=.str z/\Q ((kvs.lookup z).getD d) H2);rw[e];exact q
   exact Snd.of pe (KC pe fun _=>rfl) (fun _ _ _ z=>by cases z) rfl
  |dix x =>
   obtain⟨v,i,pos,rfl,h1⟩:=onSub_i h0.2;obtain⟨y,p,rfl,h2⟩:=MC h1;have h3:=jA h2;have h4:=jA h3.2;have h5:=jA h4.2;cases qC h3.1;obtain⟨ad,kvs,hm,hd,D⟩:=ok.dic x nd.1;have po:PE X (.Name x p) (fun _ H Q=>Q (.ref ad) H):=pe_glo (pos:=p) ok.sc h4.1 hm rfl;have pas:=(ih ok h5.2 nd.2).pas _ pos rfl;obtain⟨a1,rfl⟩:=args_one as h0.1 h5.2;have base:=pe_ix (pos:=pos) (ix_const D) po pas.1 (plainIx h5.1);have pe:PE X (.Subscript (.Name x p) i pos) (wp X.K G.ev (.prm (.dix x) (.ng a1 .nh)) E).e:=by
    refine pe_cont base fun σ H Q q=>?_;have e:(fun(y:V) (H1:Hp)=>∃z v,(V.ref ad)=.ref ad/\y=.str z/\kvs.lookup z=some v/\Q v H1)=fun(y:V) (H1:Hp)=>prmR X.K G.ev (.dix x) [y] H1 Q:=by
     funext y H1;apply propext;constructor;rintro⟨z,v,_,rfl,l,q⟩;exact⟨kvs,v,hd,l,q⟩;intro q;cases y with
     |str z=>obtain⟨k2,v,e2,l,q⟩:=q;rw[hd]at e2;cases e2;exact⟨z,v,rfl,rfl,l,q⟩
     |_=>exact q.elim
    show(wp X.K G.ev a1 E).e σ H (fun(y:V) (H1:Hp)=>∃z v,(V.ref ad)=.ref ad/\y=.str z/\kvs.lookup z=some v/\Q v H1);rw[e];exact q
   exact Snd.of pe (KC pe fun _=>rfl) (fun _ _ _ z=>by cases z) rfl
  |tmul=>obtain⟨l,o,r,pos,rfl,h1⟩:=onBin_i h0.2;have h2:=jA h1;cases qC h2.1;have pas:=(ih ok h2.2 nd.2).pas _ pos rfl;obtain⟨a1,b1,rfl⟩:=args_two as h0.1 h2.2;have pe:PE X (.BinOp l .Mult r pos) (wp X.K G.ev (.prm .tmul (.ng a1 (.ng b1 .nh))) E).e:=pe_op op_tmul pas.1 pas.2.1;exact Snd.of pe (KC pe fun _=>rfl) (fun _ _ _ z=>by cases z) rfl
 |isi a c iha ihc =>
  intro X S E ok e h nd;obtain⟨p,es,ks,pos,rfl,hg,h⟩:=callC_i h;have h1:=jA h;cases Q0.mp h1.1;obtain⟨l,r,rfl,h2⟩:=on2_i h1.2;have h3:=jA h2;have h4:=jA h3.2;have h5:=jA h4.2;obtain⟨g1,g2,g3⟩:=gloB_ok hg;have hg:Gl X "isinstance":=show X.env.scope.names.lookup ("isinstance":Str)=some .globalImplicit by rw[ok.sc];exact g1
  have pe:PE X (.Call (.Name "isinstance" p) [l,r] [] pos) (wp X.K G.ev (.isi a c) E).e :=
   pe_callB (pos:=pos) (p:=p) call_isi hg (ok.no _ nd.1) (by kernel_rfl) (pa_cons (iha ok h5.1 nd.2.1).pe (pa_cons (ihc ok h5.2 nd.2.2).pe pa_nil (pA _ h4.1)) (pA _ h3.1)) g3 g2 (pA _ h3.1) (any_star (by rw[Q5,h4.1];rfl))
  exact Snd.of pe (KC pe fun _=>rfl) (fun _ _ _ z=>by cases z) rfl
 |mt m o as iho ih =>
  intro X S E ok e h nd;obtain⟨v,ap,es,pos,rfl,h2,h⟩:=methC_i h;have h0:=jA h;have h1:=jA h0.2;have h3:=jA h1.2;have h4:=jA h3.2;have po:=(iho ok h4.1 nd.1).pe;have pa:=(ih ok h4.2 nd.2).pa _ pos rfl;have st:=EB as h4.2;obtain⟨id,pat,sl,ty,mr⟩:=mt_ok (X:=X) m;have pe:PE X (.Call (.Attribute v m.nm ap) es [] pos) (wp X.K G.ev (.mt m o as) E).e:=by
   cases es with
   |nil =>
    refine pe_cont (pe_bm0 (apos:=ap) (cpos:=pos) pat sl ty mr po (noSup h1.1) h2) fun σ H Q q=>?_;have e:(fun(x:V) (H1:Hp)=>tyV X.K m.ty x H1/\mtR X.K m x [] H1 Q)=fun(x:V) (H1:Hp)=>tyV X.K m.ty x H1/\(wp X.K G.ev as E).a σ H1 fun vs H2=>mtR X.K m x vs H2 Q:=by funext x H1;rw[propext (args_nil as h0.1 h4.2)]
    show(wp X.K G.ev o E).e σ H (fun(x:V) (H1:Hp)=>tyV X.K m.ty x H1/\mtR X.K m x [] H1 Q);rw[e];exact q
   |cons e1 es1=>have s2:=jA st;refine pe_bm (apos:=ap) (cpos:=pos) pat sl ty mr po pa (noSup h1.1) ?_ h2 (pA _ s2.1) (any_star s2.2);rw[all_star st];have hl':(e1::es1).length<20:=of_decide_eq_true h3.1;show(true&&true&&decide ((e1::es1).length+0+0<30))=true;rw[dT (Ql hl' (by decide:20<=30):(e1::es1).length+0+0<30)];rfl
  exact Snd.of pe (KC pe fun _=>rfl) (fun _ _ _ z=>by cases z) rfl
 |slc a lo hi iha ihl ihh =>
  intro X S E ok e h nd;obtain⟨v,sl,pos,rfl,h⟩:=onSub_i h;obtain⟨l,u,st,p2,rfl,h⟩:=onSlice_i h;have h1:=jA h;have h2:=jA h1.2;have h3:=jA h2.2;have part:∀(q:PX) (w:Option Expr),(∀{e:Expr},xC q S e=true->PE X e (wp X.K G.ev q E).e)->onO w (isNop q) (fun e=>!isNop q&&xC q S e)=true ->
    PO X w (fun σ H R=>(if isNop q=true then fun(R:Option Int->Hp->Prop)=>R none H else fun R=>(wp X.K G.ev q E).e σ H fun l H2=>partQ l H2 R) R):=by
   intro q w ihq hq;cases w with
   |none=>have e:isNop q=true:=hq;simp only[e,if_true];exact po_none
   |some e' =>
    have q1:=jA hq;have e:isNop q=false:=(wQ _).mp q1.1;simp only[e,Qk,if_false];intro pins s σ H Q I w;refine po_some (ihq q1.2) pins s σ H Q I ?_;show(wp X.K G.ev q E).e σ H (fun(x:V) (H1:Hp)=>∃i,x=.int i/\Q (some i) H1);have e2:(fun(x:V) (H1:Hp)=>∃i,x=.int i/\Q (some i) H1)=fun(x:V) (H1:Hp)=>partQ x H1 Q:=by funext x H1;exact(partQ_eq x H1 Q).symm
    rw[e2];exact w
  cases Option.isNone_iff_eq_none.mp h1.1;exact Snd.lit (pe_slice (pos:=pos) (p2:=p2) sl_any (iha ok h2.1 nd.1).pe (part lo l (fun hc=>(ihl ok hc nd.2.1).pe) h3.1) (part hi u (fun hc=>(ihh ok hc nd.2.2).pe) h3.2)) rfl (fun _ _ _ z=>by cases z) rfl
 |comp mask tgs tg ik its cond elt ihi ihc ihe =>
  intro X S E ok e h nd;obtain⟨e,gens,scope,pos,rfl,h⟩:=onLC_i h;obtain⟨⟨t,it,ifs,asy⟩,rfl,h⟩:=bC h;have h0:=jA h;have h1:=jA h0.2;have h2:=jA h1.2;have h3:=jA h2.2;have h4:=jA h3.2;have h5:=jA h4.2;have ea:asy=0:=qC h0.1;cases ea;have C:CompSt X.N X.env.scope scope tgs mask:=by rw[ok.N,ok.sc];exact compB_ok h1.1
  obtain⟨n1,n2,n3,n4⟩:=nd;have pi:PI X t it (wiOf fun σ H R=>(wp X.K G.ev its E).a σ H fun vs H1=>uB X.K ik vs H1 R):=pi_ofS ok h4.1 n1 fun es p q=>ihi ok q n2;refine Snd.lit (pe_comp (pos:=pos) (g:=bindT X.K tg) (tc:=if isNop cond=true then fun _ H Q=>Q true H else(wp X.K G.ev cond (fun _ _ _=>False)).t) (te:=(wp X.K G.ev elt (fun _ _ _=>False)).e) ok.calm pi C (fun s H ex=>?_) (fun x=>noFold h3.1 x)) rfl (fun _ _ _ z=>by cases z) rfl;have okc:=ok.comp scope tgs mask s H ex;refine⟨pg_tg okc C.nd h2.1,?_,(ihe okc h5.2 n4).pe⟩;have hif:=h5.1;cases ifs with
  |nil=>have e:isNop cond=true:=hif;simp only[e,if_true];exact pif_nil
  |cons c r=>have q1:=jA hif;have q2:=jA q1.2;cases Q0.mp q1.1;have e:isNop cond=false:=(wQ _).mp q2.1;simp only[e,Qk,if_false];exact pif_one (ihc okc q2.2 n3).pt
end L2.L3
namespace L2.L3
open PySem PySem.Spec PyProof.Rows
set_option genSizeOf false in
set_option genInjectivity false in
inductive PT where
 |nil|seq (s r:PT)
 |set (i:Nat) (e:PX)
 |expr (e:PX)|ret (e:PX)
 |ife (c:PX) (a b:PT)
 |for_ (tg:Tg) (ik:ItK) (its:PX) (body:PT)
 |own (i:Nat) (e:PX)|rse|six (j:Nat) (i e:PX)|pap (j:Nat) (k e:PX)|frz (is:List Nat) (s:PT)|hs (s:PT)
noncomputable def papX(j:Nat)(k e:PX):PX:=.mt .append (.idx (.var j) k) (.ng e .nh)
def forJ(J:It)(g:TG)(tb:TS)(D:Ends)(σ:St)(H1:Hp):Prop:=∃W:Nat->Nat->St->Hp->Prop,(∃m,W 0 m σ H1)/\∀i m σ H,W i m σ H ->
 (J.stop i H/\D.nx σ H)∨(J.go i H/\∃N:St->Hp->Prop,(∀σ' H',N σ' H'->∃m',m' < m/\W (i+1) m' σ' H')/\∀x H',J.yld i H x H'->g x σ H' fun σ2 H2=>tb { D with nx:=N,ct:=N,bk:=D.nx } σ2 H2)
def ForB(K:QA)(xs:List Item)(st:Hp->Prop)(tg:Tg)(tb:TS)(D:Ends)(σ:St)(H:Hp):Prop:=∀J,Yields J xs st->forJ J (bindT K tg) tb D σ H
noncomputable def wps(K:QA)(Γ:Ev)(E:XK):PT->TS
 | .nil=>fun D σ H=>D.nx σ H
 | .seq s r=>fun D σ H=>wps K Γ E s { D with nx:=fun σ H=>wps K Γ E r D σ H } σ H
 | .set i e=>fun D σ H=>(wp K Γ e E).e σ H fun x H1=>D.nx (σ.set i (some x)) H1
 | .own i e=>fun D σ H=>(wp K Γ e E).e σ H fun x H1=>D.nx (σ.set i (some x)) H1
 | .expr e=>fun D σ H=>(wp K Γ e E).e σ H fun _ H1=>D.nx σ H1
 | .ret e=>fun D σ H=>(wp K Γ e E).e σ H D.rt
 | .ife c a b=>fun D σ H=>(wp K Γ c E).t σ H fun k H1=>if k=true then wps K Γ E a D σ H1 else wps K Γ E b D σ H1
 | .for_ tg ik its body=>fun D σ H=>(wp K Γ its E).a σ H fun vs H1=>uB K ik vs H1 fun xs st H2=>ForB K xs st tg (wps K Γ E body) D σ H2
 | .rse=>tNever
 | .frz _ s=>wps K Γ E s
 | .hs s=>wps K Γ E s
 | .six j i e=>fun D σ H=>(wp K Γ e E).e σ H fun v H1=>(wp K Γ (.var j) E).e σ H1 fun ov H2=>(wp K Γ i E).e σ H2 fun iv H3=>rSetL ov iv v H3 fun H4=>D.nx σ H4
 | .pap j k e=>fun D σ H=>(wp K Γ (papX j k e) E).e σ H fun _ H1=>D.nx σ H1
noncomputable def needsS(G:Glob):PT->Prop
 | .nil=>True
 | .rse=>True
 | .frz _ s=>needsS G s
 | .hs s=>needsS G s
 | .six _ i e=>dB G i/\dB G e
 | .pap j k e=>dB G (papX j k e)
 | .seq s r=>needsS G s/\needsS G r
 | .set _ e=>dB G e
 | .own _ e=>dB G e
 | .expr e=>dB G e
 | .ret e=>dB G e
 | .ife c a b=>dB G c/\needsS G a/\needsS G b
 | .for_ _ ik its body=>ikN G ik/\dB G its/\needsS G body
noncomputable def noComp:Expr->Bool
 | .ListComp _ _ _ _ | .SetComp _ _ _ _ | .DictComp _ _ _ _ _=>false
 |_=>true
noncomputable def storeB(S:SC)(i:Nat)(x:Str):Bool:=S.N[i]?==some x&&(S.sc.names.lookup x==some .local||S.sc.names.lookup x==some .cell)
noncomputable def isOne:PT->Bool
 | .nil=>false
 | .seq _ _=>false
 | .frz _ s=>isOne s
 | .hs s=>isOne s
 |_=>true
noncomputable def onAsg(s:Stmt)(f:List Expr->Expr->Bool):Bool:=match s with | .Assign ts v _=>f ts v|_=>false
noncomputable def onEx(s:Stmt)(f:Expr->Bool):Bool:=match s with | .Expr v _=>f v|_=>false
noncomputable def onRet(s:Stmt)(f:Option Expr->Bool):Bool:=match s with | .Return v _=>f v|_=>false
noncomputable def onIfS(s:Stmt)(f:Expr->List Stmt->List Stmt->Bool):Bool:=match s with | .If t x y _=>f t x y|_=>false
noncomputable def onFor(s:Stmt)(f:Expr->Expr->List Stmt->List Stmt->Pos->Bool):Bool:=match s with | .For t it x y p=>f t it x y p|_=>false
noncomputable def isRse(s:Stmt):Bool:=match s with | .Raise _ _ _=>true|_=>false
theorem onAsg_i{s:Stmt}{f:List Expr->Expr->Bool}(h:onAsg s f=true):∃ts v p,s=.Assign ts v p/\f ts v=true:=by
 cases s with
 |Assign ts v p=>exact⟨ts,v,p,rfl,h⟩
 |_=>exact(QC h).elim
theorem onEx_i{s:Stmt}{f:Expr->Bool}(h:onEx s f=true):∃v p,s=.Expr v p/\f v=true:=by
 cases s with
 |Expr v p=>exact⟨v,p,rfl,h⟩
 |_=>exact(QC h).elim
theorem onRet_i{s:Stmt}{f:Option Expr->Bool}(h:onRet s f=true):∃v p,s=.Return v p/\f v=true:=by
 cases s with
 |Return v p=>exact⟨v,p,rfl,h⟩
 |_=>exact(QC h).elim
theorem onIfS_i{s:Stmt}{f:Expr->List Stmt->List Stmt->Bool}(h:onIfS s f=true):∃t x y p,s=.If t x y p/\f t x y=true:=by
 cases s with
 |If t x y p=>exact⟨t,x,y,p,rfl,h⟩
 |_=>exact(QC h).elim
theorem onFor_i{s:Stmt}{f:Expr->Expr->List Stmt->List Stmt->Pos->Bool}(h:onFor s f=true):∃t it x y p,s=.For t it x y p/\f t it x y p=true:=by
 cases s with
 |For t it x y p=>exact⟨t,it,x,y,p,rfl,h⟩
 |_=>exact(QC h).elim
theorem isRse_i{s:Stmt}(h:isRse s=true):∃a b p,s=.Raise a b p:=by
 cases s with
 |Raise a b p=>exact⟨a,b,p,rfl⟩
 |_=>exact(QC h).elim
noncomputable def setB(S:SC)(i:Nat)(c:Expr->Bool)(l:List Stmt):Bool:=on1 l fun st=>onAsg st fun ts v=>on1 ts fun t=>onName t fun x _=>storeB S i x&&((noComp v||S.sc.names.lookup x==some .cell)&&c v)
noncomputable def isCmp0:PX->Bool
 | .comp _ _ _ _ _ _ _=>true
 |_=>false
noncomputable def unE:PX->PX
 | .eff a=>a
 |a=>a
noncomputable def setCB(S:SC)(i:Nat)(e:PX)(l:List Stmt):Bool:=on1 l fun st=>onAsg st fun ts v=>on1 ts fun t=>onName t fun x px=>onLC v fun el gs sc cp=>locB S i x&&(S.sc.kind==.function&&(px.line==cp.line&&(!(sc.names.any fun(n,k)=>n==x&&(k==.local||k==.cell))&&(isCmp0 (unE e)&&xC (unE e) S (.ListComp el gs sc cp)))))
noncomputable def chkS:PT->SC->List Stmt->Bool
 | .nil,_,l=>l.isEmpty
 | .seq s r,S,l=>onC l fun st l=>isOne s&&(chkS s S [st]&&chkS r S l)
 | .set i e,S,l=>setB S i (xC e S) l||setCB S i e l
 | .own i e,S,l=>setB S i (xC e S) l||setCB S i e l
 | .expr e,S,l=>on1 l fun st=>onEx st fun v=>noComp v&&xC e S v
 | .ret e,S,l=>on1 l fun st=>onRet st fun v=>onO v false (xC e S)
 | .ife c a b,S,l=>on1 l fun st=>onIfS st fun t x y=>xC c S t&&(chkS a S x&&chkS b S y)
 | .for_ tg ik its body,S,l=>on1 l fun st=>onFor st fun t it x y pos=>y.isEmpty&&(tgB S tg t&&(noSet it&&(itC (isArgs its) S ik (fun es p=>xC its S (.List es p)) t it pos&&chkS body S x)))
 | .six j i e,S,l=>on1 l fun st=>onAsg st fun ts v=>on1 ts fun t=>onSub t fun ov iv _=>noSlice iv&&(noComp v&&(xC e S v&&(xC (.var j) S ov&&xC i S iv)))
 | .pap j k e,S,l=>on1 l fun st=>onEx st fun v=>noComp v&&xC (papX j k e) S v
 | .frz _ s,S,l=>chkS s S l
 | .hs s,S,l=>chkS s S l
 | .rse,_,l=>on1 l isRse
structure OkS(X:Cx)(S:SC)(G:Glob)(E:XK):Prop extends OkX X S G E where
 po:PassesOwn (model X.prog X.w) X.A X.env X.xe
 nd:X.N.Nodup
 cel:∀x,X.fn x=true
section
variable{X:Cx}{S:SC}{G:Glob}{E:XK}
theorem noSwap{e:Expr}{t:Option Expr}{n:Nat}{env:Env}(h:noComp e=true):swapsWith e t n env=pure false:=by cases e<;>first|rfl|cases h
theorem storeB_ok{i:Nat}{x:Str}(ok:OkX X S G E)(h:storeB S i x=true):X.N[i]?=some x/\Loc X.env.scope x:=by simp only[storeB,QU,qi,beq_iff_eq]at h;rw[ok.N,ok.sc];exact⟨h.1,h.2⟩
theorem ps_setAny(ok:OkS X S G E){i:Nat}{x:Str}{e:PX}{v:Expr}{px pos:Pos}(h1:storeB S i x=true)(h2:(noComp v||S.sc.names.lookup x==some .cell)=true)(pe:PE X v (wp X.K G.ev e E).e) :
  PS X (.Assign [.Name x px] v pos) (wps X.K G.ev E (.set i e)):=by
 obtain⟨g1,g2⟩:=storeB_ok ok.toOkX h1;refine ps_set (pos':=px) ok.nd g1 g2 pe ?_ (.inl (ok.cel x));cases hn:noComp v with
 |true=>exact noSwap hn
 |false =>
  rw[hn,Bool.false_or,beq_iff_eq,<- ok.sc]at h2;have hk:X.env.kindOf x=some .cell:=h2;have key:∀(b c:Bool) (p1 p2:Nat),(pure (b&&X.env.kindOf x==some .local&&p1==p2&&!c):Sem Bool)=pure false:=fun b c p1 p2=>by
   rw[hk];have:(b&&(some NameKind.cell==some NameKind.local)&&p1==p2&&!c)=false:=by cases b<;>rfl
   rw[this]
  cases v with
  |ListComp el gs sc cp=>exact key _ _ _ _
  |SetComp el gs sc cp=>exact key _ _ _ _
  |DictComp k v gs sc cp=>exact key _ _ _ _
  |_=>cases hn
theorem isCmp_i{e:PX}(h:isCmp0 e=true):∃a b c d f g k,e=.comp a b c d f g k:=by
 cases e with
 |comp a b c d f g k=>exact⟨a,b,c,d,f,g,k,rfl⟩
 |_=>exact(QC h).elim
theorem ps_cmp(ok:OkS X S G E){i:Nat}{e:PX}{l:List Stmt}(h:setCB S i e l=true)(nd:dB G e):∃st,l=[st]/\PS X st (wps X.K G.ev E (.set i e)):=by
 have nd:dB G (unE e):=by cases e<;>exact nd
 have ew:wps X.K G.ev E (.set i e)=wps X.K G.ev E (.set i (unE e)):=by cases e<;>rfl
 rw[ew];obtain⟨st,e1,q1⟩:=bC h;obtain⟨ts,v,p,e2,q2⟩:=onAsg_i q1;obtain⟨t,e3,q3⟩:=bC q2;obtain⟨x,px,e4,q4⟩:=MC q3;obtain⟨el,gs,sc,cp,e5,q5⟩:=onLC_i q4;subst e1 e2 e3 e4 e5;have h1:=jA q5;have h2:=jA h1.2;have h3:=jA h2.2;have h4:=jA h3.2;have h5:=jA h4.2;obtain⟨mask,tgs,tg,ik,its,cond,elt,ee⟩:=isCmp_i h5.1;rw[ee]at nd h5 ⊢;refine⟨_,rfl,?_⟩;have h6:=h5.2;obtain⟨el',gens,scope,pos,ee,g⟩:=onLC_i h6;cases ee;obtain⟨⟨t,it,ifs,asy⟩,rfl,g⟩:=bC g;have g0:=jA g;have g1:=jA g0.2;have g2:=jA g1.2;have g3:=jA g2.2;have g4:=jA g3.2;have g5:=jA g4.2;have ea:asy=0:=qC g0.1;cases ea;have C:CompSt X.N X.env.scope sc tgs mask:=by rw[ok.N,ok.sc];exact compB_ok g1.1
 obtain⟨n1,n2,n3,n4⟩:=nd;obtain⟨l1,l2⟩:=locB_ok h1.1;have l2':X.env.scope.names.lookup x=some .local:=by rw[ok.sc];exact l2
 refine ps_setC (g:=bindT X.K tg) (tc:=if isNop cond=true then fun _ H Q=>Q true H else(wp X.K G.ev cond (fun _ _ _=>False)).t) (te:=(wp X.K G.ev elt (fun _ _ _=>False)).e) ok.calm ok.nd (by rw[ok.N];exact l1) l2' (pi_ofS ok.toOkX (pos:=cp) g4.1 n1 fun es p q=>snd its ok.toOkX q n2) C (fun s H ex=>?_) (fun x=>noFold g3.1 x) ?_;have okc:=ok.toOkX.comp sc tgs mask s H ex;refine⟨pg_tg okc C.nd g2.1,?_,(snd elt okc g5.2 n4).pe⟩;have hif:=g5.1;cases ifs with
 |nil=>have e:isNop cond=true:=hif;simp only[e,if_true];exact pif_nil
 |cons c r=>have p1:=jA hif;have p2:=jA p1.2;cases Q0.mp p1.1;have e:isNop cond=false:=(wQ _).mp p2.1;simp only[e,Qk,if_false];exact pif_one (snd cond okc p2.2 n3).pt
 have k1:X.env.scope.kind=.function:=by rw[ok.sc];exact qC h2.1
 have k2:(X.env.blockKind==.function)=true:=by simp[Env.blockKind,k1,ScopeKind.isAnnotationScope]
 have k3:(X.env.kindOf x==some .local)=true:=by show(X.env.scope.names.lookup x==some .local)=true;rw[l2'];rfl
 show(pure (X.env.blockKind==.function&&X.env.kindOf x==some .local&&px.line==cp.line&&!(sc.names.any fun(n,k)=>n==x&&(k==.local||k==.cell))):Sem Bool)=pure true;rw[k2,k3,h3.1,h4.1];rfl
theorem snds:∀(p:PT) {l:List Stmt},OkS X S G E->chkS p S l=true->needsS G p->PSs X l (wps X.K G.ev E p)/\(isOne p=true->∀st,l=[st]->PS X st (wps X.K G.ev E p)):=by
 intro p;have one:∀{p:PT}{st:Stmt},PS X st (wps X.K G.ev E p)->PSs X [st] (wps X.K G.ev E p)/\(isOne p=true->∀st',[st]=[st']->PS X st' (wps X.K G.ev E p)):=fun h=>⟨pss_one h,fun _ st' e=>by cases e;exact h⟩
 have stor:∀{i:Nat}{e:PX}{l:List Stmt},OkS X S G E->(setB S i (xC e S) l||setCB S i e l)=true->dB G e->∃st,l=[st]/\PS X st (wps X.K G.ev E (.set i e)):=fun {i e l} ok h nd=>by
  rcases(qi _ _).mp h with h|h
  rotate_left
  exact ps_cmp ok h nd;obtain⟨st,e1,q1⟩:=bC h;obtain⟨ts,v,p,e2,q2⟩:=onAsg_i q1;obtain⟨t,e3,q3⟩:=bC q2;obtain⟨x,px,e4,q4⟩:=MC q3;subst e1 e2 e3 e4;have h1:=jA q4;have h2:=jA h1.2;exact⟨_,rfl,ps_setAny ok h1.1 h2.1 (snd e ok.toOkX h2.2 nd).pe⟩
 induction p with
 |nil=>intro l ok h nd;cases Q0.mp h;exact⟨pss_nil,fun h=>(QC h).elim⟩
 |seq s r ihs ihr=>intro l ok h nd;obtain⟨st,l,rfl,h⟩:=onC_i h;have h1:=jA h;have h2:=jA h1.2;exact⟨pss_cons ((ihs ok h2.1 nd.1).2 h1.1 st rfl) (ihr ok h2.2 nd.2).1,fun h=>(QC h).elim⟩
 |set i e=>intro l ok h nd;obtain⟨st,rfl,q⟩:=stor ok h nd;exact one q
 |own i e=>intro l ok h nd;obtain⟨st,rfl,q⟩:=stor ok h nd;exact one q
 |expr e=>intro l ok h nd;obtain⟨st,rfl,h⟩:=bC h;obtain⟨v,p,rfl,h⟩:=onEx_i h;have h1:=jA h;exact one (ps_expr (snd e ok.toOkX h1.2 nd).pe (noSwap h1.1))
 |ret e =>
  intro l ok h nd;obtain⟨st,rfl,h⟩:=bC h;obtain⟨v,p,rfl,h⟩:=onRet_i h;cases v with
  |none=>exact(QC h).elim
  |some v=>exact one (ps_ret (snd e ok.toOkX h nd).pe)
 |ife c a b iha ihb=>intro l ok h nd;obtain⟨st,rfl,h⟩:=bC h;obtain⟨t,x,y,p,rfl,h⟩:=onIfS_i h;have h1:=jA h;have h2:=jA h1.2;exact one (ps_if (snd c ok.toOkX h1.1 nd.1).pt (iha ok h2.1 nd.2.1).1 (ihb ok h2.2 nd.2.2).1)
 |for_ tg ik its body ih=>intro l ok h nd;obtain⟨st,rfl,h⟩:=bC h;obtain⟨t,it,x,y,p,rfl,h⟩:=onFor_i h;have h0:=jA h;have h1:=jA h0.2;have h2:=jA h1.2;have h3:=jA h2.2;cases Q0.mp h0.1;exact one (ps_for ok.po ok.calm (pi_ofS ok.toOkX h3.1 nd.1 fun es p q=>snd its ok.toOkX q nd.2.1) (pg_tg ok.toOkX ok.nd h1.1) (ih ok h3.2 nd.2.2).1 fun x=>noFold h2.1 x)
 |six j i e =>
  intro l ok h nd;obtain⟨st,e1,q1⟩:=bC h;obtain⟨ts,v,p,e2,q2⟩:=onAsg_i q1;obtain⟨t,e3,h⟩:=bC q2;subst e1 e2 e3;obtain⟨ov,iv,pp,e4,q4⟩:=onSub_i h;subst e4;have h1:=jA q4;have h2:=jA h1.2;have h3:=jA h2.2;have h4:=jA h3.2;refine one (ps_asg (snd e ok.toOkX h3.1 nd.2).pe (pg_sub (pos:=pp) (snd (.var j) ok.toOkX h4.1 trivial).pe (snd i ok.toOkX h4.2 nd.1).pe set_list ?_) ?_ ?_ ?_);intro w;cases iv<;>first|rfl|exact(QC h1.1).elim
  show swapsWith v (some (.Subscript ov iv pp)) p.line X.env=pure false;exact noSwap h2.1;cases v<;>rfl;rfl
 |pap j k e=>intro l ok h nd;obtain⟨st,rfl,h⟩:=bC h;obtain⟨v,p,rfl,h⟩:=onEx_i h;have h1:=jA h;exact one (ps_expr (snd (papX j k e) ok.toOkX h1.2 nd).pe (noSwap h1.1))
 |frz is s ih=>intro l ok h nd;exact ih ok h nd
 |hs s ih=>intro l ok h nd;exact ih ok h nd
 |rse=>intro l ok h nd;obtain⟨st,rfl,h⟩:=bC h;obtain⟨a,b,p,rfl⟩:=isRse_i h;exact one ps_never
end
noncomputable abbrev D:=PyData
set_option genInjectivity true in
inductive T where
 |d (x:D)|lst (ts:List T)|tup (ts:List T)|dct (ks:List D) (ts:List T)
mutual
noncomputable def T.er:T->D
 | .d x=>x
 | .lst ts=>.list (ersT ts)
 | .tup ts=>.tuple (ersT ts)
 | .dct ks ts=>.dict (ks.zip (ersT ts))
noncomputable def ersT:List T->List D
 |[]=>[]
 |t::r=>t.er::ersT r
end
theorem oC(ds:List D):ersT (ds.map T.d)=ds:=by
 induction ds with
 |nil=>rfl
 |cons d r ih=>simp only[QS,ersT,ih,T.er]
noncomputable def T.isD:T->Bool
 | .d _=>true
 |_=>false
set_option genInjectivity true in
inductive Sl where
 |own (t:T)|nj (t:T)
noncomputable abbrev yA:=List (Option Sl)
noncomputable def esc(t:T)(n:Bool):Bool:=n||t.isD
noncomputable def vA(t:T):Bool->T
 |true=>.d t.er
 |false=>t
theorem zA(x:D)(n:Bool):vA (.d x) n=.d x:=by cases n<;>rfl
theorem frzN_er(t:T)(n:Bool):(vA t n).er=t.er:=by cases n<;>rfl
noncomputable def unD:List T->Option (List D)
 |[]=>some []
 | .d x::r=>(unD r).map (x::·)
 |_::_=>none
theorem dA(ds:List D):unD (ds.map T.d)=some ds:=by
 induction ds with
 |nil=>rfl
 |cons d r ih=>simp only[QS,unD,ih,qA]
theorem unD_some:∀{ts:List T}{ds:List D},unD ts=some ds->ts=ds.map T.d
 |[],ds,h=>by simp only[unD,Qr]at h;subst h;rfl
 | .d x::r,ds,h=>by
  simp only[unD]at h;cases e:unD r with
  |none=>rw[e]at h;cases h
  |some es=>rw[e]at h;cases h;rw[QS,unD_some e]
 | .lst _::_,_,h=>by simp[unD]at h
 | .tup _::_,_,h=>by simp[unD]at h
 | .dct _ _::_,_,h=>by simp[unD]at h
set_option genInjectivity true in
inductive Vw where
 |sc (x:D)|ls (ts:List T)|tp (ts:List T)|dc (ks:List D) (ts:List T)
noncomputable def T.vw:T->Vw
 | .lst ts=>.ls ts
 | .tup ts=>.tp ts
 | .dct ks ts=>.dc ks ts
 | .d x=>match x with
  | .list ds=>.ls (ds.map T.d)
  | .tuple ds=>.tp (ds.map T.d)
  | .dict kvs=>.dc (kvs.map (·.1)) (kvs.map fun p=>T.d p.2)
  | .none=>.sc .none
  | .bool b=>.sc (.bool b)
  | .int i=>.sc (.int i)
  | .str s=>.sc (.str s)
noncomputable def mkTup(ts:List T):T:=match unD ts with
 |some ds=>.d (.tuple ds)
 |none=>.tup ts
noncomputable abbrev XD:=Value×List (Str×D)
noncomputable abbrev XE:=XD->Prop
noncomputable abbrev TK:=T->Bool->yA->Prop
inductive Md where
 |nk|nq|nj|chg
 deriving DecidableEq
structure PSp where
 md:List Md
 run:List T->(T->List T->Prop)->XE->Prop
 mono:∀{ts:List T}{Q Q':T->List T->Prop}{E E':XE},(∀t os,Q t os->Q' t os)->(∀x,E x->E' x)->run ts Q E->run ts Q' E'
structure PEv where
 sp:Str->PSp
 va:Str->Option D
 dc:Str->Option (List (Str×D))
def binT(op:Operator)(x y:Vw)(Q:T->Bool->Prop):Prop:=match op with
 | .Add=>(∃i j,x=.sc (.int i)/\y=.sc (.int j)/\Q (.d (.int (i+j))) false)∨(∃a b,x=.sc (.str a)/\y=.sc (.str b)/\a.length+b.length<=sizeLine/\Q (.d (.str (a++b))) false) ∨
  (∃xs ys ds es,x=.ls xs/\y=.ls ys/\unD xs=some ds/\unD ys=some es/\ds.length+es.length<=sizeLine/\Q (.lst ((ds++es).map T.d)) true) ∨
  (∃xs ys ds es,x=.tp xs/\y=.tp ys/\unD xs=some ds/\unD ys=some es/\ds≠[]/\es≠[]/\ds.length+es.length<=sizeLine/\Q (.d (.tuple (ds++es))) false)
 | .Sub=>∃i j,x=.sc (.int i)/\y=.sc (.int j)/\Q (.d (.int (i - j))) false
 | .Mult=>(∃i j,x=.sc (.int i)/\y=.sc (.int j)/\IntMulOk i j/\Q (.d (.int (i * j))) false)∨(∃a k,x=.sc (.str a)/\y=.sc (.int k)/\(-(2 ^ 31)<=k/\k<2 ^ 31/\a.length * k.toNat<=sizeLine)/\Q (.d (.str (repS a k))) false)∨(∃ts k,∃ds:List D,x=.ls ts/\y=.sc (.int k)/\unD ts=some ds/\(-(2 ^ 31)<=k/\k<2 ^ 31/\ds.length * k.toNat<=sizeLine)/\Q (.lst ((QH k.toNat ds).flatten.map T.d)) true)
 | .FloorDiv=>∃i j,x=.sc (.int i)/\y=.sc (.int j)/\(0<j/\j<2 ^ 200)/\Q (.d (.int (i / j))) false
 | .Mod=>∃i j,x=.sc (.int i)/\y=.sc (.int j)/\0<j/\Q (.d (.int (i % j))) false
 | .Pow=>∃i j,x=.sc (.int i)/\y=.sc (.int j)/\CPow i j/\Q (.d (.int (i ^ j.toNat))) false
 |_=>False
section
variable{Q:T->Bool->Prop}
theorem binT_1(i j:Int):binT .Add (.sc (.int i)) (.sc (.int j)) Q=Q (.d (.int (i+j))) false:=by simp[binT]
theorem binT_2(a b:Str):binT .Add (.sc (.str a)) (.sc (.str b)) Q=(a.length+b.length<=sizeLine/\Q (.d (.str (a++b))) false):=by simp[binT]
theorem binT_3(xs ys:List T):binT .Add (.ls xs) (.ls ys) Q=∃ds es,unD xs=some ds/\unD ys=some es/\ds.length+es.length<=sizeLine/\Q (.lst ((ds++es).map T.d)) true:=by simp[binT]
theorem binT_4(xs ys:List T):binT .Add (.tp xs) (.tp ys) Q=∃ds es,unD xs=some ds/\unD ys=some es/\ds≠[]/\es≠[]/\ds.length+es.length<=sizeLine/\Q (.d (.tuple (ds++es))) false:=by simp[binT]
theorem binT_5(i j:Int):binT .Sub (.sc (.int i)) (.sc (.int j)) Q=Q (.d (.int (i - j))) false:=by simp[binT]
theorem binT_6(i j:Int):binT .Mult (.sc (.int i)) (.sc (.int j)) Q=(IntMulOk i j/\Q (.d (.int (i * j))) false):=by simp[binT]
theorem binT_7(a:Str)(k:Int):binT .Mult (.sc (.str a)) (.sc (.int k)) Q=((-(2 ^ 31)<=k/\k<2 ^ 31/\a.length * k.toNat<=sizeLine)/\Q (.d (.str (repS a k))) false):=by simp[binT]
theorem binT_8(i j:Int):binT .FloorDiv (.sc (.int i)) (.sc (.int j)) Q=((0<j/\j<2 ^ 200)/\Q (.d (.int (i / j))) false):=by simp[binT]
theorem binT_9(i j:Int):binT .Mod (.sc (.int i)) (.sc (.int j)) Q=(0<j/\Q (.d (.int (i % j))) false):=by simp[binT]
theorem binT_10(i j:Int):binT .Pow (.sc (.int i)) (.sc (.int j)) Q=(CPow i j/\Q (.d (.int (i ^ j.toNat))) false):=by simp[binT]
end
noncomputable def eqD:D->D->(Bool->Prop)->Prop
 | .int i,.int j,Q=>Q (decide (i=j))
 | .str x,.str y,Q=>Q (decide (x=y))
 | .bool x,.bool y,Q=>Q (decide (x=y))
 |a,b,Q=>okD a/\okD b/\Q (Qy a b)
noncomputable def DB:D->Bool
 | .none | .bool _ | .int _ | .str _=>true
 |_=>false
noncomputable def inD:D->D->(Bool->Prop)->Prop
 | .str x,.str y,Q=>Q (inStr y x)
 |a,.list ds,Q|a,.tuple ds,Q=>((DB a=true/\ds.all DB=true)∨(okD a/\okD (.list ds)))/\Q (ds.any fun y=>Qy y a)
 |_,_,_=>False
noncomputable def ordD(f:Int->Int->Bool):D->D->(Bool->Prop)->Prop
 | .int i,.int j,Q=>Q (f i j)
 |_,_,_=>False
noncomputable def isNonD:D->Bool
 | .none=>true
 |_=>false
noncomputable def isND:D->D->(Bool->Prop)->Prop
 |a,.none,Q=>Q (isNonD a)
 |_,_,_=>False
noncomputable def cmpD:CmpOp->D->D->(Bool->Prop)->Prop
 | .Eq,a,b,Q=>eqD a b Q
 | .NotEq,a,b,Q=>eqD a b fun k=>Q (!k)
 | .Lt,a,b,Q=>ordD (fun i j=>decide (i<j)) a b Q
 | .LtE,a,b,Q=>ordD (fun i j=>decide (i<=j)) a b Q
 | .Gt,a,b,Q=>ordD (fun i j=>decide (j<i)) a b Q
 | .GtE,a,b,Q=>ordD (fun i j=>decide (j<=i)) a b Q
 | .In,a,b,Q=>inD a b Q
 | .NotIn,a,b,Q=>inD a b fun k=>Q (!k)
 | .Is,a,b,Q=>isND a b Q
 | .IsNot,a,b,Q=>isND a b fun k=>Q (!k)
noncomputable def truD:D->(Bool->Prop)->Prop
 | .bool b,Q=>Q b
 | .int i,Q=>Q (i != 0)
 | .none,Q=>Q false
 | .str z,Q=>z.length<=sizeLine/\Q ((z.length:Int) != 0)
 | .list ds,Q=>Q (!ds.isEmpty)
 | .tuple ds,Q=>Q (!ds.isEmpty)
 |_,_=>False
noncomputable def asD:D->(Bool->Prop)->Prop
 | .bool b,Q=>Q b
 |_,_=>False
def idxT(x y:Vw)(Q:T->Prop):Prop:=(∃z i c,x=.sc (.str z)/\y=.sc (.int i)/\z.length<=sizeLine/\uC z.cps.toList i=some c/\Q (.d (.str ⟨#[c]⟩))) ∨
 (∃ts i t,x=.ls ts/\y=.sc (.int i)/\uC ts i=some t/\Q t)∨(∃ts i t,x=.tp ts/\y=.sc (.int i)/\uC ts i=some t/\Q t)
theorem idxT_1{Q:T->Prop}(z:Str)(i:Int):idxT (.sc (.str z)) (.sc (.int i)) Q=(z.length<=sizeLine/\∃c,uC z.cps.toList i=some c/\Q (.d (.str ⟨#[c]⟩))):=by simp[idxT]
theorem idxT_2{Q:T->Prop}(ts:List T)(i:Int):idxT (.ls ts) (.sc (.int i)) Q=∃t,uC ts i=some t/\Q t:=by simp[idxT]
theorem idxT_3{Q:T->Prop}(ts:List T)(i:Int):idxT (.tp ts) (.sc (.int i)) Q=∃t,uC ts i=some t/\Q t:=by simp[idxT]
noncomputable def cutD{α:Type}(xs:List α)(lo hi:Option Int):List α:=(xs.drop (HT.sIx xs.length 0 lo)).take (HT.sIx xs.length xs.length hi - HT.sIx xs.length 0 lo)
def slcT(x:Vw)(lo hi:Option Int)(Q:T->Bool->Prop):Prop:=(∃z,x=.sc (.str z)/\z.length<=sizeLine/\Q (.d (.str (WY z lo hi))) false)∨(∃ts ds,x=.ls ts/\unD ts=some ds/\Q (.lst ((cutD ds lo hi).map T.d)) true) ∨
 (∃ts ds,x=.tp ts/\unD ts=some ds/\¬ (HT.sIx ds.length 0 lo=0/\HT.sIx ds.length ds.length hi=ds.length)/\Q (.d (.tuple (cutD ds lo hi))) false)
section
variable{Q:T->Bool->Prop}{lo hi:Option Int}
theorem slcT_1(z:Str):slcT (.sc (.str z)) lo hi Q=(z.length<=sizeLine/\Q (.d (.str (WY z lo hi))) false):=by simp[slcT]
theorem slcT_2(ts:List T):slcT (.ls ts) lo hi Q=∃ds,unD ts=some ds/\Q (.lst ((cutD ds lo hi).map T.d)) true:=by simp[slcT]
theorem slcT_3(ts:List T):slcT (.tp ts) lo hi Q=∃ds,unD ts=some ds/\¬ (HT.sIx ds.length 0 lo=0/\HT.sIx ds.length ds.length hi=ds.length)/\Q (.d (.tuple (cutD ds lo hi))) false:=by simp[slcT]
end
noncomputable def partD:D->(Option Int->Prop)->Prop
 | .int i,Q=>Q (some i)
 |_,_=>False
noncomputable def isD(n:String):D->Option Bool
 | .none=>some false
 | .bool _=>some (n == "bool" || n == "int")
 | .int _=>some (n == "int")
 | .str _=>some (n == "str")
 | .list _=>some (n == "list")
 | .tuple _=>some (n == "tuple")
 | .dict _=>none
noncomputable def isTyN(n:String):Bool:=n == "bool" || n == "int" || n == "str" || n == "list" || n == "tuple" || n == "ValueError"
def biT(f:Bi)(vs:List Vw)(Q:T->Bool->Prop):Prop:=match f with
 | .len=>(∃z,vs=[.sc (.str z)]/\z.length<=sizeLine/\Q (.d (.int z.length)) false)∨(∃ts,vs=[.ls ts]/\Q (.d (.int ts.length)) false)∨(∃ts,vs=[.tp ts]/\Q (.d (.int ts.length)) false)
 | .all=>∃ts,∃bs:List Bool,vs=[.ls ts]/\unD ts=some (bs.map PyData.bool)/\Q (.d (.bool (bs.all id))) false
 | .int=>(∃i,vs=[.sc (.int i)]/\Q (.d (.int i)) false)∨(∃b,vs=[.sc (.bool b)]/\Q (.d (.int (if b then 1 else 0))) false)∨(∃z n,vs=[.sc (.str z)]/\z.length<=640/\intText? z=some n/\Q (.d (.int n)) false)
 | .str=>(∃i,vs=[.sc (.int i)]/\i.natAbs.log2<1920/\Q (.d (.str (toString i))) false)∨(∃z,vs=[.sc (.str z)]/\Q (.d (.str z)) false)
 | .any=>∃ts,∃bs:List Bool,vs=[.ls ts]/\unD ts=some (bs.map PyData.bool)/\Q (.d (.bool (bs.any id))) false
 | .list=>(∃ts ds,vs=[.ls ts]/\unD ts=some ds/\Q (.lst (ds.map T.d)) true)∨(∃ts ds,vs=[.tp ts]/\unD ts=some ds/\Q (.lst (ds.map T.d)) true)
 | .tuple=>∃ts ds,vs=[.ls ts]/\unD ts=some ds/\Q (.d (.tuple ds)) false
 | .max=>∃i j,vs=[.sc (.int i),.sc (.int j)]/\Q (.d (.int (if j > i then j else i))) false
section
variable{Q:T->Bool->Prop}
theorem biT_1(z:Str):biT .len [.sc (.str z)] Q=(z.length<=sizeLine/\Q (.d (.int z.length)) false):=by simp[biT]
theorem biT_2(ts:List T):biT .len [.ls ts] Q=Q (.d (.int ts.length)) false:=by simp[biT]
theorem biT_3(ts:List T):biT .len [.tp ts] Q=Q (.d (.int ts.length)) false:=by simp[biT]
theorem biT_4(ts:List T):biT .all [.ls ts] Q=∃bs:List Bool,unD ts=some (bs.map PyData.bool)/\Q (.d (.bool (bs.all id))) false:=by simp[biT]
theorem biT_6(b:Bool):biT .int [.sc (.bool b)] Q=Q (.d (.int (if b then 1 else 0))) false:=by simp[biT]
theorem biT_7(z:Str):biT .int [.sc (.str z)] Q=(z.length<=640/\∃n,intText? z=some n/\Q (.d (.int n)) false):=by simp[biT]
theorem biT_8(i:Int):biT .str [.sc (.int i)] Q=(i.natAbs.log2<1920/\Q (.d (.str (toString i))) false):=by simp[biT]
theorem biT_9(z:Str):biT .str [.sc (.str z)] Q=Q (.d (.str z)) false:=by simp[biT]
end
def mtT(m:Mt)(x:Vw)(vs:List Vw)(Q:T->Bool->Prop):Prop:=match m with
 | .split=>∃z y,x=.sc (.str z)/\vs=[.sc (.str y)]/\z.length<=sizeLine/\0<y.length/\(qJ z y).length<=sizeLine/\Q (.lst (((qJ z y).map PyData.str).map T.d)) true
 | .rstrip=>∃z,x=.sc (.str z)/\vs=[]/\z.length<=sizeLine/\Q (.d (.str (WB z))) false
 | .join=>∃z ts,∃ys:List Str,x=.sc (.str z)/\vs=[.ls ts]/\unD ts=some (ys.map PyData.str)/\(ys.map (·.length)).sum+ys.length * z.length<=16777216/\Q (.d (.str (WL z ys))) false
 |_=>False
theorem mtT_1{Q:T->Bool->Prop}(z y:Str):mtT .split (.sc (.str z)) [.sc (.str y)] Q=(z.length<=sizeLine/\0<y.length/\(qJ z y).length<=sizeLine/\Q (.lst (((qJ z y).map PyData.str).map T.d)) true):=by simp[mtT]
theorem mtT_2{Q:T->Bool->Prop}(z:Str):mtT .rstrip (.sc (.str z)) [] Q=(z.length<=sizeLine/\Q (.d (.str (WB z))) false):=by simp[mtT]
noncomputable def Vw.isS:Vw->Bool
 | .sc (.str _)=>true
 |_=>false
noncomputable def isMut:Mt->Bool
 | .append=>true
 | .extend=>true
 | .insert=>true
 | .clear=>true
 |_=>false
noncomputable def mtTy(m:Mt)(x:Vw):Bool:=x.isS&&!isMut m
def mutT(m:Mt)(s:T)(us:List T)(N:T->T->Prop):Prop:=match m with
 | .append=>∃ts t,s=.lst ts/\us=[t]/\ts.length<sizeLine/\N (.d .none) (.lst (ts++[t]))
 | .extend=>∃ts vs,s=.lst ts/\us=[.lst vs]/\ts.length+vs.length<=sizeLine/\N (.d .none) (.lst (ts++vs))
 | .insert=>∃ts i t,s=.lst ts/\us=[.d (.int i),t]/\(0<=i/\i<=ts.length)/\ts.length<sizeLine/\N (.d .none) (.lst (insAt ts i.toNat t))
 |_=>False
theorem mutT_1{N:T->T->Prop}(ts:List T)(t:T):mutT .append (.lst ts) [t] N=(ts.length<sizeLine/\N (.d .none) (.lst (ts++[t]))):=by simp[mutT]
theorem mutT_2{N:T->T->Prop}(ts vs:List T):mutT .extend (.lst ts) [.lst vs] N=(ts.length+vs.length<=sizeLine/\N (.d .none) (.lst (ts++vs))):=by simp[mutT]
theorem mutT_3{N:T->T->Prop}(ts:List T)(i:Int)(t:T):mutT .insert (.lst ts) [.d (.int i),t] N=((0<=i/\i<=ts.length)/\ts.length<sizeLine/\N (.d .none) (.lst (insAt ts i.toNat t))):=propext ⟨fun⟨_,_,_,e1,e2,h⟩=>by cases e1;cases e2;exact h,fun h=>⟨_,_,_,rfl,rfl,h⟩⟩
noncomputable def mutTy(m:Mt):T->Bool
 | .lst _=>isMut m
 |_=>false
noncomputable def Vw.seq:Vw->Option (List T)
 | .ls ts=>some ts
 | .tp ts=>some ts
 |_=>none
def dC(ik:ItK)(vs:List Vw)(R:List T->Prop):Prop:=match ik with
 | .val=>(∃z,vs=[.sc (.str z)]/\R (z.cps.toList.map fun c=>.d (.str ⟨#[c]⟩)))∨(∃ts,vs=[.ls ts]/\R ts)∨(∃ts,vs=[.tp ts]/\R ts)
 | .rng1=>∃j,vs=[.sc (.int j)]/\(-(2 ^ 62)<=j/\j<2 ^ 62)/\R ((Qc j.toNat).map fun(i:Nat)=>.d (.int (i:Int)))
 | .rng3=>∃i j k,vs=[.sc (.int i),.sc (.int j),.sc (.int k)]/\(-(2 ^ 62)<=i/\i<2 ^ 62/\-(2 ^ 62)<=j/\j<2 ^ 62/\0<k/\k<1000)/\R ((Qc (rngN i j k)).map fun(m:Nat)=>.d (.int (i+(m:Int) * k)))
 | .zip2=>∃x y ts us ds es,vs=[x,y]/\x.seq=some ts/\y.seq=some us/\unD ts=some ds/\unD us=some es/\R ((ds.zip es).map fun p=>.d (.tuple [p.1,p.2]))
 | .enum=>∃x ts ds,vs=[x]/\x.seq=some ts/\unD ts=some ds/\R (ds.zipIdx.map fun p=>.d (.tuple [.int (p.2:Int),p.1]))
 | .enumA=>∃x n ts ds,vs=[x,.sc (.int n)]/\x.seq=some ts/\unD ts=some ds/\(0<=n/\n<2 ^ 62)/\R (ds.zipIdx.map fun p=>.d (.tuple [.int ((n.toNat+p.2:Nat):Int),p.1]))
section
variable{R:List T->Prop}
theorem itemsT_1(z:Str):dC .val [.sc (.str z)] R=R (z.cps.toList.map fun c=>.d (.str ⟨#[c]⟩)):=by simp[dC]
theorem itemsT_2(ts:List T):dC .val [.ls ts] R=R ts:=by simp[dC]
theorem itemsT_3(ts:List T):dC .val [.tp ts] R=R ts:=by simp[dC]
theorem itemsT_4(j:Int):dC .rng1 [.sc (.int j)] R=((-(2 ^ 62)<=j/\j<2 ^ 62)/\R ((Qc j.toNat).map fun(i:Nat)=>.d (.int (i:Int)))):=by simp[dC]
theorem itemsT_6(x y:Vw):dC .zip2 [x,y] R=∃ts us ds es,x.seq=some ts/\y.seq=some us/\unD ts=some ds/\unD us=some es/\R ((ds.zip es).map fun p=>.d (.tuple [p.1,p.2])):=by apply propext;constructor;rintro⟨_,_,ts,us,ds,es,⟨⟩,h⟩;exact⟨ts,us,ds,es,h⟩;rintro⟨ts,us,ds,es,h⟩;exact⟨_,_,ts,us,ds,es,rfl,h⟩
theorem itemsT_8(x:Vw)(n:Int):dC .enumA [x,.sc (.int n)] R=∃ts ds,x.seq=some ts/\unD ts=some ds/\(0<=n/\n<2 ^ 62)/\R (ds.zipIdx.map fun p=>.d (.tuple [.int ((n.toNat+p.2:Nat):Int),p.1])):=by apply propext;constructor;rintro⟨_,_,ts,ds,⟨⟩,h⟩;exact⟨ts,ds,h⟩;rintro⟨ts,ds,h⟩;exact⟨_,_,ts,ds,rfl,h⟩
end
noncomputable def setAllT:List Nat->List T->yA->Option yA
 |[],[],ρ=>some ρ
 |i::is,t::ts,ρ=>setAllT is ts (ρ.set i (some (.nj t)))
 |_,_,_=>none
noncomputable def bindV:Tg->T->yA->(yA->Prop)->Prop
 | .nm i,t,ρ,Q=>Q (ρ.set i (some (.nj t)))
 | .tp is,t,ρ,Q=>match t.vw with
  | .tp ts=>∃ρ',setAllT is ts ρ=some ρ'/\Q ρ'
  |_=>False
noncomputable def Tg.ix:Tg->List Nat
 | .nm i=>[i]
 | .tp is=>is
noncomputable def rootOf:PX->Option Nat
 | .var i=>some i
 |_=>none
noncomputable def lockS:Option Sl->Option Sl
 |some (.own t)=>some (.nj t)
 |s=>s
noncomputable def lockA(ρ:yA):yA:=ρ.map lockS
noncomputable def lock:List Nat->yA->yA
 |[],ρ=>ρ
 |i::is,ρ=>lock is (ρ.modify i lockS)
noncomputable def killS:Option Sl->Option Sl
 |some (.nj t)=>if t.isD=true then some (.nj t) else none
 |s=>s
noncomputable def kill:List Nat->yA->yA
 |[],ρ=>ρ
 |i::is,ρ=>kill is (ρ.modify i killS)
noncomputable def clear:List Nat->yA->yA
 |[],ρ=>ρ
 |i::is,ρ=>clear is (ρ.set i none)
noncomputable def vB:List Nat->yA->Option (List T)
 |[],_=>some []
 |i::is,ρ=>match ρ[i]? with
  |some (some (.own t))=>(vB is ρ).map (t::·)
  |_=>none
noncomputable def LC:List Nat->List T->yA->Option yA
 |[],[],ρ=>some ρ
 |i::is,t::ts,ρ=>LC is ts (ρ.set i (some (.own t)))
 |_,_,_=>none
noncomputable def maskP:List Bool->yA->yA
 |b::m,v::ρ=>(if b then none else v)::maskP m ρ
 |_,ρ=>ρ
noncomputable def entP(k:Nat)(mask:List Bool)(ρ:yA):yA:=QH k none++maskP mask ρ
def sq{α:Type}(x:T)(ρ:yA)(b:yA->(α->yA->Prop)->Prop)(K:α->yA->Prop):Prop :=
 if x.isD=true then b ρ K else b (lockA ρ) fun y _=>K y ρ
noncomputable def cu(f:yA->TK->Prop):yA->(T×Bool->yA->Prop)->Prop:=fun ρ K=>f ρ fun x n ρ'=>K (x,n) ρ'
noncomputable def tsOf:List (T×Bool)->List T
 |[]=>[]
 |p::r=>p.1::tsOf r
noncomputable def fzOf:List (T×Bool)->List T
 |[]=>[]
 |p::r=>vA p.1 p.2::fzOf r
noncomputable def iB:List (T×Bool)->List Vw
 |[]=>[]
 |p::r=>(vA p.1 p.2).vw::iB r
noncomputable def escB:List (T×Bool)->Bool
 |[]=>true
 |p::r=>esc p.1 p.2&&escB r
noncomputable def allD:List (T×Bool)->Bool
 |[]=>true
 |p::r=>esc p.1 p.2&&allD r
noncomputable def AC(t:T):Option T:=match t.vw with
 | .ls ts=>(unD ts).map fun ds=>.lst (ds.map T.d)
 |_=>if t.isD=true then some t else none
noncomputable def GA:List Md->List (T×Bool)->List T->Option (List T)
 |_,[],[]=>some []
 |_,[],_::_=>none
 |md,(x,n)::xs,os=>match md.headD .nk with
  | .nk=>match vA x n with
   | .d d=>(GA md.tail xs os).map (.d d::·)
   |_=>none
  | .nq=>match AC (vA x n) with
   |some t=>(GA md.tail xs os).map (t::·)
   |none=>none
  | .nj=>(GA md.tail xs os).map (vA x n::·)
  | .chg=>match os with
   |o::os=>(GA md.tail xs os).map (o::·)
   |[]=>none
noncomputable def CB:List Md->List T->List T
 |_,[]=>[]
 |md,t::ts=>match md.headD .nk with
  | .chg=>t::CB md.tail ts
  |_=>CB md.tail ts
noncomputable def cA:List Md->PX->List Nat
 | .chg::md,.ng (.var j) as=>j::cA md as
 |_::md,.ng _ as=>cA md as
 |_,_=>[]
noncomputable def Md.isMut:Md->Bool
 | .chg=>true
 |_=>false
def prmT(Ψ:PEv)(o:Prm)(ts:List T)(Q:T->Bool->Prop):Prop:=match o with
 | .dget x=>∃z kds,ts=[.d (.str z)]/\Ψ.dc x=some kds/\Q (.d ((kds.lookup z).getD .none)) false
 | .dix x=>∃z kds d,ts=[.d (.str z)]/\Ψ.dc x=some kds/\kds.lookup z=some d/\Q (.d d) false
 | .dgetD x=>∃z d kds,ts=[.d (.str z),.d d]/\Ψ.dc x=some kds/\Q (.d ((kds.lookup z).getD d)) false
 | .tmul=>∃ds k,ts=[.d (.tuple ds),.d (.int k)]/\ds≠[]/\(1<=k/\k<2 ^ 31/\ds.length * k.toNat<=sizeLine)/\Q (.d (.tuple (QH k.toNat ds).flatten)) false
theorem prmT_1{Ψ:PEv}{Q:T->Bool->Prop}(x z:Str):prmT Ψ (.dget x) [.d (.str z)] Q=∃kds,Ψ.dc x=some kds/\Q (.d ((kds.lookup z).getD .none)) false:=by simp[prmT]
theorem prmT_2{Ψ:PEv}{Q:T->Bool->Prop}(x z:Str):prmT Ψ (.dix x) [.d (.str z)] Q=∃kds d,Ψ.dc x=some kds/\kds.lookup z=some d/\Q (.d d) false:=by simp[prmT]
theorem prmT_3{Ψ:PEv}{Q:T->Bool->Prop}(ds:List D)(k:Int):prmT Ψ .tmul [.d (.tuple ds),.d (.int k)] Q=(ds≠[]/\(1<=k/\k<2 ^ 31/\ds.length * k.toNat<=sizeLine)/\Q (.d (.tuple (QH k.toNat ds).flatten)) false):=propext ⟨fun⟨_,_,e,h⟩=>by cases e;exact h,fun h=>⟨_,_,rfl,h⟩⟩
structure D3 where
 e:yA->TK->Prop
 t:yA->(Bool->yA->Prop)->Prop
 a:List Md->yA->(List (T×Bool)->yA->Prop)->Prop
noncomputable def nev:D3:=⟨fun _ _=>False,fun _ _=>False,fun _ _ _=>False⟩
noncomputable def JD(body:T->(Option T->Prop)->Prop):List T->List T->(List T->Prop)->Prop
 |[],acc,Q=>acc.length<=sizeLine/\Q acc
 |x::xs,acc,Q=>body x fun
  |some y=>acc.length<sizeLine/\JD body xs (acc++[y]) Q
  |none=>JD body xs acc Q
def compBody(tg:Tg)(ρ0:yA)(c:yA->(Bool->yA->Prop)->Prop)(e:yA->TK->Prop)(x:T)(R:Option T->Prop):Prop :=
 bindV tg x ρ0 fun ρ1=>c ρ1 fun b ρ2=>if b=true then e ρ2 fun y n _=>esc y n=true/\R (some y) else R none
noncomputable def isiD:PX->D->(Bool->Prop)->Prop
 | .bty _ n,d,Q=>∃b,isD n d=some b/\isTyN n=true/\Q b
 |_,_,_=>False
noncomputable def rdV:Option (Option Sl)->(T->Prop)->Prop
 |some (some (.own t)),Q=>Q t
 |some (some (.nj t)),Q=>Q t
 |some none,_=>False
 |none,_=>False
noncomputable def ownV:Option (Option Sl)->(T->Prop)->Prop
 |some (some (.own t)),Q=>Q t
 |some (some (.nj _)),_=>False
 |some none,_=>False
 |none,_=>False
noncomputable def rootV:Option Nat->(Nat->Prop)->Prop
 |none,_=>False
 |some j,Q=>Q j
noncomputable def isVar:PX->Bool
 | .var _=>true
 |_=>false
noncomputable def compE(tg:Tg)(k0:Nat)(e:yA->TK->Prop):List T->List D->yA->(List D->yA->Prop)->Prop
 |[],acc,ρ,Q=>acc.length<=sizeLine/\Q acc ρ
 |x::xs,acc,ρ,Q=>bindV tg x (QH k0 none++ρ) fun ρ1=>e ρ1 fun y n ρ3=>esc y n=true/\acc.length<sizeLine/\compE tg k0 e xs (acc++[y.er]) (ρ3.drop k0) Q
noncomputable def pe(Ψ:PEv):PX->XE->D3
 | .var i,_=>let e:yA->TK->Prop:=fun ρ Q=>rdV ρ[i]? fun t=>Q t false ρ
  ⟨e,fun ρ Q=>e ρ fun t _ ρ1=>truD t.er fun b=>Q b ρ1,nev.a⟩
 | .int i,_=>⟨fun ρ Q=>Q (.d (.int i)) false ρ,fun ρ Q=>Q (i != 0) ρ,nev.a⟩
 | .str x,_=>⟨fun ρ Q=>Q (.d (.str x)) false ρ,nev.t,nev.a⟩
 | .bl b,_=>⟨fun ρ Q=>Q (.d (.bool b)) false ρ,fun ρ Q=>Q b ρ,nev.a⟩
 | .non,_=>⟨fun ρ Q=>Q (.d .none) false ρ,fun ρ Q=>Q false ρ,nev.a⟩
 | .glo x,_=>let e:yA->TK->Prop:=fun ρ Q=>match Ψ.va x with
   |some d=>Q (.d d) false ρ
   |none=>False
  ⟨e,fun ρ Q=>e ρ fun t _ ρ1=>truD t.er fun b=>Q b ρ1,nev.a⟩
 | .bty _ _,_=>nev
 | .bin op a b,E=>let e:yA->TK->Prop:=fun ρ Q=>(pe Ψ a E).e ρ fun x n ρ1=>sq (vA x n) ρ1 (cu (pe Ψ b E).e) fun y ρ2=>binT op (vA x n).vw (vA y.1 y.2).vw fun z k=>Q z k ρ2
  ⟨e,fun ρ Q=>e ρ fun t _ ρ1=>truD t.er fun b=>Q b ρ1,nev.a⟩
 | .cmp op a b,E=>let t:yA->(Bool->yA->Prop)->Prop:=fun ρ Q=>(pe Ψ a E).e ρ fun x n ρ1=>sq (vA x n) ρ1 (cu (pe Ψ b E).e) fun y ρ2=>cmpD op x.er y.1.er fun k=>Q k ρ2
  ⟨fun ρ Q=>t ρ fun k ρ1=>Q (.d (.bool k)) false ρ1,t,nev.a⟩
 | .chn o p a b c,E=>let t:yA->(Bool->yA->Prop)->Prop:=fun ρ Q=>(pe Ψ a E).e ρ fun x n ρ1=>sq (vA x n) ρ1 (cu (pe Ψ b E).e) fun y ρ2=>cmpD o x.er y.1.er fun k=>if k=true then sq (vA y.1 y.2) ρ2 (cu (pe Ψ c E).e) fun z ρ3=>cmpD p y.1.er z.1.er fun k=>Q k ρ3 else Q false ρ2
  ⟨fun ρ Q=>t ρ fun k ρ1=>Q (.d (.bool k)) false ρ1,t,nev.a⟩
 | .and a b,E=>⟨fun ρ Q=>(pe Ψ a E).e ρ fun x _ ρ1=>asD x.er fun c=>if c=true then(pe Ψ b E).e ρ1 Q else Q (.d (.bool false)) false ρ1,
   fun ρ Q=>(pe Ψ a E).t ρ fun c ρ1=>if c=true then(pe Ψ b E).t ρ1 Q else Q false ρ1,nev.a⟩
 | .or a b,E=>⟨fun ρ Q=>(pe Ψ a E).e ρ fun x _ ρ1=>asD x.er fun c=>if c=true then Q (.d (.bool true)) false ρ1 else(pe Ψ b E).e ρ1 Q,
   fun ρ Q=>(pe Ψ a E).t ρ fun c ρ1=>if c=true then Q true ρ1 else(pe Ψ b E).t ρ1 Q,nev.a⟩
 | .not a,E=>⟨fun ρ Q=>(pe Ψ a E).e ρ fun x _ ρ1=>truD x.er fun c=>Q (.d (.bool (!c))) false ρ1,fun ρ Q=>(pe Ψ a E).t ρ fun c ρ1=>Q (!c) ρ1,nev.a⟩
 | .ife c a b,E=>⟨fun ρ Q=>(pe Ψ c E).t ρ fun k ρ1=>if k=true then(pe Ψ a E).e ρ1 Q else(pe Ψ b E).e ρ1 Q,nev.t,nev.a⟩
 | .call f as,E=>let e:yA->TK->Prop:=fun ρ Q=>∃os,vB (cA (Ψ.sp f).md as) ρ=some os/\(cA (Ψ.sp f).md as).Nodup/\(pe Ψ as E).a (Ψ.sp f).md (clear (cA (Ψ.sp f).md as) ρ) fun xs ρ1=>∃ts,GA (Ψ.sp f).md xs os=some ts/\(Ψ.sp f).run ts (fun r os'=>∃ρ2,LC (cA (Ψ.sp f).md as) os' ρ1=some ρ2/\Q r true ρ2) E
  ⟨e,fun ρ Q=>e ρ fun t _ ρ1=>truD t.er fun b=>Q b ρ1,nev.a⟩
 | .isi a c,E=>let t:yA->(Bool->yA->Prop)->Prop:=fun ρ Q=>(pe Ψ a E).e ρ fun x _ ρ1=>isiD c x.er fun b=>Q b ρ1
  ⟨fun ρ Q=>t ρ fun k ρ1=>Q (.d (.bool k)) false ρ1,t,nev.a⟩
 | .bi f as,E=>let e:yA->TK->Prop:=fun ρ Q=>(pe Ψ as E).a [] ρ fun xs ρ1=>biT f (iB xs) fun z k=>Q z k ρ1
  ⟨e,fun ρ Q=>e ρ fun t _ ρ1=>truD t.er fun b=>Q b ρ1,nev.a⟩
 | .prm o as,E=>let e:yA->TK->Prop:=fun ρ Q=>(pe Ψ as E).a [] ρ fun xs ρ1=>prmT Ψ o (fzOf xs) fun z k=>Q z k ρ1
  ⟨e,fun ρ Q=>e ρ fun t _ ρ1=>truD t.er fun b=>Q b ρ1,nev.a⟩
 | .mt m o as,E=>let e:yA->TK->Prop:=fun ρ Q=>if isMut m=true then rootV (rootOf o) fun j=>ownV ρ[j]? fun t=>mutTy m t=true/\(pe Ψ as E).a [] (ρ.set j (some (.nj t))) fun xs ρ2=>escB xs=true/\ρ2[j]?=some (some (.nj t))/\mutT m t (tsOf xs) fun r s'=>Q r true (ρ2.set j (some (.own s'))) else(pe Ψ o E).e ρ fun x n ρ1=>mtTy m (vA x n).vw=true/\sq (vA x n) ρ1 ((pe Ψ as E).a []) fun xs ρ2=>mtT m (vA x n).vw (iB xs) fun z k=>Q z k ρ2
  ⟨e,fun ρ Q=>e ρ fun t _ ρ1=>truD t.er fun b=>Q b ρ1,nev.a⟩
 | .idx a b,E=>let e:yA->TK->Prop:=fun ρ Q=>(pe Ψ a E).e ρ fun x n ρ1=>sq (vA x n) ρ1 (cu (pe Ψ b E).e) fun y ρ2=>idxT (vA x n).vw (vA y.1 y.2).vw fun z=>Q z false ρ2
  ⟨e,fun ρ Q=>e ρ fun t _ ρ1=>truD t.er fun b=>Q b ρ1,nev.a⟩
 | .slc a lo hi,E=>⟨fun ρ Q=>(pe Ψ a E).e ρ fun x n ρ1 =>
   sq (α:=Option Int) (vA x n) ρ1 (if isNop lo=true then fun ρ (R:Option Int->yA->Prop)=>R none ρ else fun ρ R=>(pe Ψ lo E).e ρ fun l _ ρ2=>partD l.er fun o=>R o ρ2) fun l ρ2 =>
   sq (α:=Option Int) (vA x n) ρ2 (if isNop hi=true then fun ρ (R:Option Int->yA->Prop)=>R none ρ else fun ρ R=>(pe Ψ hi E).e ρ fun u _ ρ3=>partD u.er fun o=>R o ρ3) fun u ρ3=>slcT (vA x n).vw l u fun z k=>Q z k ρ3,nev.t,nev.a⟩
 | .nop,_=>nev
 | .lst as,E=>⟨fun ρ Q=>(pe Ψ as E).a [] ρ fun xs ρ1=>escB xs=true/\xs.length<=sizeLine/\Q (.lst (tsOf xs)) true ρ1,nev.t,nev.a⟩
 | .tup as,E=>⟨fun ρ Q=>(pe Ψ as E).a [] ρ fun xs ρ1=>escB xs=true/\xs.length<=sizeLine/\Q (mkTup (tsOf xs)) true ρ1,nev.t,nev.a⟩
 | .comp mask tgs tg ik its cond elt,E=>⟨fun ρ Q=>(pe Ψ its E).a [] ρ fun xs ρ1=>dC ik (iB xs) fun items =>
   JD (compBody tg (entP tgs.length mask (lockA ρ1)) (if isNop cond=true then fun ρ R=>R true ρ else(pe Ψ cond (fun _=>False)).t) (pe Ψ elt (fun _=>False)).e) items [] fun ys=>Q (.lst ys) true ρ1,nev.t,nev.a⟩
 | .eff (.comp mask tgs tg ik its cond elt),E=>⟨fun ρ Q=>(isNop cond=true/\(mask.all fun b=>!b)=true/\(tg.ix.all fun j=>decide (j<tgs.length))=true)/\(pe Ψ its E).a [] ρ fun xs ρ1=>allD xs=true/\dC ik (iB xs) fun items =>
   compE tg tgs.length (pe Ψ elt (fun _=>False)).e items [] ρ1 fun ds ρ2=>Q (.lst (ds.map T.d)) true ρ2,nev.t,nev.a⟩
 | .eff (.slc a .nop (.int i)),E=>⟨fun ρ Q=>(pe Ψ a E).e ρ fun x n ρ1=>esc x n=true/\∃ds,x.er=.tuple ds/\Q (.d (.tuple (cutD ds none (some i)))) false ρ1,nev.t,nev.a⟩
 | .eff _,_=>nev
 | .nh,_=>⟨nev.e,nev.t,fun _ ρ Q=>Q [] ρ⟩
 | .ng a as,E=>⟨nev.e,nev.t,fun md ρ Q=>if(md.headD .nk).isMut=true then isVar a=true/\(pe Ψ as E).a md.tail ρ fun xs ρ1=>Q ((.d .none,true)::xs) ρ1
   else(pe Ψ a E).e ρ fun x n ρ1=>sq (α:=List (T×Bool)) (if n=true then .d .none else x) ρ1 ((pe Ψ as E).a md.tail) fun xs ρ2=>Q ((x,n)::xs) ρ2⟩
structure PEnds where
 nx:yA->Prop
 rt:T->yA->Prop
 bk:yA->Prop:=fun _=>False
 ct:yA->Prop:=fun _=>False
noncomputable def vrs:PX->List Nat
 | .var i=>[i]
 | .idx a _=>vrs a
 | .ife _ a b=>vrs a++vrs b
 | .and a b | .or a b=>vrs a++vrs b
 | .ng a as=>vrs a++vrs as
 |_=>[]
noncomputable def ownO:Option (Option Sl)->Bool
 |some (some (.own _))=>true
 |some (some (.nj _))=>false
 |some none=>false
 |none=>false
noncomputable def jD(ρ:yA):List Nat->List Nat
 |[]=>[]
 |i::is=>if ownO ρ[i]?=true then i::jD ρ is else jD ρ is
noncomputable def uD:List Nat->yA->yA->yA
 |[],_,ρ=>ρ
 |i::L,ρ0,ρ=>uD L ρ0 (ρ.set i (ρ0[i]?.getD none))
def unlock(J L:List Nat)(ρ0:yA)(N:yA->Prop)(ρ:yA):Prop:=(∀i∈L,i∉J/\ρ[i]?=ρ0[i]?.map lockS)/\N (uD L ρ0 ρ)
noncomputable def forV(body:PEnds->yA->Prop)(tg:Tg)(Z:PEnds):List T->yA->Prop
 |[],ρ=>Z.nx ρ
 |x::xs,ρ=>bindV tg x ρ fun ρ1=>body { Z with nx:=fun ρ2=>forV body tg Z xs ρ2,ct:=fun ρ2=>forV body tg Z xs ρ2,bk:=Z.nx } ρ1
noncomputable def rdR(ρ:yA)(i:Nat)(R:T->yA->Prop):Option (Option Sl)->Prop
 |some (some (.own t))=>R t (ρ.set i none)
 |some (some (.nj t))=>t.isD=true/\R t ρ
 |some none=>False
 |none=>False
noncomputable def retP(Ψ:PEv)(E:XE)(Rt:T->yA->Prop):PX->yA->Prop
 | .var i,ρ=>rdR ρ i Rt ρ[i]?
 | .ife c a b,ρ=>(pe Ψ c E).t ρ fun k ρ1=>if k=true then retP Ψ E Rt a ρ1 else retP Ψ E Rt b ρ1
 |e,ρ=>(pe Ψ e E).e ρ fun x n ρ1=>esc x n=true/\Rt x ρ1
noncomputable def frzS:Option Sl->Option Sl
 |some (.own t)=>some (.nj (.d t.er))
 |s=>s
noncomputable def frzAt:List Nat->yA->yA
 |[],ρ=>ρ
 |i::is,ρ=>frzAt is (ρ.modify i frzS)
def hsP(s:PT)(N:yA->Prop)(ρ:yA):Prop:=∃j i us,s=.for_ (.nm i) .val (.ng (.var j) .nh) (.seq (.expr (.mt .clear (.var i) .nh)) .nil)/\i≠j/\i<ρ.length/\ρ[j]?=some (some (.own (.tup us)))/\(∀u∈us,∃ts,u=T.lst ts)/\N ((ρ.set j (some (.own (.tup (us.map fun _=>T.lst []))))).set i none)
def stT(t:T)(y x:D)(Q:T->Prop):Prop:=∃ts i n,t=.lst ts/\y=.int i/\ixN ts.length i=some n/\Q (.lst (ts.set n (.d x)))
def papT(t:T)(y:D)(Q:List T->Nat->List T->Prop):Prop:=∃us i n ts,t=.tup us/\y=.int i/\ixN us.length i=some n/\us[n]?=some (.lst ts)/\Q us n ts
noncomputable def nA(Ψ:PEv)(E:XE):PT->PEnds->yA->Prop
 | .nil,Z,ρ=>Z.nx ρ
 | .seq s r,Z,ρ=>nA Ψ E s { Z with nx:=fun ρ'=>nA Ψ E r Z ρ' } ρ
 | .set i e,Z,ρ=>(pe Ψ e E).e ρ fun x n ρ1=>esc x n=true/\Z.nx (ρ1.set i (some (.nj (.d x.er))))
 | .expr e,Z,ρ=>(pe Ψ e E).e ρ fun _ _ ρ1=>Z.nx ρ1
 | .ret e,Z,ρ=>retP Ψ E Z.rt e ρ
 | .ife c a b,Z,ρ=>(pe Ψ c E).t ρ fun k ρ1=>if k=true then nA Ψ E a Z ρ1 else nA Ψ E b Z ρ1
 | .for_ tg ik its body,Z,ρ=>(pe Ψ its E).a [] ρ fun xs ρ1=>dC ik (iB xs) fun items =>
   if allD xs=true then forV (nA Ψ E body) tg { Z with nx:=fun ρ2=>Z.nx (kill tg.ix ρ2) } items ρ1
   else forV (nA Ψ E body) tg { Z with nx:=fun ρ2=>unlock tg.ix (jD ρ1 (vrs its)) ρ1 Z.nx (kill tg.ix ρ2) } items (lock (jD ρ1 (vrs its)) ρ1)
 | .own i e,Z,ρ=>(pe Ψ e E).e ρ fun x n ρ1=>esc x n=true/\Z.nx (ρ1.set i (some (.own x)))
 | .rse,_,_=>False
 | .frz is s,Z,ρ=>nA Ψ E s Z (frzAt is ρ)
 | .hs s,Z,ρ=>hsP s Z.nx ρ
 | .six j i e,Z,ρ=>ownV ρ[j]? fun t=>(pe Ψ e E).e (ρ.set j (some (.nj t))) fun x n ρ1=>esc x n=true/\(pe Ψ i E).e ρ1 fun y m ρ2=>esc y m=true/\ρ2[j]?=some (some (.nj t))/\stT t y.er x.er fun t'=>Z.nx (ρ2.set j (some (.own t')))
 | .pap j k e,Z,ρ=>ownV ρ[j]? fun t=>(pe Ψ k E).e (ρ.set j (some (.nj t))) fun y m ρ1=>esc y m=true/\papT t y.er fun us n ts=>(pe Ψ e E).e ρ1 fun x l ρ2=>esc x l=true/\ρ2[j]?=some (some (.nj t))/\ts.length<sizeLine/\Z.nx (ρ2.set j (some (.own (.tup (us.set n (.lst (ts++[x])))))))
theorem _root_.L2.Same.rd{H H':Hp}(e:Same H H'){a:Addr}{u:HO}(h:Rd H a u):Rd H' a u:=by
 rcases h with h|⟨o,h⟩
 exact .inl (e _ _ h);exact .inr ⟨o,e _ _ h⟩
theorem _root_.L2.Same.tupl{K:QA}{H H':Hp}{a:Addr}{xs:List V}(e:Same H H')(h:SqT K H a xs):SqT K H' a xs:=by rcases h with h|h;exact .inl (e.rd h);exact .inr h
mutual
theorem Rep.mono{K:QA}{H H':Hp}(e:Same H H'):∀{v:V}{d:D},Rep K H v d->Rep K H' v d
 |_,_,.non=>.non
 |_,_,.bl b=>.bl b
 |_,_,.int i=>.int i
 |_,_,.str x=>.str x
 |_,_,.lst h r=>.lst (e.seq h) (Reps.mono e r)
 |_,_,.tup h r=>.tup (e.tupl h) (Reps.mono e r)
theorem Reps.mono{K:QA}{H H':Hp}(e:Same H H'):∀{vs:List V}{ds:List D},Reps K H vs ds->Reps K H' vs ds
 |_,_,.nil=>.nil
 |_,_,.cons h t=>.cons (Rep.mono e h) (Reps.mono e t)
end
theorem Reps.append{K:QA}{H:Hp}:∀{vs ws:List V}{ds es:List D},Reps K H vs ds->Reps K H ws es->Reps K H (vs++ws) (ds++es)
 |_,_,_,_,.nil,r=>r
 |_,_,_,_,.cons h t,r=>.cons h (Reps.append t r)
theorem Reps.drop{K:QA}{H:Hp}:∀{vs:List V}{ds:List D}(n:Nat),Reps K H vs ds->Reps K H (vs.drop n) (ds.drop n)
 |_,_,0,r=>r
 |_,_,_+1,.nil=>.nil
 |_,_,n+1,.cons _ t=>Reps.drop n t
theorem Reps.take{K:QA}{H:Hp}:∀{vs:List V}{ds:List D}(n:Nat),Reps K H vs ds->Reps K H (vs.take n) (ds.take n)
 |_,_,0,_=>.nil
 |_,_,_+1,.nil=>.nil
 |_,_,n+1,.cons h t=>.cons h (Reps.take n t)
theorem Reps.map_str{K:QA}{H:Hp}:∀(xs:List Str),Reps K H (xs.map V.str) (xs.map PyData.str)
 |[]=>.nil
 |x::r=>.cons (.str x) (Reps.map_str r)
theorem Reps.bools{K:QA}{H:Hp}:∀{vs:List V}{bs:List Bool},Reps K H vs (bs.map PyData.bool)->vs=bs.map V.bl
 |_,[],.nil=>rfl
 |_,b::bs,.cons h t=>by cases h;rw[QS,Reps.bools t]
theorem XC{H:Hp}{p:Addr}{o:HO}(h:H p=none):Same H (FB H p o):=fun b u q=>by rw[fA (SA q h)];exact q
mutual
inductive Tr(K:QA)(F H:Hp):Bool->V->T->(Addr->Prop)->Prop where
 |d {st:Bool}{v:V}{x:D}{S:KA}:Rep K F v x->(∀b,¬ S b)->Tr K F H st v (.d x) S
 |lst {st:Bool}{a:Addr}{vs:List V}{ts:List T}{S S':KA}:H a=some (.lst vs)->F a=none->Trs K F H st vs ts S'->¬ S' a->(∀b,S b↔b=a∨S' b)->Tr K F H st (.ref a) (.lst ts) S
 |tup {st:Bool}{a:Addr}{vs:List V}{ts:List T}{S S':KA}:H a=some (.tup vs)->F a=none->Trs K F H st vs ts S'->¬ S' a->(∀b,S b↔b=a∨S' b)->Tr K F H st (.ref a) (.tup ts) S
 |lstF {a:Addr}{vs:List V}{ds:List D}{S:KA}:SqL K F a vs->Reps K F vs ds->(∀b,¬ S b)->Tr K F H false (.ref a) (.lst (ds.map T.d)) S
inductive Trs(K:QA)(F H:Hp):Bool->List V->List T->(Addr->Prop)->Prop where
 |nil {st:Bool}{S:KA}:(∀b,¬ S b)->Trs K F H st [] [] S
 |cons {st:Bool}{v:V}{t:T}{vs:List V}{ts:List T}{S S1 S2:KA}:Tr K F H st v t S1->Trs K F H st vs ts S2->(∀b,S1 b->¬ S2 b)->(∀b,S b↔S1 b∨S2 b)->Trs K F H st (v::vs) (t::ts) S
end
section
variable{K:QA}{F H F' H':Hp}
mutual
theorem Tr.mono(e:Same F F'):∀{st:Bool}{v:V}{t:T}{S:KA},Tr K F H st v t S->(∀b,S b->H' b=H b/\F' b=none)->Tr K F' H' st v t S
 |_,_,_,_,.d r n,_=>.d (r.mono e) n
 |_,_,_,S,.lst (a:=a) h f r n q,k=>.lst ((k a ((q a).mpr (.inl rfl))).1.trans h) (k a ((q a).mpr (.inl rfl))).2 (Trs.mono e r fun b hb=>k b ((q b).mpr (.inr hb))) n q
 |_,_,_,S,.tup (a:=a) h f r n q,k=>.tup ((k a ((q a).mpr (.inl rfl))).1.trans h) (k a ((q a).mpr (.inl rfl))).2 (Trs.mono e r fun b hb=>k b ((q b).mpr (.inr hb))) n q
 |_,_,_,_,.lstF h r n,_=>.lstF (e.seq h) (r.mono e) n
theorem Trs.mono(e:Same F F'):∀{st:Bool}{vs:List V}{ts:List T}{S:KA},Trs K F H st vs ts S->(∀b,S b->H' b=H b/\F' b=none)->Trs K F' H' st vs ts S
 |_,_,_,_,.nil n,_=>.nil n
 |_,_,_,_,.cons h t n q,k=>.cons (Tr.mono e h fun b hb=>k b ((q b).mpr (.inl hb))) (Trs.mono e t fun b hb=>k b ((q b).mpr (.inr hb))) n q
end
mutual
theorem Tr.weak:∀{st:Bool}{v:V}{t:T}{S:KA},Tr K F H st v t S->Tr K F H false v t S
 |_,_,_,_,.d r n=>.d r n
 |_,_,_,_,.lst h f r n q=>.lst h f (Trs.weak r) n q
 |_,_,_,_,.tup h f r n q=>.tup h f (Trs.weak r) n q
 |_,_,_,_,.lstF h r n=>.lstF h r n
theorem Trs.weak:∀{st:Bool}{vs:List V}{ts:List T}{S:KA},Trs K F H st vs ts S->Trs K F H false vs ts S
 |_,_,_,_,.nil n=>.nil n
 |_,_,_,_,.cons h t n q=>.cons (Tr.weak h) (Trs.weak t) n q
end
mutual
theorem Tr.dom:∀{st:Bool}{v:V}{t:T}{S:KA},Tr K F H st v t S->∀b,S b->H b≠none/\F b=none
 |_,_,_,_,.d r n=>fun b hb=>absurd hb (n b)
 |_,_,_,_,.lst h f r n q=>fun b hb=>by rcases(q b).mp hb with e|e;subst e;exact⟨by rw[h];simp,f⟩;exact Trs.dom r b e
 |_,_,_,_,.tup h f r n q=>fun b hb=>by rcases(q b).mp hb with e|e;subst e;exact⟨by rw[h];simp,f⟩;exact Trs.dom r b e
 |_,_,_,_,.lstF h r n=>fun b hb=>absurd hb (n b)
theorem Trs.dom:∀{st:Bool}{vs:List V}{ts:List T}{S:KA},Trs K F H st vs ts S->∀b,S b->H b≠none/\F b=none
 |_,_,_,_,.nil n=>fun b hb=>absurd hb (n b)
 |_,_,_,_,.cons h t n q=>fun b hb=>by rcases(q b).mp hb with e|e;exact Tr.dom h b e;exact Trs.dom t b e
end
mutual
theorem Tr.rep(f:Same F H):∀{st:Bool}{v:V}{t:T}{S:KA},Tr K F H st v t S->Rep K H v t.er
 |_,_,_,_,.d r n=>r.mono f
 |_,_,_,_,.lst h _ r n q=>by unfold T.er;exact .lst (SqL.of h) (Trs.reps f r)
 |_,_,_,_,.tup h _ r n q=>by unfold T.er;exact .tup (SqT.of h) (Trs.reps f r)
 |_,_,_,_,.lstF h r n=>by unfold T.er;rw[oC];exact .lst (f.seq h) (r.mono f)
theorem Trs.reps(f:Same F H):∀{st:Bool}{vs:List V}{ts:List T}{S:KA},Trs K F H st vs ts S->Reps K H vs (ersT ts)
 |_,_,_,_,.nil n=>.nil
 |_,_,_,_,.cons h t n q=>.cons (Tr.rep f h) (Trs.reps f t)
end
mutual
theorem Tr.kept(e:Same F F'):∀{st:Bool}{v:V}{t:T}{S:KA},Tr K F H st v t S->(∀b u,S b->H b=some u->F' b=some u)->Rep K F' v t.er
 |_,_,_,_,.d r n,_=>r.mono e
 |_,_,_,_,.lst (a:=a) h f r n q,k=>by unfold T.er;exact .lst (SqL.of (k a _ ((q a).mpr (.inl rfl)) h)) (Trs.kept e r fun b u hb=>k b u ((q b).mpr (.inr hb)))
 |_,_,_,_,.tup (a:=a) h f r n q,k=>by unfold T.er;exact .tup (SqT.of (k a _ ((q a).mpr (.inl rfl)) h)) (Trs.kept e r fun b u hb=>k b u ((q b).mpr (.inr hb)))
 |_,_,_,_,.lstF h r n,_=>by unfold T.er;rw[oC];exact .lst (e.seq h) (r.mono e)
theorem Trs.kept(e:Same F F'):∀{st:Bool}{vs:List V}{ts:List T}{S:KA},Trs K F H st vs ts S->(∀b u,S b->H b=some u->F' b=some u)->Reps K F' vs (ersT ts)
 |_,_,_,_,.nil n,_=>.nil
 |_,_,_,_,.cons h t n q,k=>.cons (Tr.kept e h fun b u hb=>k b u ((q b).mpr (.inl hb))) (Trs.kept e t fun b u hb=>k b u ((q b).mpr (.inr hb)))
end
theorem Trs.length:∀{st:Bool}{vs:List V}{ts:List T}{S:KA},Trs K F H st vs ts S->vs.length=ts.length
 |_,_,_,_,.nil n=>rfl
 |_,_,_,_,.cons h t n q=>by rw[QL,QL,Trs.length t]
theorem Trs.of_reps{st:Bool}:∀{vs:List V}{ds:List D},Reps K F vs ds->Trs K F H st vs (ds.map T.d) (fun _=>False)
 |_,_,.nil=>.nil fun _ z=>z
 |_,_,.cons h t=>.cons (.d h fun _ z=>z) (Trs.of_reps t) (fun _ z=>z.elim) fun b=>by simp
theorem Trs.un:∀{st:Bool}{vs:List V}{ts:List T}{S:KA}{ds:List D},Trs K F H st vs ts S->unD ts=some ds->Reps K F vs ds/\∀b,¬ S b
 |_,_,_,_,_,.nil n,e=>by simp only[unD,Qr]at e;subst e;exact⟨.nil,n⟩
 |st,_,_,S,ds,.cons h t n q,e=>by
  have ed:=unD_some e;cases ds with
  |nil=>cases ed
  |cons d r =>
   rw[QS]at ed;injection ed with e1 e2;subst e1;have e3:=congrArg unD e2;rw[dA]at e3;obtain⟨h1,h2⟩:=Trs.un t e3;cases h with
   |d rep m=>refine⟨.cons rep h1,fun b hb=>?_⟩;rcases(q b).mp hb with z|z;exact m b z;exact h2 b z
theorem Trs.get:∀{st:Bool}{vs:List V}{ts:List T}{S:KA}{i:Nat}{t:T},Trs K F H st vs ts S->ts[i]?=some t->∃v S1,vs[i]?=some v/\Tr K F H st v t S1/\∀b,S1 b->S b
 |_,_,_,_,i,_,.nil n,e=>by simp at e
 |_,_,_,_,0,_,.cons h t n q,e=>by simp at e;subst e;exact⟨_,_,rfl,h,fun b hb=>(q b).mpr (.inl hb)⟩
 |_,_,_,_,i+1,_,.cons h t n q,e=>by obtain⟨v,S1,h1,h2,h3⟩:=Trs.get (i:=i) t (by simpa using e);exact⟨v,S1,by simpa using h1,h2,fun b hb=>(q b).mpr (.inr (h3 b hb))⟩
theorem Trs.at{st:Bool}{vs:List V}{ts:List T}{S:KA}{i:Int}{t:T}(r:Trs K F H st vs ts S)(h:uC ts i=some t):∃v S1,uC vs i=some v/\Tr K F H st v t S1/\∀b,S1 b->S b:=by
 unfold uC at h ⊢;rw[r.length];cases e:ixN ts.length i with
 |none=>rw[e]at h;cases h
 |some j=>rw[e]at h;exact r.get h
theorem Trs.append:∀{st:Bool}{vs ws:List V}{ts us:List T}{S1 S2:KA},Trs K F H st vs ts S1->Trs K F H st ws us S2->(∀b,S1 b->¬ S2 b)->Trs K F H st (vs++ws) (ts++us) (fun b=>S1 b∨S2 b)
 |_,_,_,_,_,_,_,.nil n,r,k=>by
  cases r with
  |nil m=>exact .nil fun b hb=>hb.elim (n b) (m b)
  |cons h t m q=>exact .cons h t m fun b=>by rw[<- q b];simp[n b]
 |_,_,_,_,_,_,_,.cons (S1:=P1) (S2:=P2) h t n q,r,k=>by
  refine .cons h (Trs.append t r fun b hb=>k b ((q b).mpr (.inr hb))) (fun b hb z=>?_) fun b=>by rw[q b,or_assoc]
  rcases z with z|z;exact n b hb z;exact k b ((q b).mpr (.inl hb)) z
theorem Trs.one{st:Bool}{v:V}{t:T}{S:KA}(h:Tr K F H st v t S):Trs K F H st [v] [t] S:=.cons h (.nil (S:=fun _=>False) fun _ z=>z) (fun _ _ z=>z) fun b=>by simp
theorem Tr.ls{st:Bool}{v:V}{t:T}{S:KA}{ts:List T}(f:Same F H)(h:Tr K F H st v t S)(e:t.vw=.ls ts):∃a vs S',v=.ref a/\SqL K H a vs/\Trs K F H false vs ts S'/\∀b,S' b->S b:=by
 cases h with
 |d r n =>
  cases r with
  |lst q r=>injection e with e;subst e;exact⟨_,_,_,rfl,f.seq q,Trs.of_reps r,fun b hb=>hb.elim⟩
  |_=>cases e
 |lst h _ r n q=>injection e with e;subst e;exact⟨_,_,_,rfl,SqL.of h,r.weak,fun b hb=>(q b).mpr (.inr hb)⟩
 |tup=>cases e
 |lstF h r n=>injection e with e;subst e;exact⟨_,_,_,rfl,f.seq h,Trs.of_reps r,fun b hb=>hb.elim⟩
theorem Tr.tp{st:Bool}{v:V}{t:T}{S:KA}{ts:List T}(f:Same F H)(h:Tr K F H st v t S)(e:t.vw=.tp ts):∃a vs S',v=.ref a/\SqT K H a vs/\Trs K F H false vs ts S'/\∀b,S' b->S b:=by
 cases h with
 |d r n =>
  cases r with
  |tup q r=>injection e with e;subst e;exact⟨_,_,_,rfl,f.tupl q,Trs.of_reps r,fun b hb=>hb.elim⟩
  |_=>cases e
 |tup h _ r n q=>injection e with e;subst e;exact⟨_,_,_,rfl,SqT.of h,r.weak,fun b hb=>(q b).mpr (.inr hb)⟩
 |lst=>cases e
 |lstF=>cases e
theorem Tr.sc{st:Bool}{v:V}{t:T}{S:KA}{x:D}(h:Tr K F H st v t S)(e:t.vw=.sc x):t=.d x/\Rep K F v x:=by
 cases h with
 |@d _ _ y _ r n =>
  cases y with
  |list ds=>cases e
  |tuple ds=>cases e
  |dict ds=>cases e
  |_=>injection e with e;subst e;exact⟨rfl,r⟩
 |tup=>cases e
 |lst=>cases e
 |lstF=>cases e
theorem Tr.int{st:Bool}{v:V}{t:T}{S:KA}{i:Int}(h:Tr K F H st v t S)(e:t.vw=.sc (.int i)):v=.int i:=by obtain⟨_,r⟩:=h.sc e;cases r;rfl
theorem Tr.str{st:Bool}{v:V}{t:T}{S:KA}{i:Str}(h:Tr K F H st v t S)(e:t.vw=.sc (.str i)):v=.str i:=by obtain⟨_,r⟩:=h.sc e;cases r;rfl
theorem Tr.bool{st:Bool}{v:V}{t:T}{S:KA}{i:Bool}(h:Tr K F H st v t S)(e:t.vw=.sc (.bool i)):v=.bl i:=by obtain⟨_,r⟩:=h.sc e;cases r;rfl
end
theorem Reps.reps{K:QA}{H:Hp}{vs:List V}{ds:List D}(h:Reps K H vs ds):∀m:Nat,Reps K H (QH m vs).flatten (QH m ds).flatten
 |0=>.nil
 |m+1=>by rw[Qe,Qe,qF,qF];exact h.append (h.reps m)
noncomputable def Sl.t:Sl->T
 | .own t=>t
 | .nj t=>t
noncomputable def Sl.st:Sl->Bool
 | .own _=>true
 | .nj _=>false
noncomputable abbrev Ft:=Nat->Addr->Prop
structure Rl(K:QA)(F H:Hp)(S:Ft)(ρ:yA)(σ:St):Prop where
 fh:Same F H
 len:ρ.length=σ.length
 sl:∀(i:Nat) s,ρ[i]?=some (some s)->∃v,σ[i]?=some (some v)/\Tr K F H s.st v s.t (S i)
 dj:∀(i j:Nat) t s,i≠j->ρ[i]?=some (some (.own t))->ρ[j]?=some (some s)->∀b,S i b->¬ S j b
def U(ρ:yA)(S:Ft)(b:Addr):Prop:=∃(i:Nat) (t:T),ρ[i]?=some (some (.own t))/\S i b
structure Stp(F H:Hp)(S:Ft)(ρ:yA)(F' H':Hp)(S':Ft)(ρ':yA):Prop where
 ff:Same F F'
 hh:∀b u,H b=some u->¬ U ρ S b->H' b=some u
 dm:∀b,H' b=none->H b=none
 fn:∀b,F b=none->F' b≠none->U ρ S b∨H b=none
 uu:∀b,U ρ' S' b->U ρ S b∨H b=none
 bo:∀(j:Nat) t,ρ'[j]?=some (some (.nj t))->t.isD=false->ρ[j]?=some (some (.nj t))/\S' j=S j
structure Ste(F H:Hp)(S:Ft)(ρ:yA)(F' H':Hp)(S':Ft)(ρ':yA):Prop extends Stp F H S ρ F' H' S' ρ' where
 ow:∀(j:Nat) t,ρ'[j]?=some (some (.own t))->∃t0,ρ[j]?=some (some (.own t0))
section
variable{K:QA}{F H F1 H1 F2 H2:Hp}{S S1 S2:Ft}{ρ ρ1 ρ2:yA}{σ:St}
theorem Stp.refl:Stp F H S ρ F H S ρ:=⟨.refl _,fun _ _ h _=>h,fun _ h=>h,fun b h z=>absurd h z,fun _ h=>.inl h,fun _ _ h _=>⟨h,rfl⟩⟩
theorem Ste.refl:Ste F H S ρ F H S ρ:=⟨Stp.refl,fun _ t h=>⟨t,h⟩⟩
theorem Stp.trans(a:Stp F H S ρ F1 H1 S1 ρ1)(b:Stp F1 H1 S1 ρ1 F2 H2 S2 ρ2):Stp F H S ρ F2 H2 S2 ρ2 where
 ff:=a.ff.trans b.ff
 hh:=fun x u h n=>b.hh x u (a.hh x u h n) fun z=>by rcases a.uu x z with q|q;exact n q;rw[q]at h;cases h
 dm:=fun x h=>a.dm x (b.dm x h)
 fn:=fun x h z=>by
  by_cases q:F1 x=none;rcases b.fn x q z with w|w
  ·exact a.uu x w
  exact .inr (a.dm x w);exact a.fn x h q
 uu:=fun x h=>by rcases b.uu x h with w|w;exact a.uu x w;exact .inr (a.dm x w)
 bo:=fun j t h n=>by obtain⟨h1,h2⟩:=b.bo j t h n;obtain⟨h3,h4⟩:=a.bo j t h1 n;exact⟨h3,h2.trans h4⟩
theorem Ste.trans(a:Ste F H S ρ F1 H1 S1 ρ1)(b:Ste F1 H1 S1 ρ1 F2 H2 S2 ρ2):Ste F H S ρ F2 H2 S2 ρ2:=⟨a.toStp.trans b.toStp,fun j t h=>by obtain⟨t1,h1⟩:=b.ow j t h;exact a.ow j t1 h1⟩
theorem Stp.keep(s:Stp F H S ρ F1 H1 S1 ρ1){st:Bool}{v:V}{t:T}{Z:KA}(h:Tr K F H st v t Z)(n:∀b,Z b->¬ U ρ S b):Tr K F1 H1 st v t Z :=
 h.mono s.ff fun b hb=>by
  obtain⟨h1,h2⟩:=h.dom b hb;refine⟨?_,?_⟩;cases e:H b with
  |none=>exact absurd e h1
  |some u=>exact s.hh b u e (n b hb)
  by_cases q:F1 b=none
  ·exact q
  rcases s.fn b h2 q with z|z
  ·exact absurd z (n b hb)
  exact absurd z h1
theorem Rl.dom(I:Rl K F H S ρ σ){i:Nat}{s:Sl}(h:ρ[i]?=some (some s)){b:Addr}(hb:S i b):H b≠none/\F b=none:=by obtain⟨v,_,r⟩:=I.sl i s h;exact r.dom b hb
theorem Rl.isD(I:Rl K F H S ρ σ){i:Nat}{s:Sl}(h:ρ[i]?=some (some s))(hd:s.t.isD=true){b:Addr}:¬ S i b:=by
 obtain⟨v,_,r⟩:=I.sl i s h;generalize s.t=t at r hd;generalize s.st=st at r;cases r with
 |d r n=>exact n b
 |_=>cases hd
structure Held(F H:Hp)(S:Ft)(ρ:yA)(Z:KA):Prop where
 dom:∀b,Z b->H b≠none/\F b=none
 nw:∀(i:Nat) s,ρ[i]?=some (some s)->∀b,Z b->¬ S i b
theorem Held.nu{Z:KA}(h:Held F H S ρ Z):∀b,Z b->¬ U ρ S b:=fun b hb ⟨i,t,h1,h2⟩=>h.nw i _ h1 b hb h2
theorem Held.step{Z:KA}(h:Held F H S ρ Z)(s:Stp F H S ρ F1 H1 S1 ρ1)(I1:Rl K F1 H1 S1 ρ1 σ):Held F1 H1 S1 ρ1 Z where
 dom:=fun b hb=>by
  obtain⟨h1,h2⟩:=h.dom b hb;refine⟨fun z=>h1 (s.dm b z),?_⟩;by_cases q:F1 b=none;exact q;rcases s.fn b h2 q with z|z
  ·exact absurd z (h.nu b hb)
  exact absurd z h1
 nw:=fun i sl e b hb z=>by
  cases sl with
  |own t=>rcases s.uu b ⟨i,t,e,z⟩ with q|q;exact h.nu b hb q;exact(h.dom b hb).1 q
  |nj t =>
   cases hd:t.isD with
   |true=>exact I1.isD e hd z
   |false=>obtain⟨e1,e2⟩:=s.bo i t e hd;rw[e2]at z;exact h.nw i _ e1 b hb z
theorem Held.none:Held F H S ρ fun _=>False:=⟨fun _ z=>z.elim,fun _ _ _ _ z=>z.elim⟩
noncomputable def frzH(F H:Hp)(W:KA):Hp:=open Classical in fun b=>if W b then H b else F b
theorem frzH_in{W:KA}{b:Addr}(h:W b):frzH F H W b=H b:=if_pos h
theorem PC{W:KA}{b:Addr}(h:¬ W b):frzH F H W b=F b:=if_neg h
theorem frzH_ff{W:KA}(h:∀b,W b->F b=none):Same F (frzH F H W):=fun b u e=>by rw[PC fun z=>by rw[h b z]at e;cases e];exact e
theorem frzH_fh{W:KA}(f:Same F H):Same (frzH F H W) H:=fun b u e=>by by_cases hb:W b;rw[frzH_in hb]at e;exact e;rw[PC hb]at e;exact f b u e
theorem Rl.frz(I:Rl K F H S ρ σ){W:KA}(hw:Held F H S ρ W):Rl K (frzH F H W) H S ρ σ where
 fh:=frzH_fh I.fh
 len:=I.len
 sl:=fun i s e=>by obtain⟨v,h1,h2⟩:=I.sl i s e;refine⟨v,h1,h2.mono (frzH_ff fun b hb=>(hw.dom b hb).2) fun b hb=>⟨rfl,?_⟩⟩;rw[PC fun z=>hw.nw i s e b z hb];exact(h2.dom b hb).2
 dj:=I.dj
theorem Stp.frz(s:Stp F H S ρ F1 H1 S1 ρ1){W:KA}(hw:∀b,W b->F1 b=none)(fr:∀b,W b->H b=none∨U ρ S b):Stp F H S ρ (frzH F1 H1 W) H1 S1 ρ1 :=
 ⟨s.ff.trans (frzH_ff hw),s.hh,s.dm,fun b h z=>by by_cases q:W b;exact(fr b q).symm;rw[PC q]at z;exact s.fn b h z,s.uu,s.bo⟩
theorem Ste.frz(s:Ste F H S ρ F1 H1 S1 ρ1){W:KA}(hw:∀b,W b->F1 b=none)(fr:∀b,W b->H b=none∨U ρ S b):Ste F H S ρ (frzH F1 H1 W) H1 S1 ρ1:=⟨s.toStp.frz hw fr,s.ow⟩
theorem Stp.new(s:Stp F H S ρ F1 H1 S1 ρ1){p:Addr}(h:H1 p=none)(o:HO):Stp F H S ρ F1 (FB H1 p o) S1 ρ1 :=
 ⟨s.ff,fun b u e n=>XC h b u (s.hh b u e n),fun b e=>by by_cases hb:b=p;rw[hb,nB]at e;cases e;rw[fA hb]at e;exact s.dm b e,s.fn,s.uu,s.bo⟩
theorem Ste.new(s:Ste F H S ρ F1 H1 S1 ρ1){p:Addr}(h:H1 p=none)(o:HO):Ste F H S ρ F1 (FB H1 p o) S1 ρ1:=⟨s.toStp.new h o,s.ow⟩
theorem Rl.same(I:Rl K F H S ρ σ)(h:Same H H1):Rl K F H1 S ρ σ where
 fh:=I.fh.trans h
 len:=I.len
 sl:=fun i s e=>by
  obtain⟨v,h1,h2⟩:=I.sl i s e;refine⟨v,h1,h2.mono (.refl _) fun b hb=>⟨?_,(h2.dom b hb).2⟩⟩;cases e:H b with
  |none=>exact absurd e (h2.dom b hb).1
  |some u=>exact h b u e
 dj:=I.dj
theorem Rl.new(I:Rl K F H S ρ σ){p:Addr}(h:H p=none)(o:HO):Rl K F (FB H p o) S ρ σ:=I.same (XC h)
theorem Stp.newT(s:Stp F H S ρ F1 H1 S1 ρ1){p:Addr}(h:H1 p=none)(hf:F1 p=none)(o:HO):Stp F H S ρ (FB F1 p o) (FB H1 p o) S1 ρ1 :=
 let s':=s.new h o
 ⟨s.ff.trans (XC hf),s'.hh,s'.dm,fun b e z=>by by_cases hb:b=p;rw[hb];exact .inr (s.dm p h);rw[fA hb]at z;exact s.fn b e z,s.uu,s.bo⟩
theorem Ste.newT(s:Ste F H S ρ F1 H1 S1 ρ1){p:Addr}(h:H1 p=none)(hf:F1 p=none)(o:HO):Ste F H S ρ (FB F1 p o) (FB H1 p o) S1 ρ1:=⟨s.toStp.newT h hf o,s.ow⟩
theorem Rl.newT(I:Rl K F H S ρ σ){p:Addr}(h:H p=none)(o:HO):Rl K (FB F p o) (FB H p o) S ρ σ where
 fh:=fun b u e=>by by_cases hb:b=p;rw[hb,nB]at e ⊢;exact e;rw[fA hb]at e ⊢;exact I.fh b u e
 len:=I.len
 sl:=fun i s e=>by obtain⟨v,h1,h2⟩:=I.sl i s e;refine⟨v,h1,h2.mono (XC (I.fh.free h)) fun b hb=>?_⟩;have hn:b≠p:=fun z=>(h2.dom b hb).1 (by rw[z];exact h);rw[fA hn,fA hn];exact⟨rfl,(h2.dom b hb).2⟩
 dj:=I.dj
theorem lockA_get(ρ:yA)(i:Nat):(lockA ρ)[i]?=ρ[i]?.map lockS:=by unfold lockA;rw[Qd]
theorem MB{ρ:yA}{i:Nat}{s:Sl}(h:(lockA ρ)[i]?=some (some s)):∃s0,ρ[i]?=some (some s0)/\s=.nj s0.t:=by
 rw[lockA_get]at h;cases e:ρ[i]? with
 |none=>rw[e]at h;cases h
 |some o =>
  rw[e]at h;cases o with
  |none=>cases h
  |some s0 =>
   cases s0 with
   |own t=>injection h with h;injection h with h;subst h;exact⟨_,rfl,rfl⟩
   |nj t=>injection h with h;injection h with h;subst h;exact⟨_,rfl,rfl⟩
theorem lockA_U(b:Addr):¬ U (lockA ρ) S b:=fun⟨i,t,h,_⟩=>by obtain⟨s0,_,e⟩:=MB h;cases e
theorem Rl.lockA(I:Rl K F H S ρ σ):Rl K F H S (lockA ρ) σ where
 fh:=I.fh
 len:=by unfold L3.lockA;rw[QG];exact I.len
 sl:=fun i s e=>by obtain⟨s0,h,rfl⟩:=MB e;obtain⟨v,h1,h2⟩:=I.sl i s0 h;exact⟨v,h1,h2.weak⟩
 dj:=fun i j t s _ h=>by obtain⟨s0,_,e⟩:=MB h;cases e
theorem Stp.unlockA(s:Stp F H S (L3.lockA ρ) F1 H1 S1 ρ1):Stp F H S ρ F1 H1 S ρ :=
 ⟨s.ff,fun b u e _=>s.hh b u e (lockA_U b),s.dm,fun b h z=>(s.fn b h z).elim (fun q=>absurd q (lockA_U b)) .inr,fun _ h=>.inl h,fun _ _ h _=>⟨h,rfl⟩⟩
theorem Rl.unlockA(I:Rl K F H S ρ σ)(s:Stp F H S (L3.lockA ρ) F1 H1 S1 ρ1)(f:Same F1 H1):Rl K F1 H1 S ρ σ where
 fh:=f
 len:=I.len
 sl:=fun i sl e=>by obtain⟨v,h1,h2⟩:=I.sl i sl e;exact⟨v,h1,s.keep h2 fun b _=>lockA_U b⟩
 dj:=I.dj
structure VR(K:QA)(vs:List Nat)(H0:Hp)(S0:Ft)(ρ0:yA)(F H:Hp)(S:Ft)(ρ:yA)(v:V)(t:T)(n:Bool)(Z:KA):Prop where
 tr:Tr K F H n v t Z
 fr:n=true->∀b,Z b->H0 b=none∨U ρ0 S0 b
 tm:n=false->∀b,Z b->∃(i:Nat) (s:Sl),i∈vs/\ρ[i]?=some (some s)/\S i b
 nw:n=true->∀(i:Nat) s,ρ[i]?=some (some s)->∀b,Z b->¬ S i b
theorem VR.d{vs:List Nat}{H0:Hp}{S0:Ft}{ρ0:yA}{v:V}{x:D}(n:Bool)(r:Rep K F v x):VR K vs H0 S0 ρ0 F H S ρ v (.d x) n (fun _=>False) :=
 ⟨.d r fun _ z=>z,fun _ _ z=>z.elim,fun _ _ z=>z.elim,fun _ _ _ _ _ z=>z.elim⟩
theorem VR.held{vs:List Nat}{H0:Hp}{S0:Ft}{ρ0:yA}{v:V}{t:T}{Z:KA}(h:VR K vs H0 S0 ρ0 F H S ρ v t true Z):Held F H S ρ Z:=⟨fun b hb=>h.tr.dom b hb,h.nw rfl⟩
theorem VR.vars{vs ws:List Nat}{H0:Hp}{S0:Ft}{ρ0:yA}{v:V}{t:T}{n:Bool}{Z:KA}(h:VR K vs H0 S0 ρ0 F H S ρ v t n Z)(k:∀i∈vs,i∈ws):VR K ws H0 S0 ρ0 F H S ρ v t n Z :=
 ⟨h.tr,h.fr,fun e b hb=>let⟨i,s,h1,h2⟩:=h.tm e b hb;⟨i,s,k i h1,h2⟩,h.nw⟩
theorem VR.from{vs:List Nat}{v:V}{t:T}{n:Bool}{Z:KA}(s:Stp F H S ρ F1 H1 S1 ρ1)(h:VR K vs H1 S1 ρ1 F2 H2 S2 ρ2 v t n Z):VR K vs H S ρ F2 H2 S2 ρ2 v t n Z :=
 ⟨h.tr,fun e b hb=>by rcases h.fr e b hb with q|q;exact .inl (s.dm b q);exact(s.uu b q).symm,h.tm,h.nw⟩
theorem VR.frz{vs:List Nat}{v:V}{t:T}{n:Bool}{Z:KA}(s:Ste F H S ρ F1 H1 S1 ρ1)(I:Rl K F1 H1 S1 ρ1 σ)(h:VR K vs H S ρ F1 H1 S1 ρ1 v t n Z) :
  ∃F2 Z2,Ste F H S ρ F2 H1 S1 ρ1/\Rl K F2 H1 S1 ρ1 σ/\Tr K F2 H1 false v (vA t n) Z2/\(esc t n=true->Rep K F2 v t.er)/\(∀b,Z2 b->∃(i:Nat) (s:Sl),i∈vs/\ρ1[i]?=some (some s)/\S1 i b) /\
   ∀st v' t' Z',Tr K F1 H1 st v' t' Z'->(∀b,Z' b->∃(i:Nat) (s:Sl),ρ1[i]?=some (some s)/\S1 i b)->Tr K F2 H1 st v' t' Z':=by
 cases n with
 |true =>
  have hw:=h.held;have ff:=frzH_ff (H:=H1) fun b hb=>(hw.dom b hb).2;have kp:=h.tr.kept ff fun b u hb e=>by rw[frzH_in hb];exact e
  refine⟨frzH F1 H1 Z,fun _=>False,s.frz (fun b hb=>(hw.dom b hb).2) (h.fr rfl),I.frz hw,.d kp fun _ z=>z,fun _=>kp,fun b z=>z.elim,fun st v' t' Z' r hz=>r.mono ff fun b hb=>⟨rfl,?_⟩⟩;obtain⟨i,sl,h1,h2⟩:=hz b hb;rw[PC fun z=>hw.nw i sl h1 b z h2];exact(r.dom b hb).2
 |false =>
  refine⟨F1,Z,s,I,h.tr,?_,h.tm rfl,fun _ _ _ _ r _=>r⟩;intro e;have tr:=h.tr;cases t with
  |d x=>cases tr with|d r n=>exact r
  |_=>cases e
end
noncomputable abbrev eB(K:QA)(vs:List Nat)(F H:Hp)(S:Ft)(ρ:yA)(σ:St)(Q:TK)(R:VK):Prop :=
 ∀v F' H' S' ρ' t n Z,Ste F H S ρ F' H' S' ρ'->Rl K F' H' S' ρ' σ->VR K vs H S ρ F' H' S' ρ' v t n Z->Q t n ρ'->R v H'
noncomputable abbrev KontB(K:QA)(F H:Hp)(S:Ft)(ρ:yA)(σ:St)(Q:Bool->yA->Prop)(R:Bool->Hp->Prop):Prop :=
 ∀b F' H' S' ρ',Ste F H S ρ F' H' S' ρ'->Rl K F' H' S' ρ' σ->Q b ρ'->R b H'
section
variable{K:QA}{ws:List Nat}{F H F1 H1:Hp}{S S1:Ft}{ρ ρ1:yA}{σ:St}{v w:V}{a b:T}{Za Zb:KA}{Q:TK}{R:VK}{sa sb:Bool}
theorem eB.from{F2 H2:Hp}{S2:Ft}{ρ2:yA}(k:eB K ws F H S ρ σ Q R)(s:Ste F H S ρ F2 H2 S2 ρ2):eB K ws F2 H2 S2 ρ2 σ Q R:=fun v F' H' S' ρ' t n Z s' I' r q=>k v F' H' S' ρ' t n Z (s.trans s') I' (r.from s.toStp) q
theorem KontB.from{F2 H2:Hp}{S2:Ft}{ρ2:yA}{Q:Bool->yA->Prop}{R:Bool->Hp->Prop}(k:KontB K F H S ρ σ Q R)(s:Ste F H S ρ F2 H2 S2 ρ2):KontB K F2 H2 S2 ρ2 σ Q R:=fun b F' H' S' ρ' s' I' q=>k b F' H' S' ρ' (s.trans s') I' q
theorem eB.vars{us:List Nat}(k:eB K ws F H S ρ σ Q R)(h:∀i∈us,i∈ws):eB K us F H S ρ σ Q R:=fun v F' H' S' ρ' t n Z s I r q=>k v F' H' S' ρ' t n Z s I (r.vars h) q
theorem eB.d(k:eB K ws F H S ρ σ Q R)(s:Ste F H S ρ F1 H1 S1 ρ1)(I:Rl K F1 H1 S1 ρ1 σ){x:D}{n:Bool}(r:Rep K F1 v x)(q:Q (.d x) n ρ1):R v H1:=k v F1 H1 S1 ρ1 _ n _ s I (VR.d n r) q
theorem eB.list(k:eB K ws F H S ρ σ Q R)(s:Ste F H S ρ F1 H1 S1 ρ1)(I:Rl K F1 H1 S1 ρ1 σ){p:Addr}(hp:H1 p=none){vs:List V}{ts:List T}{W:KA}(r:Trs K F1 H1 true vs ts W)
  (fr:∀b,W b->H b=none∨U ρ S b) (hw:Held F1 H1 S1 ρ1 W) (q:Q (.lst ts) true ρ1):R (.ref p) (FB H1 p (.lst vs)):=by
 have np:∀b,H1 b≠none->b≠p:=fun b h z=>h (by rw[z];exact hp);refine k _ F1 _ S1 ρ1 _ true (fun b=>b=p∨W b) (s.new hp _) (I.new hp _) ⟨.lst nB (I.fh.free hp) (r.mono (.refl _) fun b hb=>⟨?_,(hw.dom b hb).2⟩) (fun z=>(hw.dom p z).1 hp) (fun b=>w8),fun _ b hb=>?_,fun z=>(by cases z),fun _ i sl e b hb z=>?_⟩ q;rw[fA (np b (hw.dom b hb).1)];rcases hb with rfl|hb
 ·exact .inl (s.dm _ hp)
 exact fr b hb;rcases hb with rfl|hb
 ·exact(I.dom e z).1 hp
 exact hw.nw i sl e b hb z
theorem eB.listD(k:eB K ws F H S ρ σ Q R)(s:Ste F H S ρ F1 H1 S1 ρ1)(I:Rl K F1 H1 S1 ρ1 σ){p:Addr}(hp:H1 p=none){vs:List V}{ds:List D}(r:Reps K F1 vs ds)(q:Q (.lst (ds.map T.d)) true ρ1):R (.ref p) (FB H1 p (.lst vs)) :=
 k.list s I hp (Trs.of_reps r) (fun b z=>z.elim) .none q
theorem eB.tupD(k:eB K ws F H S ρ σ Q R)(s:Ste F H S ρ F1 H1 S1 ρ1)(I:Rl K F1 H1 S1 ρ1 σ){p:Addr}(hp:H1 p=none){vs:List V}{ds:List D}{n:Bool}(r:Reps K F1 vs ds)(q:Q (.d (.tuple ds)) n ρ1):R (.ref p) (FB H1 p (.tup vs)) :=
 eB.d k (s.newT hp (I.fh.free hp) _) (I.newT hp _) (.tup (SqT.of nB) (r.mono (XC (I.fh.free hp)))) q
theorem eB.tup(k:eB K ws F H S ρ σ Q R)(s:Ste F H S ρ F1 H1 S1 ρ1)(I:Rl K F1 H1 S1 ρ1 σ){p:Addr}(hp:H1 p=none){vs:List V}{ts:List T}{W:KA}(r:Trs K F1 H1 true vs ts W)
  (fr:∀b,W b->H b=none∨U ρ S b) (hw:Held F1 H1 S1 ρ1 W) (q:Q (mkTup ts) true ρ1):R (.ref p) (FB H1 p (.tup vs)):=by
 unfold mkTup at q;cases e:unD ts with
 |some ds=>rw[e]at q;exact k.tupD s I hp (r.un e).1 q
 |none =>
  rw[e]at q;have np:∀b,H1 b≠none->b≠p:=fun b h z=>h (by rw[z];exact hp);refine k _ F1 _ S1 ρ1 _ true (fun b=>b=p∨W b) (s.new hp _) (I.new hp _) ⟨.tup nB (I.fh.free hp) (r.mono (.refl _) fun b hb=>⟨?_,(hw.dom b hb).2⟩) (fun z=>(hw.dom p z).1 hp) (fun b=>w8),fun _ b hb=>?_,fun z=>(by cases z),fun _ i sl e b hb z=>?_⟩ q;rw[fA (np b (hw.dom b hb).1)];rcases hb with rfl|hb
  ·exact .inl (s.dm _ hp)
  exact fr b hb;rcases hb with rfl|hb
  ·exact(I.dom e z).1 hp
  exact hw.nw i sl e b hb z
theorem bin_ok{op:Operator}(s:Ste F H S ρ F1 H1 S1 ρ1)(I:Rl K F1 H1 S1 ρ1 σ)(ra:Tr K F1 H1 sa v a Za)(rb:Tr K F1 H1 sb w b Zb)(h:binT op a.vw b.vw fun z n=>Q z n ρ1)(k:eB K ws F H S ρ σ Q R):binR K op v w H1 R:=by
 have ii:∀{i j:Int},a.vw=.sc (.int i)->b.vw=.sc (.int j)->v=.int i/\w=.int j:=fun ea eb=>⟨ra.int ea,rb.int eb⟩
 cases op with
 |Add =>
  rcases h with⟨i,j,ea,eb,h⟩| ⟨x,y,ea,eb,h⟩| ⟨xs0,ys0,ds,es,ea,eb,e1,e2,hl,q⟩| ⟨xs0,ys0,ds,es,ea,eb,e1,e2,hn,hn2,hl,q⟩
  obtain⟨rfl,rfl⟩:=ii ea eb;exact k.d s I (.int _) h;obtain rfl:=ra.str ea;obtain rfl:=rb.str eb;exact⟨h.1,k.d s I (.str _) h.2⟩;obtain⟨p,xs,_,rfl,hp,rp,_⟩:=ra.ls I.fh ea;obtain⟨p2,ys,_,rfl,hq,rq,_⟩:=rb.ls I.fh eb;have r1:=(rp.un e1).1;have r2:=(rq.un e2).1;exact .inl ⟨xs,ys,hp,hq,by rw[r1.length,r2.length];exact hl,fun l hl=>k.listD s I hl (r1.append r2) q⟩;obtain⟨p,xs,_,rfl,hp,rp,_⟩:=ra.tp I.fh ea;obtain⟨p2,ys,_,rfl,hq,rq,_⟩:=rb.tp I.fh eb;have r1:=(rp.un e1).1;have r2:=(rq.un e2).1;refine .inr ⟨p,p2,xs,ys,rfl,rfl,hp,hq,?_,by rw[r1.length,r2.length];exact hl,fun z=>?_,fun _ l hl=>?_⟩;intro z;subst z;cases r1;exact hn rfl;subst z;cases r2;exact absurd rfl hn2;exact k.tupD s I hl (r1.append r2) q
 |Sub=>obtain⟨i,j,ea,eb,h⟩:=h;obtain⟨rfl,rfl⟩:=ii ea eb;exact k.d s I (.int _) h
 |Mult =>
  rcases h with⟨i,j,ea,eb,h⟩| ⟨x,y,ea,eb,h⟩| ⟨ts,m,ds,ea,eb,e,⟨b1,b2,b3⟩,q⟩
  obtain⟨rfl,rfl⟩:=ii ea eb;exact⟨h.1,k.d s I (.int _) h.2⟩
  rotate_left
  obtain⟨p,xs,_,rfl,hp,rp,_⟩:=ra.ls I.fh ea;obtain rfl:=rb.int eb;have rr:=(rp.un e).1;exact⟨xs,hp,⟨b1,b2,by rw[rr.length];exact b3⟩,fun l hl=>k.listD s I hl (rr.reps m.toNat) q⟩;obtain rfl:=ra.str ea;obtain rfl:=rb.int eb;exact⟨h.1,k.d s I (.str _) h.2⟩
 |FloorDiv=>obtain⟨i,j,ea,eb,h⟩:=h;obtain⟨rfl,rfl⟩:=ii ea eb;exact⟨h.1,k.d s I (.int _) h.2⟩
 |Mod=>obtain⟨i,j,ea,eb,h⟩:=h;obtain⟨rfl,rfl⟩:=ii ea eb;exact⟨h.1,k.d s I (.int _) h.2⟩
 |Pow=>obtain⟨i,j,ea,eb,h⟩:=h;obtain⟨rfl,rfl⟩:=ii ea eb;exact⟨h.1,k.d s I (.int _) h.2⟩
 |_=>exact h.elim
theorem eq_ok{x y:D}{QB:Bool->Prop}(neg:Bool)(ra:Rep K H1 v x)(rb:Rep K H1 w y)(h:eqD x y fun k=>QB (if neg then !k else k))(k:∀c,QB c->R (.bl c) H1):rEq K neg v w H1 R:=by
 have gen:okD x/\okD y/\QB (if neg then !PyData.eqv x y else Qy x y)->(∃dx dy,Rep K H1 v dx/\Rep K H1 w dy/\okD dx/\okD dy/\R (.bl (if neg then !PyData.eqv dx dy else Qy dx dy)) H1):=fun⟨o1,o2,q⟩ =>
  ⟨x,y,ra,rb,o1,o2,k _ q⟩
 unfold eqD at h;split at h;cases ra;cases rb;exact k _ h;cases ra;cases rb;exact k _ h;cases ra;cases rb;exact k _ h;have g:=gen h;rename_i n1 n2 n3;cases ra with
 |int i =>
  cases rb with
  |int j=>exact absurd rfl (n1 i j rfl)
  |_=>exact g
 |str i =>
  cases rb with
  |str j=>exact absurd rfl (n2 i j rfl)
  |_=>exact g
 |bl i =>
  cases rb with
  |bl j=>exact absurd rfl (n3 i j rfl)
  |_=>exact g
 |_=>exact g
theorem flat_rep{F:Hp}{v w:V}{a b:D}(ra:Rep K F v a)(rb:Rep K F w b)(fa:DB a=true)(fb:DB b=true):eqV v w=Qy a b:=by cases ra<;>cases rb<;>first|exact absurd (show false=true from fa) QC|exact absurd (show false=true from fb) QC | (simp only[eqV,Qy])
theorem flat_v{F:Hp}{v:V}{a:D}(ra:Rep K F v a)(fa:DB a=true):flatV v=true:=by cases ra<;>first|rfl|exact absurd (show false=true from fa) QC
theorem flat_all{F:Hp}:∀{vs:List V}{ds:List D},Reps K F vs ds->ds.all DB=true->vs.all flatV=true
 |_,_,.nil,_=>rfl
 |_,_,.cons h t,f=>by rw[Q5,QU]at f ⊢;exact⟨flat_v h f.1,flat_all t f.2⟩
theorem flat_any{F:Hp}{v:V}{a:D}(ra:Rep K F v a)(fa:DB a=true):∀{vs:List V}{ds:List D},Reps K F vs ds->ds.all DB=true->inV v vs=ds.any fun y=>Qy y a
 |_,_,.nil,_=>rfl
 |_,_,.cons h t,f=>by rw[Q5,QU]at f;have e:=flat_any ra fa t f.2;unfold inV at e ⊢;rw[qq,qq,flat_rep h ra f.1 fa,e]
theorem in_ok{x y:D}{QB:Bool->Prop}(neg:Bool)(ra:Rep K H1 v x)(rb:Rep K H1 w y)(h:inD x y fun k=>QB (if neg then !k else k))(k:∀c,QB c->R (.bl c) H1):rInU K neg v w H1 R:=by
 unfold inD at h;split at h;cases ra;cases rb;exact k _ h;rename_i ds;have rb':=rb;cases rb with
 |lst hp rp =>
  rcases h.1 with⟨fa,fs⟩| ⟨o1,o2⟩
  refine .inl ⟨_,_,rfl,.inl hp,flat_v ra fa,flat_all rp fs,?_⟩;rw[flat_any ra fa rp fs];exact k _ h.2;exact .inr ⟨_,ds,ra,.inl rb',o1,o2,k _ h.2⟩
 rename_i ds;have rb':=rb;cases rb with
 |tup hp rp =>
  rcases h.1 with⟨fa,fs⟩| ⟨o1,o2⟩
  refine .inl ⟨_,_,rfl,.inr hp,flat_v ra fa,flat_all rp fs,?_⟩;rw[flat_any ra fa rp fs];exact k _ h.2;exact .inr ⟨_,ds,ra,.inr rb',o1,o2,k _ h.2⟩
 exact h.elim
theorem ord_ok{x y:D}{QB:Bool->Prop}{g:Int->Int->Bool}(ra:Rep K H1 v x)(rb:Rep K H1 w y)(h:ordD g x y QB)(k:∀c,QB c->R (.bl c) H1):rOrd g v w H1 R:=by unfold ordD at h;split at h;cases ra;cases rb;exact k _ h;exact h.elim
theorem Rep.non_iff{x:D}(h:Rep K H1 v x):decide (v=.non)=isNonD x:=by cases h<;>rfl
theorem cmp_ok{x y:D}{op:CmpOp}{QB:Bool->Prop}(ra:Rep K H1 v x)(rb:Rep K H1 w y)(h:cmpD op x y QB)(k:∀c,QB c->R (.bl c) H1):cmpR K op v w H1 R:=by
 cases op with
 |Eq=>exact eq_ok false ra rb h k
 |NotEq=>exact eq_ok true ra rb h k
 |Lt=>exact ord_ok ra rb h k
 |LtE=>exact ord_ok ra rb h k
 |Gt=>exact ord_ok ra rb h k
 |GtE=>exact ord_ok ra rb h k
 |In=>exact in_ok false ra rb h k
 |NotIn=>exact in_ok true ra rb h k
 |Is=>have h':isND x y QB:=h;unfold isND at h';split at h';cases rb;have e:=ra.non_iff;show R (.bl (decide (v=.non))) H1;rw[e];exact k _ h';exact h'.elim
 |IsNot=>have h':isND x y fun k=>QB (!k):=h;unfold isND at h';split at h';cases rb;have e:=ra.non_iff;show R (.bl (!decide (v=.non))) H1;rw[e];exact k _ h';exact h'.elim
theorem isEmpty_reps{xs:List V}{ds:List D}(r:Reps K F xs ds):(!ds.isEmpty)=!xs.isEmpty:=by cases r<;>rfl
theorem tru_okD{x:D}{QB:Bool->Prop}{RB:Bool->Hp->Prop}(ra:Rep K H1 v x)(h:truD x QB)(k:∀c,QB c->RB c H1):truQ K v H1 RB:=by
 unfold truD at h;split at h;cases ra;exact k _ h;cases ra;exact k _ h;cases ra;exact k _ h;cases ra;exact⟨h.1,k _ h.2⟩;cases ra with
 |lst hp rp=>rw[isEmpty_reps rp]at h;exact⟨_,.inl ⟨_,hp,rfl⟩,k _ h⟩
 cases ra with
 |tup hp rp=>rw[isEmpty_reps rp]at h;exact⟨_,.inr (.inl ⟨_,hp,rfl⟩),k _ h⟩
 exact h.elim
theorem as_okD{x:D}{QB:Bool->Prop}{RB:Bool->Hp->Prop}(ra:Rep K H1 v x)(h:asD x QB)(k:∀c,QB c->RB c H1):asB v H1 RB:=by unfold asD at h;split at h;cases ra;exact k _ h;exact h.elim
theorem idx_ok(s:Ste F H S ρ F1 H1 S1 ρ1)(I:Rl K F1 H1 S1 ρ1 σ)(ra:Tr K F1 H1 sa v a Za)(za:∀b,Za b->∃(i:Nat) (s:Sl),i∈ws/\ρ1[i]?=some (some s)/\S1 i b)(rb:Tr K F1 H1 sb w b Zb)(h:idxT a.vw b.vw fun z=>Q z false ρ1)(k:eB K ws F H S ρ σ Q R):rIxU K v w H1 R:=by
 rcases h with⟨z,i,c,ea,eb,h1,h2,q⟩| ⟨ts,i,d,ea,eb,h1,q⟩| ⟨ts,i,d,ea,eb,h1,q⟩
 obtain rfl:=ra.str ea;obtain rfl:=rb.int eb;exact⟨h1,c,h2,k.d s I (.str _) q⟩;obtain⟨p,xs,Z',rfl,hp,rp,hz⟩:=ra.ls I.fh ea;obtain rfl:=rb.int eb;obtain⟨x,Z,h2,r,hz2⟩:=rp.at h1;exact⟨xs,x,.inl hp,h2,k _ F1 H1 S1 ρ1 _ false Z s I ⟨r,fun z=>(by cases z),fun _ b hb=>za b (hz b (hz2 b hb)),fun z=>(by cases z)⟩ q⟩;obtain⟨p,xs,Z',rfl,hp,rp,hz⟩:=ra.tp I.fh ea;obtain rfl:=rb.int eb;obtain⟨x,Z,h2,r,hz2⟩:=rp.at h1;exact⟨xs,x,.inr hp,h2,k _ F1 H1 S1 ρ1 _ false Z s I ⟨r,fun z=>(by cases z),fun _ b hb=>za b (hz b (hz2 b hb)),fun z=>(by cases z)⟩ q⟩
theorem Reps.cut{xs:List V}{ds:List D}(r:Reps K F xs ds)(lo hi:Option Int):Reps K F (cutV xs lo hi) (cutD ds lo hi):=by unfold cutV cutD;rw[r.length];exact(r.drop _).take _
theorem slc_ok{lo hi:Option Int}(s:Ste F H S ρ F1 H1 S1 ρ1)(I:Rl K F1 H1 S1 ρ1 σ)(ra:Tr K F1 H1 sa v a Za)(h:slcT a.vw lo hi fun z n=>Q z n ρ1)(k:eB K ws F H S ρ σ Q R):rSl K v lo hi H1 R:=by
 rcases h with⟨z,ea,h⟩| ⟨ts,ds,ea,e,q⟩| ⟨ts,ds,ea,e,n,q⟩
 obtain rfl:=ra.str ea;exact⟨h.1,k.d s I (.str _) h.2⟩;obtain⟨p,xs,_,rfl,hp,rp,_⟩:=ra.ls I.fh ea;exact .inl ⟨p,xs,rfl,hp,fun l hl=>k.listD s I hl ((rp.un e).1.cut _ _) q⟩;obtain⟨p,xs,_,rfl,hp,rp,_⟩:=ra.tp I.fh ea;refine .inr (.inl ⟨p,xs,rfl,hp,by rw[(rp.un e).1.length];exact n,fun l hl=>k.tupD s I hl ((rp.un e).1.cut _ _) q⟩)
theorem part_ok{x:D}{P:Option Int->Prop}{RP:Option Int->Hp->Prop}(ra:Rep K H1 v x)(h:partD x P)(k:∀o,P o->RP o H1):partQ v H1 RP:=by unfold partD at h;split at h;cases ra;exact k _ h;exact h.elim
noncomputable def tyD:D->Value
 | .none=>.type "NoneType"
 | .bool _=>.type "bool"
 | .int _=>.type "int"
 | .str _=>.type "str"
 | .list _=>.type "list"
 | .tuple _=>.type "tuple"
 | .dict _=>.type "dict"
theorem Rep.ty{x:D}(ra:Rep K H1 v x):TyOf K H1 v (tyD x)∨TyQ K H1 v (tyD x):=by
 cases ra with
 |non=>exact .inl .non
 |bl b=>exact .inl (.bl _)
 |int b=>exact .inl (.int _)
 |str b=>exact .inl (.str _)
 |lst hp rp=>exact .inr (.inl ⟨_,_,rfl,hp,rfl⟩)
 |tup hp rp=>exact .inr (.inr ⟨_,_,rfl,hp,rfl⟩)
theorem kit_ok{x:D}{n:String}{k:Bool}(h:isD n x=some k)(ht:isTyN n=true):QAx K (tyD x) (.type n)=some k:=by simp only[isTyN,qi,beq_iff_eq]at ht;rcases ht with((((rfl|rfl)|rfl)|rfl)|rfl)|rfl<;>cases x<;>simp[isD]at h<;>subst h<;>rfl
theorem isi_ok{x:D}{n:String}{k:Bool}(ra:Rep K H1 v x)(h:isD n x=some k)(ht:isTyN n=true)(q:R (.bl k) H1):rIsI K [v,.ty n] H1 R :=
 ⟨tyD x,.type n,k,ra.ty,rfl,kit_ok h ht,q⟩
inductive Tn(K:QA)(F H:Hp)(Y:KA):List V->List T->Prop where
 |nil:Tn K F H Y [] []
 |cons {v:V}{t:T}{vs:List V}{ts:List T}{Z:KA}:Tr K F H false v t Z->(∀b,Z b->Y b)->Tn K F H Y vs ts->Tn K F H Y (v::vs) (t::ts)
theorem vw_map(ts:List T):∀{xs:List (T×Bool)},fzOf xs=ts->iB xs=ts.map T.vw
 |[],h=>by subst h;rfl
 |p::r,h=>by subst h;simp only[iB,fzOf,QS,vw_map _ rfl]
theorem Tn.one{Y:KA}{vs:List V}{ts:List T}{x:Vw}(h:Tn K F H Y vs ts)(e:ts.map T.vw=[x]):∃v t Z,vs=[v]/\ts=[t]/\t.vw=x/\Tr K F H false v t Z/\∀b,Z b->Y b:=by
 cases h with
 |nil=>cases e
 |cons r z t =>
  simp only[QS,qj]at e;cases t with
  |nil=>exact⟨_,_,_,rfl,rfl,e.1,r,z⟩
  |cons _ _ _=>simp at e
theorem Tn.two{Y:KA}{vs:List V}{ts:List T}{x y:Vw}(h:Tn K F H Y vs ts)(e:ts.map T.vw=[x,y]):∃v w t u Z Z',vs=[v,w]/\ts=[t,u]/\t.vw=x/\u.vw=y/\Tr K F H false v t Z/\Tr K F H false w u Z'/\(∀b,Z b->Y b)/\(∀b,Z' b->Y b):=by
 cases h with
 |nil=>cases e
 |cons r z t=>simp only[QS,qj]at e;obtain⟨v,u,Z',rfl,rfl,h1,h2,h3⟩:=t.one e.2;exact⟨_,_,_,_,_,_,rfl,rfl,e.1,h1,r,h2,z,h3⟩
theorem Tn.nil'{Y:KA}{vs:List V}{ts:List T}(h:Tn K F H Y vs ts)(e:ts.map T.vw=[]):vs=[]:=by
 cases h with
 |nil=>rfl
 |cons _ _ _=>cases e
theorem rp_strs:∀{xs:List V}{ys:List Str},Reps K F xs (ys.map PyData.str)->xs=ys.map V.str
 |_,[],.nil=>rfl
 |_,y::ys,.cons h t=>by cases h;rw[QS,rp_strs t]
theorem bi_okT{bi:Bi}{Y:KA}{vs:List V}{ts:List T}(s:Ste F H S ρ F1 H1 S1 ρ1)(I:Rl K F1 H1 S1 ρ1 σ)(ra:Tn K F1 H1 Y vs ts)(h:biT bi (ts.map T.vw) fun z n=>Q z n ρ1)(k:eB K ws F H S ρ σ Q R):biR K bi vs H1 R:=by
 cases bi with
 |len =>
  rcases h with⟨z,e,h⟩| ⟨us,e,h⟩| ⟨us,e,h⟩
  obtain⟨v,t,Z,rfl,rfl,e,r,_⟩:=ra.one e;obtain rfl:=r.str e;exact⟨h.1,k.d s I (.int _) h.2⟩;obtain⟨v,t,Z,rfl,rfl,e,r,_⟩:=ra.one e;obtain⟨p,xs,_,rfl,hp,rp,_⟩:=r.ls I.fh e;exact .inl ⟨xs,hp,by rw[rp.length];exact k.d s I (.int _) h⟩;obtain⟨v,t,Z,rfl,rfl,e,r,_⟩:=ra.one e;obtain⟨p,xs,_,rfl,hp,rp,_⟩:=r.tp I.fh e;exact .inr ⟨xs,hp,by rw[rp.length];exact k.d s I (.int _) h⟩
 |all=>obtain⟨us,bs,e,hb,q⟩:=h;obtain⟨v,t,Z,rfl,rfl,e,r,_⟩:=ra.one e;obtain⟨p,xs,_,rfl,hp,rp,_⟩:=r.ls I.fh e;obtain rfl:=(rp.un hb).1.bools;exact⟨bs,hp,k.d s I (.bl _) q⟩
 |int =>
  rcases h with⟨i,e,h⟩| ⟨b,e,h⟩| ⟨z,n,e,h1,h2,q⟩
  obtain⟨v,t,Z,rfl,rfl,e,r,_⟩:=ra.one e;obtain rfl:=r.int e;exact k.d s I (.int _) h;obtain⟨v,t,Z,rfl,rfl,e,r,_⟩:=ra.one e;obtain rfl:=r.bool e;exact k.d s I (.int _) h;obtain⟨v,t,Z,rfl,rfl,e,r,_⟩:=ra.one e;obtain rfl:=r.str e;exact⟨h1,n,h2,k.d s I (.int _) q⟩
 |str =>
  rcases h with⟨i,e,h⟩| ⟨z,e,h⟩
  obtain⟨v,t,Z,rfl,rfl,e,r,_⟩:=ra.one e;obtain rfl:=r.int e;exact⟨h.1,k.d s I (.str _) h.2⟩;obtain⟨v,t,Z,rfl,rfl,e,r,_⟩:=ra.one e;obtain rfl:=r.str e;exact k.d s I (.str _) h
 |any=>obtain⟨us,bs,e,hb,q⟩:=h;obtain⟨v,t,Z,rfl,rfl,e,r,_⟩:=ra.one e;obtain⟨p,xs,_,rfl,hp,rp,_⟩:=r.ls I.fh e;obtain rfl:=(rp.un hb).1.bools;exact⟨bs,hp,k.d s I (.bl _) q⟩
 |list =>
  rcases h with⟨us,ds,e,hb,q⟩| ⟨us,ds,e,hb,q⟩
  obtain⟨v,t,Z,rfl,rfl,e,r,_⟩:=ra.one e;obtain⟨p,xs,_,rfl,hp,rp,_⟩:=r.ls I.fh e;exact⟨_,xs,rfl,.inl hp,fun l hl=>k.listD s I hl (rp.un hb).1 q⟩;obtain⟨v,t,Z,rfl,rfl,e,r,_⟩:=ra.one e;obtain⟨p,xs,_,rfl,hp,rp,_⟩:=r.tp I.fh e;exact⟨_,xs,rfl,.inr hp,fun l hl=>k.listD s I hl (rp.un hb).1 q⟩
 |tuple=>obtain⟨us,ds,e,hb,q⟩:=h;obtain⟨v,t,Z,rfl,rfl,e,r,_⟩:=ra.one e;obtain⟨p,xs,_,rfl,hp,rp,_⟩:=r.ls I.fh e;exact⟨_,xs,rfl,.inl ⟨hp,fun l hl=>k.tupD s I hl (rp.un hb).1 q⟩⟩
 |max=>obtain⟨i,j,e,h⟩:=h;obtain⟨v,w,t,u,Z,Z',rfl,rfl,e1,e2,r1,r2,_,_⟩:=ra.two e;obtain rfl:=r1.int e1;obtain rfl:=r2.int e2;exact k.d s I (.int _) h
theorem mt_okT{m:Mt}{Y:KA}{vs:List V}{ts:List T}(s:Ste F H S ρ F1 H1 S1 ρ1)(I:Rl K F1 H1 S1 ρ1 σ)(rv:Tr K F1 H1 sa v a Za)(ra:Tn K F1 H1 Y vs ts)(h:mtT m a.vw (ts.map T.vw) fun z n=>Q z n ρ1)(k:eB K ws F H S ρ σ Q R):mtR K m v vs H1 R:=by
 cases m with
 |split=>obtain⟨z,y,ea,e,h⟩:=h;obtain⟨w,t,Z,rfl,rfl,e,r,_⟩:=ra.one e;obtain rfl:=rv.str ea;obtain rfl:=r.str e;exact⟨h.1,h.2.1,h.2.2.1,fun p hp=>k.listD s I hp (Reps.map_str _) h.2.2.2⟩
 |rstrip=>obtain⟨z,ea,e,h⟩:=h;obtain rfl:=ra.nil' e;obtain rfl:=rv.str ea;exact⟨h.1,k.d s I (.str _) h.2⟩
 |join=>obtain⟨z,us,ys,ea,e,hb,hz,q⟩:=h;obtain⟨w,t,Z,rfl,rfl,e,r,_⟩:=ra.one e;obtain rfl:=rv.str ea;obtain⟨p,xs,_,rfl,hp,rp,_⟩:=r.ls I.fh e;obtain rfl:=rp_strs (rp.un hb).1;exact⟨z,p,ys,rfl,rfl,hp,hz,k.d s I (.str _) q⟩
 |_=>exact h.elim
theorem isS_i{x:Vw}(h:x.isS=true):∃z,x=.sc (.str z):=by
 cases x with
 |sc d=>cases d with
  |str z=>exact⟨z,rfl⟩
  |_=>exact(QC h).elim
 |_=>exact(QC h).elim
theorem mt_ty{m:Mt}(rv:Tr K F1 H1 sa v a Za)(h:mtTy m a.vw=true):tyV K m.ty v H1:=by
 have h:=jA h;obtain⟨z,ea⟩:=isS_i h.1;obtain rfl:=rv.str ea;cases m with
 |split=>rfl
 |rstrip=>rfl
 |join=>rfl
 |_=>exact(QC h.2).elim
end
inductive AV(K:QA)(F H:Hp):List Md->List V->List (T×Bool)->(Addr->Prop)->(Addr->Prop)->Prop where
 |nil {md:List Md}{W Y:KA}:(∀b,¬ W b)->AV K F H md [] [] W Y
 |chg {md:List Md}{v:V}{vs:List V}{x:T}{xs:List (T×Bool)}{W Y:KA}:(md.headD .nk).isMut=true->AV K F H md.tail vs xs W Y->AV K F H md (v::vs) ((x,true)::xs) W Y
 |new {md:List Md}{v:V}{vs:List V}{x:T}{xs:List (T×Bool)}{Z W W' Y:KA}:(md.headD .nk).isMut=false->Tr K F H true v x Z->AV K F H md.tail vs xs W' Y->(∀b,Z b->¬ W' b)->(∀b,W b↔Z b∨W' b) ->
   AV K F H md (v::vs) ((x,true)::xs) W Y
 |tmp {md:List Md}{v:V}{vs:List V}{x:T}{xs:List (T×Bool)}{Z W Y:KA}:(md.headD .nk).isMut=false->Tr K F H false v x Z->(∀b,Z b->Y b)->AV K F H md.tail vs xs W Y ->
   AV K F H md (v::vs) ((x,false)::xs) W Y
section
variable{K:QA}{F H F1 H1:Hp}{S S1:Ft}{ρ ρ1:yA}{σ:St}
theorem AV.sub{Y Y':KA}{md:List Md}{vs:List V}{xs:List (T×Bool)}{W:KA}(h:AV K F H md vs xs W Y)(k:∀b,Y b->Y' b):AV K F H md vs xs W Y':=by
 induction h with
 |nil h=>exact .nil h
 |chg h t ih=>exact .chg h (ih k)
 |new h r t n q ih=>exact .new h r (ih k) n q
 |tmp h r z t ih=>exact .tmp h r (fun b hb=>k b (z b hb)) (ih k)
theorem AV.dom{Y:KA}{md:List Md}{vs:List V}{xs:List (T×Bool)}{W:KA}(h:AV K F H md vs xs W Y):∀b,W b->H b≠none/\F b=none:=by
 induction h with
 |nil h=>exact fun b hb=>absurd hb (h b)
 |chg h t ih=>exact ih
 |new h r t n q ih=>exact fun b hb=>((q b).mp hb).elim (r.dom b) (ih b)
 |tmp h r z t ih=>exact ih
theorem AV.length{Y:KA}{md:List Md}{vs:List V}{xs:List (T×Bool)}{W:KA}(h:AV K F H md vs xs W Y):vs.length=xs.length:=by
 induction h with
 |nil h=>rfl
 |chg h t ih=>simp[ih]
 |new h r t n q ih=>simp[ih]
 |tmp h r z t ih=>simp[ih]
theorem AV.trs{Y:KA}{md:List Md}{vs:List V}{xs:List (T×Bool)}{W:KA}(h:AV K F H md vs xs W Y):(∀(i:Nat),(md.getD i .nk).isMut=false)->escB xs=true->Trs K F H true vs (tsOf xs) W:=by
 induction h with
 |nil h=>exact fun _ _=>.nil h
 |@chg md _ _ _ _ _ _ h t ih =>
  intro m;have:=m 0;cases md with
  |nil=>cases h
  |cons a r=>exact absurd h (by simpa using this)
 |@new md v vs x xs Z W W' Y h r t n q ih =>
  intro m e;simp only[escB,QU]at e;exact .cons r (ih (fun i=>by cases md with
   |nil=>exact m i
   |cons a md=>exact m (i+1)) e.2) n q
 |@tmp md v vs x xs Z W Y h r z t ih =>
  intro m e;simp only[escB,QU]at e;refine .cons (S1:=fun _=>False) ?_ (ih (fun i=>by cases md with
   |nil=>exact m i
   |cons a md=>exact m (i+1)) e.2) (fun _ z=>z.elim) fun b=>by simp
  cases x with
  |d x=>cases r with|d r n=>exact .d r fun _ z=>z
  |_=>exact absurd e.1 (by simp[esc,T.isD])
theorem noMd(i:Nat):((([]:List Md).getD i .nk).isMut)=false:=rfl
theorem AV.tn{Y:KA}{md:List Md}{vs:List V}{xs:List (T×Bool)}{W:KA}(h:AV K F H md vs xs W Y)(e:Same F F1)(k:∀b,W b->F1 b=H b)(k2:∀b,Y b->F b=none->F1 b=none)(hm:md=[]):Tn K F1 H Y vs (fzOf xs):=by
 induction h with
 |nil h=>exact .nil
 |chg h t ih=>subst hm;cases h
 |@new md v vs x xs Z W W' Y h r t n q ih=>subst hm;refine .cons (Z:=fun _=>False) ?_ (fun b z=>z.elim) (ih (fun b hb=>k b ((q b).mpr (.inr hb))) k2 rfl);exact .d (r.kept e fun b u hb eu=>by rw[k b ((q b).mpr (.inl hb))];exact eu) fun _ z=>z
 |@tmp md v vs x xs Z W Y h r z t ih=>subst hm;exact .cons (r.mono e fun b hb=>⟨rfl,k2 b (z b hb) (r.dom b hb).2⟩) z (ih k k2 rfl)
structure AR(K:QA)(ws:List Nat)(md:List Md)(H0:Hp)(S0:Ft)(ρ0:yA)(F H:Hp)(S:Ft)(ρ:yA)(vs:List V)(xs:List (T×Bool))(W Y:KA):Prop where
 av:AV K F H md vs xs W Y
 fr:∀b,W b->H0 b=none∨U ρ0 S0 b
 tm:∀b,Y b->∃(i:Nat) (s:Sl),i∈ws/\ρ[i]?=some (some s)/\S i b
 nw:∀(i:Nat) s,ρ[i]?=some (some s)->∀b,W b->¬ S i b
theorem AR.held{ws:List Nat}{md:List Md}{H0:Hp}{S0:Ft}{ρ0:yA}{vs:List V}{xs:List (T×Bool)}{W Y:KA}(h:AR K ws md H0 S0 ρ0 F H S ρ vs xs W Y):Held F H S ρ W:=⟨h.av.dom,h.nw⟩
theorem AR.from{ws:List Nat}{md:List Md}{F2 H2:Hp}{S2:Ft}{ρ2:yA}{vs:List V}{xs:List (T×Bool)}{W Y:KA}(s:Stp F H S ρ F1 H1 S1 ρ1)(h:AR K ws md H1 S1 ρ1 F2 H2 S2 ρ2 vs xs W Y):AR K ws md H S ρ F2 H2 S2 ρ2 vs xs W Y :=
 ⟨h.av,fun b hb=>by rcases h.fr b hb with q|q;exact .inl (s.dm b q);exact(s.uu b q).symm,h.tm,h.nw⟩
theorem AR.vars{ws us:List Nat}{md:List Md}{H0:Hp}{S0:Ft}{ρ0:yA}{vs:List V}{xs:List (T×Bool)}{W Y:KA}(h:AR K ws md H0 S0 ρ0 F H S ρ vs xs W Y)(k:∀i∈ws,i∈us):AR K us md H0 S0 ρ0 F H S ρ vs xs W Y :=
 ⟨h.av,h.fr,fun b hb=>let⟨i,s,h1,h2⟩:=h.tm b hb;⟨i,s,k i h1,h2⟩,h.nw⟩
theorem AR.frz{ws:List Nat}{vs:List V}{xs:List (T×Bool)}{W Y:KA}(s:Ste F H S ρ F1 H1 S1 ρ1)(I:Rl K F1 H1 S1 ρ1 σ)(h:AR K ws [] H S ρ F1 H1 S1 ρ1 vs xs W Y) :
  ∃F2,Ste F H S ρ F2 H1 S1 ρ1/\Rl K F2 H1 S1 ρ1 σ/\Tn K F2 H1 Y vs (fzOf xs) /\
   ∀st v' t' Z',Tr K F1 H1 st v' t' Z'->(∀b,Z' b->∃(i:Nat) (s:Sl),ρ1[i]?=some (some s)/\S1 i b)->Tr K F2 H1 st v' t' Z':=by
 have hw:=h.held;have ff:=frzH_ff (H:=H1) fun b hb=>(hw.dom b hb).2;refine⟨frzH F1 H1 W,s.frz (fun b hb=>(hw.dom b hb).2) h.fr,I.frz hw,h.av.tn ff (fun b hb=>frzH_in hb) (fun b hy hf=>?_) rfl,fun st v' t' Z' r hz=>r.mono ff fun b hb=>⟨rfl,?_⟩⟩;obtain⟨i,sl,_,h2,h3⟩:=h.tm b hy;rw[PC fun z=>h.nw i sl h2 b z h3];exact hf;obtain⟨i,sl,h1,h2⟩:=hz b hb;rw[PC fun z=>hw.nw i sl h1 b z h2];exact(r.dom b hb).2
noncomputable def xB:List Md->List V->List V
 |_,[]=>[]
 |md,v::vs=>match md.headD .nk with
  | .chg=>v::xB md.tail vs
  |_=>xB md.tail vs
noncomputable abbrev KontA(K:QA)(p:PX)(md:List Md)(F H:Hp)(S:Ft)(ρ:yA)(σ:St)(Q:List (T×Bool)->yA->Prop)(R:List V->Hp->Prop):Prop :=
 ∀vs F' H' S' ρ' xs W Y,Ste F H S ρ F' H' S' ρ'->Rl K F' H' S' ρ' σ->AR K (vrs p) md H S ρ F' H' S' ρ' vs xs W Y->(xB md vs).map (fun v=>some (some v))=(cA md p).map (fun j=>σ[j]?)->Q xs ρ'->R vs H'
def XRel(K:QA)(F H:Hp)(x:XD)(dx:Option Addr):Prop:=∃a fs,dx=some a/\H a=some (.xd fs)/\Paired (fun(p:Str×V) (q:Str×D)=>p.1=q.1/\Rep K F p.2 q.2) fs x.2
def XOk(K:QA)(F H:Hp)(S:Ft)(ρ:yA)(E:XE)(EK:XK):Prop:=∀x dx F' H' S' ρ',Stp F H S ρ F' H' S' ρ'->Same F' H'->XRel K F' H' x dx->E x->EK x.1 dx H'
theorem XOk.from{E:XE}{EK:XK}(h:XOk K F H S ρ E EK)(s:Stp F H S ρ F1 H1 S1 ρ1):XOk K F1 H1 S1 ρ1 E EK:=fun x dx F2 H2 S2 ρ2 s2 f r q=>h x dx F2 H2 S2 ρ2 (s.trans s2) f r q
theorem XOk.never:XOk K F H S ρ (fun _=>False) (fun _ _ _=>False):=fun _ _ _ _ _ _ _ _ _ z=>z
inductive ArgsR(K:QA)(F H:Hp)(Y:KA):List Md->List V->List T->Prop where
 |nil {md:List Md}:ArgsR K F H Y md [] []
 |chg {md:List Md}{v:V}{vs:List V}{t:T}{ts:List T}:md.headD .nk=.chg->ArgsR K F H Y md.tail vs ts->ArgsR K F H Y md (v::vs) (t::ts)
 |rd {md:List Md}{v:V}{vs:List V}{t:T}{ts:List T}{Z:KA}:md.headD .nk≠.chg->Tr K F H false v t Z->(∀b,Z b->Y b)->ArgsR K F H Y md.tail vs ts->ArgsR K F H Y md (v::vs) (t::ts)
structure Frm(M:KA)(F H F' H':Hp):Prop where
 ff:Same F F'
 fh:Same F' H'
 hh:∀b u,H b=some u->¬ M b->H' b=some u
 dm:∀b,H' b=none->H b=none
 fn:∀b,F b=none->F' b≠none->M b∨H b=none
noncomputable def lift(K:QA)(P:PSp):Sp:=fun vs H Q E=>∃(F:Hp) (ts:List T) (M Y:KA),Same F H/\ArgsR K F H Y P.md vs ts/\Trs K F H true (xB P.md vs) (CB P.md ts) M/\(∀b,Y b->¬ M b) /\
 P.run ts (fun r os=>∀v F' H' Z M',Frm M F H F' H'->Tr K F' H' true v r Z->Trs K F' H' true (xB P.md vs) os M'->(∀b,Z b->¬ M' b)->(∀b,Z b∨M' b->M b∨H b=none)->Q v H')
  (fun x=>∀dx F' H',Frm M F H F' H'->XRel K F' H' x dx->E x.1 dx H')
structure GOk(K:QA)(Γ:Ev)(Ψ:PEv):Prop where
 sp:∀f vs H Q E,lift K (Ψ.sp f) vs H Q E->Γ.sp f vs H Q E
 va:∀x d,Ψ.va x=some d->∀F,Rep K F (Γ.va x) d
 dc:∀x kds,Ψ.dc x=some kds->∃kvs,Γ.dc x=some kvs/\Paired (fun(p:Str×V) (q:Str×D)=>p.1=q.1/\∀F,Rep K F p.2 q.2) kvs kds
structure PSnd(K:QA)(Γ:Ev)(Ψ:PEv)(p:PX):Prop where
 e:∀{E:XE}{EK:XK}{F H:Hp}{S:Ft}{ρ:yA}{σ:St}{Q:TK}{R:VK},Rl K F H S ρ σ->XOk K F H S ρ E EK->(pe Ψ p E).e ρ Q->eB K (vrs p) F H S ρ σ Q R->(wp K Γ p EK).e σ H R
 t:∀{E:XE}{EK:XK}{F H:Hp}{S:Ft}{ρ:yA}{σ:St}{Q:Bool->yA->Prop}{R:Bool->Hp->Prop},Rl K F H S ρ σ->XOk K F H S ρ E EK->(pe Ψ p E).t ρ Q->KontB K F H S ρ σ Q R->(wp K Γ p EK).t σ H R
 a:∀{E:XE}{EK:XK}{F H:Hp}{S:Ft}{ρ:yA}{σ:St}{md:List Md}{Q:List (T×Bool)->yA->Prop}{R:List V->Hp->Prop},Rl K F H S ρ σ->XOk K F H S ρ E EK->(∀j∈cA md p,∃v,σ[j]?=some (some v))->(pe Ψ p E).a md ρ Q->KontA K p md F H S ρ σ Q R->(wp K Γ p EK).a σ H R
end
section
variable{K:QA}{Γ:Ev}{Ψ:PEv}{E:XE}{EK:XK}{F H F1 H1:Hp}{S S1:Ft}{ρ ρ1:yA}{σ:St}
theorem sq_e{b:PX}(ib:PSnd K Γ Ψ b)(I:Rl K F H S ρ σ)(X:XOk K F H S ρ E EK){x:T}{P:T×Bool->yA->Prop}{RR:VK}(h:sq x ρ (cu (pe Ψ b E).e) P)
  (kk:∀w F' H' S' ρ' y m Z,Ste F H S ρ F' H' S' ρ'->Rl K F' H' S' ρ' σ->(∀st v Zx,Tr K F H st v x Zx->Tr K F' H' st v x Zx)->(x.isD=false->ρ'=ρ/\S'=S)->VR K (vrs b) H S ρ F' H' S' ρ' w y m Z->P (y,m) ρ'->RR w H') :
  (wp K Γ b EK).e σ H RR:=by
 unfold sq at h;cases hd:x.isD with
 |true =>
  rw[hd,if_pos rfl]at h;refine ib.e I X h fun w F' H' S' ρ' y m Z s I' r q=>kk w F' H' S' ρ' y m Z s I' (fun st v Zx rx=>?_) (fun z=>(by rw[hd]at z;cases z)) r q;cases x with
  |d x=>cases rx with|d r n=>exact .d (r.mono s.ff) n
  |_=>cases hd
 |false =>
  rw[hd,if_neg (by simp)]at h;have X':XOk K F H S (lockA ρ) E EK:=fun x dx F2 H2 S2 ρ2 s2 f r q=>X x dx F2 H2 S ρ s2.unlockA f r q;refine ib.e I.lockA X' h fun w F' H' S' ρ' y m Z s I' r q=>?_;have kp:∀st v t Zx,Tr K F H st v t Zx->Tr K F' H' st v t Zx:=fun st v t Zx rx=>s.keep rx fun b _=>lockA_U b;refine kk w F' H' S ρ y m Z ⟨s.unlockA,fun j t h=>⟨t,h⟩⟩ (I.unlockA s.toStp I'.fh) (fun st v Zx rx=>kp st v _ Zx rx) (fun _=>⟨rfl,rfl⟩) ⟨r.tr,fun e b hb=>?_,fun e b hb=>?_,fun e i sl hi b hb z=>?_⟩ q;exact .inl ((r.fr e b hb).elim id fun z=>absurd z (lockA_U b));obtain⟨i,sl,h1,h2,h3⟩:=r.tm e b hb;cases sl with
  |own t=>obtain⟨t0,h0⟩:=s.ow i t h2;obtain⟨_,_,e0⟩:=MB h0;cases e0
  |nj t =>
   cases hd:t.isD with
   |true=>exact absurd h3 (I'.isD h2 hd)
   |false=>obtain⟨g1,g2⟩:=s.bo i t h2 hd;obtain⟨s0,g3,_⟩:=MB g1;rw[g2]at h3;exact⟨i,s0,h1,g3,h3⟩
  rcases r.fr e b hb with q|q
  ·exact(I.dom hi z).1 q
  exact absurd q (lockA_U b)
theorem sq_a{b:PX}{md:List Md}(ib:PSnd K Γ Ψ b)(I:Rl K F H S ρ σ)(X:XOk K F H S ρ E EK)(hm:∀j∈cA md b,∃v,σ[j]?=some (some v)){x:T}{P:List (T×Bool)->yA->Prop}{RR:List V->Hp->Prop}(h:sq x ρ ((pe Ψ b E).a md) P)
  (kk:∀ws F' H' S' ρ' ys W Y,Ste F H S ρ F' H' S' ρ'->Rl K F' H' S' ρ' σ->(∀st v Zx,Tr K F H st v x Zx->Tr K F' H' st v x Zx)->(x.isD=false->ρ'=ρ/\S'=S)->AR K (vrs b) md H S ρ F' H' S' ρ' ws ys W Y->(xB md ws).map (fun v=>some (some v))=(cA md b).map (fun j=>σ[j]?)->P ys ρ'->RR ws H') :
  (wp K Γ b EK).a σ H RR:=by
 unfold sq at h;cases hd:x.isD with
 |true =>
  rw[hd,if_pos rfl]at h;refine ib.a I X hm h fun w F' H' S' ρ' y W Y s I' r mv q=>kk w F' H' S' ρ' y W Y s I' (fun st v Zx rx=>?_) (fun z=>(by rw[hd]at z;cases z)) r mv q;cases x with
  |d x=>cases rx with|d r n=>exact .d (r.mono s.ff) n
  |_=>cases hd
 |false =>
  rw[hd,if_neg (by simp)]at h;have X':XOk K F H S (lockA ρ) E EK:=fun x dx F2 H2 S2 ρ2 s2 f r q=>X x dx F2 H2 S ρ s2.unlockA f r q;refine ib.a I.lockA X' hm h fun w F' H' S' ρ' y W Y s I' r mv q=>?_;have kp:∀st v t Zx,Tr K F H st v t Zx->Tr K F' H' st v t Zx:=fun st v t Zx rx=>s.keep rx fun b _=>lockA_U b;refine kk w F' H' S ρ y W Y ⟨s.unlockA,fun j t h=>⟨t,h⟩⟩ (I.unlockA s.toStp I'.fh) (fun st v Zx rx=>kp st v _ Zx rx) (fun _=>⟨rfl,rfl⟩) ⟨r.av,fun b hb=>?_,fun b hb=>?_,fun i sl hi b hb z=>?_⟩ mv q;exact .inl ((r.fr b hb).elim id fun z=>absurd z (lockA_U b));obtain⟨i,sl,h1,h2,h3⟩:=r.tm b hb;cases sl with
  |own t=>obtain⟨t0,h0⟩:=s.ow i t h2;obtain⟨_,_,e0⟩:=MB h0;cases e0
  |nj t =>
   cases hd:t.isD with
   |true=>exact absurd h3 (I'.isD h2 hd)
   |false=>obtain⟨g1,g2⟩:=s.bo i t h2 hd;obtain⟨s0,g3,_⟩:=MB g1;rw[g2]at h3;exact⟨i,s0,h1,g3,h3⟩
  rcases r.fr b hb with q|q
  ·exact(I.dom hi z).1 q
  exact absurd q (lockA_U b)
theorem one_f{a:PX}(ia:PSnd K Γ Ψ a)(I:Rl K F H S ρ σ)(X:XOk K F H S ρ E EK){P:TK}{RR:VK}(h:(pe Ψ a E).e ρ P)
  (kk:∀v F' H' S' ρ' x n Z,Ste F H S ρ F' H' S' ρ'->Rl K F' H' S' ρ' σ->XOk K F' H' S' ρ' E EK->Tr K F' H' false v (vA x n) Z->(esc x n=true->Rep K F' v x.er)->(∀b,Z b->∃(i:Nat) (s:Sl),i∈vrs a/\ρ'[i]?=some (some s)/\S' i b)->P x n ρ'->RR v H') :
  (wp K Γ a EK).e σ H RR:=by
 refine ia.e I X h fun v F' H' S' ρ' x n Z s I' r q=>?_;obtain⟨F2,Z2,s2,I2,r2,e2,z2,_⟩:=r.frz s I';exact kk v F2 H' S' ρ' x n Z2 s2 I2 (X.from s2.toStp) r2 e2 z2 q
theorem two_f{a b:PX}(ia:PSnd K Γ Ψ a)(ib:PSnd K Γ Ψ b)(I:Rl K F H S ρ σ)(X:XOk K F H S ρ E EK){P:T->Bool->T->Bool->yA->Prop}{RR:V->V->Hp->Prop}
  (h:(pe Ψ a E).e ρ fun x n ρ1=>sq (vA x n) ρ1 (cu (pe Ψ b E).e) fun y ρ2=>P x n y.1 y.2 ρ2)
  (kk:∀v w F' H' S' ρ' x n y m Za Zb,Ste F H S ρ F' H' S' ρ'->Rl K F' H' S' ρ' σ->XOk K F' H' S' ρ' E EK->Tr K F' H' false v (vA x n) Za->(∀b,Za b->∃(i:Nat) (s:Sl),i∈vrs a/\ρ'[i]?=some (some s)/\S' i b)->Tr K F' H' false w (vA y m) Zb ->
   P x n y m ρ'->RR v w H'):(wp K Γ a EK).e σ H fun v H1=>(wp K Γ b EK).e σ H1 fun w H2=>RR v w H2:=by
 refine one_f ia I X h fun v F1 H1 S1 ρ1 x n Za s1 I1 X1 r1 _ z1 q1=>?_;refine sq_e ib I1 X1 q1 fun w F2 H2 S2 ρ2 y m Z s2 I2 kp hs r2 q2=>?_;obtain⟨F3,Z3,s3,I3,r3,_,_,k3⟩:=r2.frz s2 I2;have za:∀b,Za b->∃(i:Nat) (s:Sl),i∈vrs a/\ρ2[i]?=some (some s)/\S2 i b:=by
  cases hd:(vA x n).isD with
  |true =>
   intro b hb;exfalso;generalize vA x n=t at r1 hd;cases r1 with
   |d r n=>exact n b hb
   |_=>cases hd
  |false=>obtain⟨e1,e2⟩:=hs hd;rw[e1,e2];exact z1
 have s13:=s1.trans s3;exact kk v w F3 H2 S2 ρ2 x n y m Za Z3 s13 I3 (X.from s13.toStp) (k3 _ _ _ _ (kp _ _ _ r1) fun b hb=>let⟨i,s,_,h2⟩:=za b hb;⟨i,s,h2⟩) za r3 q2
theorem args_f{as:PX}(ia:PSnd K Γ Ψ as)(I:Rl K F H S ρ σ)(X:XOk K F H S ρ E EK){P:List (T×Bool)->yA->Prop}{RR:List V->Hp->Prop}(h:(pe Ψ as E).a [] ρ P)
  (kk:∀vs F' H' S' ρ' xs Y,Ste F H S ρ F' H' S' ρ'->Rl K F' H' S' ρ' σ->XOk K F' H' S' ρ' E EK->Tn K F' H' Y vs (fzOf xs)->(∀b,Y b->∃(i:Nat) (s:Sl),i∈vrs as/\ρ'[i]?=some (some s)/\S' i b)->P xs ρ'->RR vs H'):(wp K Γ as EK).a σ H RR:=by
 refine ia.a (md:=[]) I X (fun j hj=>by cases as<;>cases hj) h fun vs F' H' S' ρ' xs W Y s I' r _ q=>?_;obtain⟨F2,s2,I2,t,_⟩:=r.frz s I';exact kk vs F2 H' S' ρ' xs Y s2 I2 (X.from s2.toStp) t r.tm q
theorem two_a{a as:PX}(ia:PSnd K Γ Ψ a)(ib:PSnd K Γ Ψ as)(I:Rl K F H S ρ σ)(X:XOk K F H S ρ E EK){P1:T->Bool->Prop}{P:T->Bool->List (T×Bool)->yA->Prop}{R1:V->Hp->Prop}{RR:V->List V->Hp->Prop}
  (h:(pe Ψ a E).e ρ fun x n ρ1=>P1 x n/\sq (vA x n) ρ1 ((pe Ψ as E).a []) fun xs ρ2=>P x n xs ρ2)
  (k1:∀v F' H' x n Za,Tr K F' H' false v (vA x n) Za->P1 x n->R1 v H')
  (kk:∀v vs F' H' S' ρ' x n xs Za Y,Ste F H S ρ F' H' S' ρ'->Rl K F' H' S' ρ' σ->XOk K F' H' S' ρ' E EK->Tr K F' H' false v (vA x n) Za->(∀b,Za b->∃(i:Nat) (s:Sl),i∈vrs a/\ρ'[i]?=some (some s)/\S' i b)->Tn K F' H' Y vs (fzOf xs) ->
   P x n xs ρ'->RR v vs H'):(wp K Γ a EK).e σ H fun v H1=>R1 v H1/\(wp K Γ as EK).a σ H1 fun vs H2=>RR v vs H2:=by
 refine one_f ia I X h fun v F1 H1 S1 ρ1 x n Za s1 I1 X1 r1 _ z1 ⟨p1,q1⟩=>⟨k1 v F1 H1 x n Za r1 p1,?_⟩
 refine sq_a ib I1 X1 (fun j hj=>by cases as<;>cases hj) q1 fun vs F2 H2 S2 ρ2 xs W Y s2 I2 kp hs r2 _ q2=>?_;obtain⟨F3,s3,I3,tn,k3⟩:=r2.frz s2 I2;have za:∀b,Za b->∃(i:Nat) (s:Sl),i∈vrs a/\ρ2[i]?=some (some s)/\S2 i b:=by
  cases hd:(vA x n).isD with
  |true =>
   intro b hb;exfalso;generalize vA x n=t at r1 hd;cases r1 with
   |d r n=>exact n b hb
   |_=>cases hd
  |false=>obtain⟨e1,e2⟩:=hs hd;rw[e1,e2];exact z1
 have s13:=s1.trans s3;exact kk v vs F3 H2 S2 ρ2 x n xs Za Y s13 I3 (X.from s13.toStp) (k3 _ _ _ _ (kp _ _ _ r1) fun b hb=>let⟨i,s,_,h2⟩:=za b hb;⟨i,s,h2⟩) za tn q2
noncomputable def ItV(K:QA)(F H:Hp)(Y:KA):Item->T->Prop
 | .one v,t=>∃Z,Tr K F H false v t Z/\∀b,Z b->Y b
 | .tup vs,t=>∃ds,t=.d (.tuple ds)/\Reps K F vs ds
theorem ItV.mono{Y:KA}{it:Item}{t:T}(h:ItV K F H Y it t)(e:Same F F1)(k:∀b,Y b->H1 b=H b/\F1 b=none):ItV K F1 H1 Y it t:=by
 cases it with
 |one v=>obtain⟨Z,r,z⟩:=h;exact⟨Z,r.mono e fun b hb=>k b (z b hb),z⟩
 |tup vs=>obtain⟨ts,e1,r⟩:=h;exact⟨ts,e1,r.mono e⟩
theorem its_of{Y:KA}{st:Bool}:∀{xs:List V}{ts:List T}{Z:KA},Trs K F H st xs ts Z->(∀b,Z b->Y b)->Paired (ItV K F H Y) (xs.map .one) ts
 |_,_,_,.nil _,_=>.nil
 |_,_,_,.cons h t n q,z=>.cons ⟨_,h.weak,fun b hb=>z b ((q b).mpr (.inl hb))⟩ (its_of t fun b hb=>z b ((q b).mpr (.inr hb)))
theorem its_map{Y:KA}{α:Type}(f:α->V)(g:α->D)(h:∀x,Rep K F (f x) (g x)):∀(l:List α),Paired (ItV K F H Y) (l.map fun x=>.one (f x)) (l.map fun x=>T.d (g x))
 |[]=>.nil
 |x::r=>.cons ⟨fun _=>False,.d (h x) fun _ z=>z,fun _ z=>z.elim⟩ (its_map f g h r)
theorem Tr.lsS{st:Bool}{v:V}{t:T}{Z:KA}{ts:List T}(f:Same F H)(h:Tr K F H st v t Z)(e:t.vw=.ls ts):∃a vs S',v=.ref a/\SqL K H a vs/\Trs K F H false vs ts S'/\(∀b,S' b->Z b)/\∀F' H',Same F F'->Same F' H'->(∀b,Z b->H' b=H b)->SqL K H' a vs:=by
 cases h with
 |d r n =>
  cases r with
  |lst q r=>injection e with e;subst e;exact⟨_,_,_,rfl,f.seq q,Trs.of_reps r,fun b hb=>hb.elim,fun F' H' e1 e2 _=>(e1.trans e2).seq q⟩
  |_=>cases e
 |lst h _ r n q=>injection e with e;subst e;exact⟨_,_,_,rfl,SqL.of h,r.weak,fun b hb=>(q b).mpr (.inr hb),fun F' H' _ _ k=>SqL.of ((k _ ((q _).mpr (.inl rfl))).trans h)⟩
 |tup=>cases e
 |lstF h r n=>injection e with e;subst e;exact⟨_,_,_,rfl,f.seq h,Trs.of_reps r,fun b hb=>hb.elim,fun F' H' e1 e2 _=>(e1.trans e2).seq h⟩
theorem Tr.tpS{st:Bool}{v:V}{t:T}{Z:KA}{ts:List T}(f:Same F H)(h:Tr K F H st v t Z)(e:t.vw=.tp ts):∃a vs S',v=.ref a/\SqT K H a vs/\Trs K F H false vs ts S'/\(∀b,S' b->Z b)/\∀F' H',Same F F'->Same F' H'->(∀b,Z b->H' b=H b)->SqT K H' a vs:=by
 cases h with
 |d r n =>
  cases r with
  |tup q r=>injection e with e;subst e;exact⟨_,_,_,rfl,f.tupl q,Trs.of_reps r,fun b hb=>hb.elim,fun F' H' e1 e2 _=>(e1.trans e2).tupl q⟩
  |_=>cases e
 |tup h _ r n q=>injection e with e;subst e;exact⟨_,_,_,rfl,SqT.of h,r.weak,fun b hb=>(q b).mpr (.inr hb),fun F' H' _ _ k=>SqT.of ((k _ ((q _).mpr (.inl rfl))).trans h)⟩
 |lst=>cases e
 |lstF=>cases e
theorem Tr.seqS{st:Bool}{v:V}{t:T}{Z:KA}{ts:List T}(f:Same F H)(h:Tr K F H st v t Z)(e:t.vw.seq=some ts):∃a vs sz,v=.ref (Src.adr sz)/\SqS K H sz vs/\(∃S',Trs K F H false vs ts S')/\a=Src.adr sz/\∀F' H',Same F F'->Same F' H'->(∀b,Z b->H' b=H b)->SqS K H' sz vs:=by
 generalize ev:t.vw=w at e;cases w with
 |ls us=>cases e;obtain⟨a,vs,S',rfl,hq,rp,_,hs⟩:=h.lsS f ev;exact⟨a,vs,.l a,rfl,hq,⟨S',rp⟩,rfl,hs⟩
 |tp us=>cases e;obtain⟨a,vs,S',rfl,hq,rp,_,hs⟩:=h.tpS f ev;exact⟨a,vs,.t a,rfl,hq,⟨S',rp⟩,rfl,hs⟩
 |_=>cases e
theorem its_zip{Y:KA}:∀{xs ys:List V}{ds es:List D},Reps K F xs ds->Reps K F ys es->Paired (ItV K F H Y) ((xs.zip ys).map fun p=>.tup [p.1,p.2]) ((ds.zip es).map fun p=>T.d (.tuple [p.1,p.2]))
 |_,_,_,_,.nil,_=>by simp only[List.zip_nil_left,WA];exact .nil
 |_,_,_,_,.cons _ _,.nil=>by simp only[List.zip_nil_right,WA];exact .nil
 |_,_,_,_,.cons h t,.cons h' t'=>by simp only[Wx,QS];exact .cons ⟨[_,_],rfl,.cons h (.cons h' .nil)⟩ (its_zip t t')
theorem its_enum{Y:KA}:∀{xs:List V}{ds:List D}(_:Reps K F xs ds) (g:Nat->Int) (n:Nat),Paired (ItV K F H Y) ((xs.zipIdx n).map fun p=>.tup [.int (g p.2),p.1]) ((ds.zipIdx n).map fun p=>T.d (.tuple [.int (g p.2),p.1]))
 |_,_,.nil,g,n=>by simp only[QAj,WA];exact .nil
 |_,_,.cons h t,g,n=>by simp only[wy,QS];exact .cons ⟨[_,_],rfl,.cons (.int _) (.cons h .nil)⟩ (its_enum t g (n+1))
theorem items_okT{ik:ItK}{Y:KA}{vs:List V}{ts:List T}{RD:List T->Prop}{RR:List Item->(Hp->Prop)->Hp->Prop}(f:Same F H)(ra:Tn K F H Y vs ts)(h:dC ik (ts.map T.vw) RD)
  (k:∀xs ys st,Paired (ItV K F H Y) xs ys->(∀F' H',Same F F'->Same F' H'->(∀b,Y b->H' b=H b)->st H')->RD ys->RR xs st H):uB K ik vs H RR:=by
 cases ik with
 |val =>
  rcases h with⟨z,e,h⟩| ⟨us,e,h⟩| ⟨us,e,h⟩
  obtain⟨v,t,Z,rfl,rfl,e,r,_⟩:=ra.one e;obtain rfl:=r.str e;exact k _ _ _ (its_map (fun c=>.str ⟨#[c]⟩) (fun c=>.str ⟨#[c]⟩) (fun c=>.str _) _) (fun _ _ _ _ _=>trivial) h;obtain⟨v,t,Z,rfl,rfl,e,r,z⟩:=ra.one e;obtain⟨p,xs,S',rfl,hp,rp,z2,hs⟩:=r.lsS f e;exact .inl ⟨xs,hp,k _ _ _ (its_of rp fun b hb=>z b (z2 b hb)) (fun F' H' e1 e2 q=>hs F' H' e1 e2 fun b hb=>q b (z b hb)) h⟩;obtain⟨v,t,Z,rfl,rfl,e,r,z⟩:=ra.one e;obtain⟨p,xs,S',rfl,hp,rp,z2,hs⟩:=r.tpS f e;exact .inr ⟨xs,hp,k _ _ _ (its_of rp fun b hb=>z b (z2 b hb)) (fun F' H' e1 e2 q=>hs F' H' e1 e2 fun b hb=>q b (z b hb)) h⟩
 |rng1=>obtain⟨j,e,h⟩:=h;obtain⟨v,t,Z,rfl,rfl,e,r,_⟩:=ra.one e;obtain rfl:=r.int e;exact⟨h.1,k _ _ _ (its_map (fun(i:Nat)=>.int (i:Int)) (fun(i:Nat)=>.int (i:Int)) (fun c=>.int _) _) (fun _ _ _ _ _=>trivial) h.2⟩
 |rng3 =>
  obtain⟨i,j,l,e,h⟩:=h;cases ra with
  |nil=>cases e
  |cons r1 z1 t1=>have e:=QAO e;obtain⟨v2,w2,t2,u2,Z2,Z3,rfl,rfl,e2,e3,r2,r3,_,_⟩:=t1.two e.2;obtain rfl:=r1.int e.1;obtain rfl:=r2.int e2;obtain rfl:=r3.int e3;exact⟨h.1,k _ _ _ (its_map (fun(c:Nat)=>.int (_+(c:Int) * _)) (fun(c:Nat)=>.int (_+(c:Int) * _)) (fun c=>.int _) _) (fun _ _ _ _ _=>trivial) h.2⟩
 |zip2=>obtain⟨x,y,us,ws,ds,es,e,g1,g2,g3,g4,q⟩:=h;obtain⟨v,w,t,u,Z,Z',rfl,rfl,e1,e2,r1,r2,y1,y2⟩:=ra.two e;obtain⟨a,xs,sz,rfl,hq,⟨_,rp⟩,_,hs⟩:=r1.seqS f (by rw[e1];exact g1);obtain⟨b,ys,sz2,rfl,hq2,⟨_,rp2⟩,_,hs2⟩:=r2.seqS f (by rw[e2];exact g2);exact⟨sz,sz2,xs,ys,rfl,rfl,hq,hq2,k _ _ _ (its_zip (rp.un g3).1 (rp2.un g4).1) (fun F' H' e1 e2 q=>⟨hs F' H' e1 e2 fun b hb=>q b (y1 b hb),hs2 F' H' e1 e2 fun b hb=>q b (y2 b hb)⟩) q⟩
 |enum=>obtain⟨x,us,ds,e,g1,g3,q⟩:=h;obtain⟨v,t,Z,rfl,rfl,e1,r1,y1⟩:=ra.one e;obtain⟨a,xs,sz,rfl,hq,⟨_,rp⟩,_,hs⟩:=r1.seqS f (by rw[e1];exact g1);exact⟨sz,xs,rfl,hq,k _ _ _ (its_enum (rp.un g3).1 (fun i=>(i:Int)) 0) (fun F' H' e1 e2 q=>hs F' H' e1 e2 fun b hb=>q b (y1 b hb)) q⟩
 |enumA=>obtain⟨x,n,us,ds,e,g1,g3,g4,q⟩:=h;obtain⟨v,w,t,u,Z,Z',rfl,rfl,e1,e2,r1,r2,y1,y2⟩:=ra.two e;obtain⟨a,xs,sz,rfl,hq,⟨_,rp⟩,_,hs⟩:=r1.seqS f (by rw[e1];exact g1);obtain rfl:=r2.int e2;exact⟨sz,xs,rfl,hq,g4,k _ _ _ (its_enum (rp.un g3).1 (fun i=>(((_+i:Nat)):Int)) 0) (fun F' H' e1 e2 q=>hs F' H' e1 e2 fun b hb=>q b (y1 b hb)) q⟩
end
noncomputable def updF(S:Ft)(i:Nat)(Z:KA):Ft:=fun j=>if j=i then Z else S j
theorem kB{S:Ft}{i:Nat}{Z:KA}:updF S i Z i=Z:=if_pos rfl
theorem UA{S:Ft}{i j:Nat}{Z:KA}(h:j≠i):updF S i Z j=S j:=if_neg h
theorem xA{α:Type}{l:List α}{i j:Nat}{x y:α}(h:(l.set i x)[j]?=some y):(i=j/\y=x/\i<l.length)∨(i≠j/\l[j]?=some y):=by rw[qz]at h;by_cases e:i=j;subst e;rw[if_pos rfl]at h;by_cases hl:i<l.length;rw[if_pos hl]at h;cases h;exact .inl ⟨rfl,rfl,hl⟩;rw[if_neg hl]at h;cases h;rw[if_neg e]at h;exact .inr ⟨e,h⟩
theorem set_get{α:Type}{l:List α}{i:Nat}{x:α}(h:i<l.length):(l.set i x)[i]?=some x:=by rw[qz,if_pos rfl,if_pos h]
theorem set_ne{α:Type}{l:List α}{i j:Nat}{x:α}(h:i≠j):(l.set i x)[j]?=l[j]?:=by rw[qz,if_neg h]
section
variable{K:QA}{Γ:Ev}{Ψ:PEv}{E:XE}{EK:XK}{F H F1 H1:Hp}{S S1:Ft}{ρ ρ1:yA}{σ:St}
theorem Rl.setB(I:Rl K F H S ρ σ)(i:Nat){v:V}{t:T}{Z:KA}(r:Tr K F H false v t Z)(hz:∀(j:Nat) u,j≠i->ρ[j]?=some (some (.own u))->∀b,Z b->¬ S j b):Rl K F H (updF S i Z) (ρ.set i (some (.nj t))) (σ.set i (some v)) where
 fh:=I.fh
 len:=by simpa using I.len
 sl:=fun j s h=>by
  rcases xA h with⟨rfl,e,hl⟩| ⟨hn,h⟩
  cases e;exact⟨v,set_get (by rw[<- I.len];exact hl),by rw[kB];exact r⟩;rw[set_ne hn,UA (Q4 hn)];exact I.sl j s h
 dj:=fun j k t' s n h1 h2 b hb hk=>by
  rcases xA h1 with⟨_,e,_⟩| ⟨n1,h1⟩
  cases e;rw[UA (Q4 n1)]at hb;rcases xA h2 with⟨e,_,_⟩| ⟨n2,h2⟩
  subst e;rw[kB]at hk;exact hz j t' n h1 b hk hb;rw[UA (Q4 n2)]at hk;exact I.dj j k t' s n h1 h2 b hb hk
structure Bd(J:List Nat)(F H:Hp)(S:Ft)(ρ:yA)(σ:St)(F' H':Hp)(S':Ft)(ρ':yA)(σ':St):Prop where
 ff:Same F F'
 hh:Same H H'
 fn:∀b,F b=none->F' b≠none->H b=none
 out:∀j,j∉J->ρ'[j]?=ρ[j]?/\S' j=S j/\σ'[j]?=σ[j]?
 inn:∀j t,j∈J->ρ'[j]?≠some (some (.own t))
theorem Bd.U{J:List Nat}{F' H':Hp}{S':Ft}{ρ':yA}{σ':St}(h:Bd J F H S ρ σ F' H' S' ρ' σ'){b:Addr}(u:U ρ' S' b):L3.U ρ S b:=by obtain⟨i,t,h1,h2⟩:=u;by_cases hi:i∈J;exact absurd h1 (h.inn i t hi);obtain⟨e1,e2,_⟩:=h.out i hi;rw[e1]at h1;rw[e2]at h2;exact⟨i,t,h1,h2⟩
theorem Bd.dm{J:List Nat}{F' H':Hp}{S':Ft}{ρ':yA}{σ':St}(h:Bd J F H S ρ σ F' H' S' ρ' σ')(b:Addr)(e:H' b=none):H b=none:=h.hh.free e
theorem setAllV{Y:KA}(hy:∀b,Y b->¬ U ρ S b):∀(is:List Nat) {vs:List V}{ts:List T}{S1:Ft}{ρ1 ρ':yA}{σ1:St}{J:List Nat},(∀i∈is,i∈J)->Rl K F H S1 ρ1 σ1->(∀b,U ρ1 S1 b->U ρ S b)->Tn K F H Y vs ts->setAllT is ts ρ1=some ρ' ->
  ∃σ' S',fB is vs σ1=some σ'/\Rl K F H S' ρ' σ'/\(∀j,j∉J->ρ'[j]?=ρ1[j]?/\S' j=S1 j/\σ'[j]?=σ1[j]?)/\(∀j t,ρ'[j]?=some (some (.own t))->j∉is/\ρ1[j]?=some (some (.own t)))
 |[],_,_,S1,ρ1,ρ',σ1,J,hJ,I,hu,.nil,h=>by simp only[setAllT,Qr]at h;subst h;exact⟨σ1,S1,rfl,I,fun _ _=>⟨rfl,rfl,rfl⟩,fun j t h=>⟨(by simp),h⟩⟩
 |[],_,_,_,_,_,_,_,_,_,_,.cons _ _ _,h=>by simp[setAllT]at h
 |_::_,_,_,_,_,_,_,_,_,_,_,.nil,h=>by simp[setAllT]at h
 |i::is,_,_,S1,ρ1,ρ',σ1,J,hJ,I,hu,.cons (v:=v) (t:=t) (Z:=Z) r z tl,h=>by
  simp only[setAllT]at h;have nu:∀b,Z b->¬ U ρ1 S1 b:=fun b hb u=>hy b (z b hb) (hu b u);have I2:=I.setB i r fun j u _ hj b hb hs=>nu b hb ⟨j,u,hj,hs⟩;have hu2:∀b,U (ρ1.set i (some (.nj t))) (updF S1 i Z) b->U ρ S b:=fun b ⟨j,u,h1,h2⟩=>by
   rcases xA h1 with⟨_,e,_⟩| ⟨n,h1⟩
   cases e;rw[UA (Q4 n)]at h2;exact hu b ⟨j,u,h1,h2⟩
  obtain⟨σ',S',g1,g2,g3,g4⟩:=setAllV hy is (fun j hj=>hJ j (QJ _ hj)) I2 hu2 tl h;refine⟨σ',S',g1,g2,fun j hj=>?_,fun j u hj=>?_⟩;obtain⟨e1,e2,e3⟩:=g3 j hj;have n:i≠j:=fun e=>hj (e▸hJ i QM);rw[set_ne n]at e1 e3;rw[UA (Q4 n)]at e2;exact⟨e1,e2,e3⟩;obtain⟨e1,e2⟩:=g4 j u hj;rcases xA e2 with⟨_,e,_⟩| ⟨n,e2⟩
  cases e;exact⟨fun m=>(QI.mp m).elim (fun e=>n e.symm) e1,e2⟩
theorem Tn.of_trs{Y:KA}{st:Bool}:∀{vs:List V}{ts:List T}{Z:KA},Trs K F H st vs ts Z->(∀b,Z b->Y b)->Tn K F H Y vs ts
 |_,_,_,.nil _,_=>.nil
 |_,_,_,.cons h t n q,z=>.cons h.weak (fun b hb=>z b ((q b).mpr (.inl hb))) (Tn.of_trs t fun b hb=>z b ((q b).mpr (.inr hb)))
theorem bind_okT{Y:KA}{tg:Tg}{it:Item}{t:T}{QP:yA->Prop}{RP:St->Hp->Prop}(I:Rl K F H S ρ σ)(hy:∀b,Y b->¬ U ρ S b)(r:ItV K F H Y it t)(h:bindV tg t ρ QP)
  (k:∀ρ2 σ2 F2 H2 S2,Bd tg.ix F H S ρ σ F2 H2 S2 ρ2 σ2->Rl K F2 H2 S2 ρ2 σ2->QP ρ2->RP σ2 H2):bindI K tg it σ H RP:=by
 have nm:∀(i:Nat) {v:V}{t:T}{Z:KA}{F2 H2:Hp}{S2:Ft},Same F F2->Same H H2->(∀b,F b=none->F2 b≠none->H b=none)->Rl K F2 H2 S2 ρ σ->S2=S->Tr K F2 H2 false v t Z->(∀b,Z b->¬ U ρ S b)->QP (ρ.set i (some (.nj t)))->tg=.nm i->RP (σ.set i (some v)) H2:=by
  intro i v t Z F2 H2 S2 e1 e2 e3 I2 hS r hz q ht;subst hS ht;refine k _ _ F2 H2 (updF S2 i Z) ⟨e1,e2,e3,fun j hj=>?_,fun j u hj hu=>?_⟩ (I2.setB i r fun j u _ hj b hb hs=>hz b hb ⟨j,u,hj,hs⟩) q;have n:i≠j:=fun e=>hj (by subst e;exact Qz.mpr rfl);exact⟨set_ne n,UA (Q4 n),set_ne n⟩;have e:j=i:=Qz.mp hj;subst e;rcases xA hu with⟨_,e,_⟩| ⟨n,_⟩
  cases e;exact n rfl
 have tp:∀(is:List Nat) {vs:List V}{ts:List T}{H2:Hp}{ρ':yA},Same H H2->tg=.tp is->Tn K F H2 Y vs ts->setAllT is ts ρ=some ρ'->QP ρ'->∃σ',fB is vs σ=some σ'/\RP σ' H2:=by intro is vs ts H2 ρ' e2 ht r e q;subst ht;obtain⟨σ',S',g1,g2,g3,g4⟩:=setAllV hy is (J:=is) (fun i hi=>hi) (I.same e2) (fun b u=>u) r e;exact⟨σ',g1,k _ _ F H2 S' ⟨.refl _,e2,fun b h z=>absurd h z,g3,fun j u hj hu=>(g4 j u hu).1 hj⟩ g2 q⟩
 cases it with
 |one v =>
  obtain⟨Z,r,z⟩:=r;cases tg with
  |nm i=>exact nm i (.refl _) (.refl _) (fun b h z=>absurd h z) I rfl r (fun b hb=>hy b (z b hb)) h rfl
  |tp is=>have h2:(match t.vw with | .tp ts=>∃ρ',setAllT is ts ρ=some ρ'/\QP ρ'|_=>False):=h;split at h2;rename_i ts e;obtain⟨ρ',e1,q⟩:=h2;obtain⟨a,vs,S',rfl,hp,rp,z2⟩:=r.tp I.fh e;obtain⟨σ',g1,g2⟩:=tp is (.refl _) rfl (Tn.of_trs rp fun b hb=>z b (z2 b hb)) e1 q;exact⟨vs,σ',hp,g1,g2⟩;exact h2.elim
 |tup vs =>
  obtain⟨ds,rfl,rd⟩:=r;cases tg with
  |nm i=>intro p hp;refine nm i (XC (I.fh.free hp)) (XC hp) (fun b h1 h2=>?_) (I.newT hp (.tup vs)) rfl (.d (S:=fun _=>False) (.tup (SqT.of nB) (rd.mono (XC (I.fh.free hp)))) fun _ z=>z) (fun b z=>z.elim) h rfl;by_cases hb:b=p;rw[hb];exact hp;rw[fA hb]at h2;exact absurd h1 h2
  |tp is=>intro H' s;obtain⟨ρ',e1,q⟩:=h;exact tp is s rfl (Tn.of_trs (Trs.of_reps (st:=false) rd) fun b hb=>hb.elim) e1 q
noncomputable def entF(k:Nat)(S:Ft):Ft:=fun i=>if i<k then fun _=>False else S (i - k)
theorem maskP_get:∀(m:List Bool) (ρ:yA) (i:Nat) s,(maskP m ρ)[i]?=some (some s)->ρ[i]?=some (some s)/\m.getD i false=false
 |[],ρ,i,s,h=>by
  have e:maskP [] ρ=ρ:=by cases ρ<;>rfl
  rw[e]at h;exact⟨h,rfl⟩
 |b::m,[],i,s,h=>by simp[maskP]at h
 |b::m,v::ρ,0,s,h=>by
  cases b with
  |true=>simp[maskP]at h
  |false=>simp[maskP]at h;simp[h]
 |b::m,v::ρ,i+1,s,h=>by simp only[maskP,WE]at h;obtain⟨h1,h2⟩:=maskP_get m ρ i s h;exact⟨by simpa using h1,by simpa using h2⟩
theorem maskS_get:∀(m:List Bool) (σ:St) (i:Nat) v,σ[i]?=some (some v)->m.getD i false=false->(OC m σ)[i]?=some (some v)
 |[],σ,i,v,h,_=>by
  have e:OC [] σ=σ:=by cases σ<;>rfl
  rw[e];exact h
 |b::m,[],i,v,h,_=>by simp at h
 |b::m,w::σ,0,v,h,hb=>by
  have:b=false:=by simpa using hb
  subst this;simpa[OC]using h
 |b::m,w::σ,i+1,v,h,hb=>by simp only[OC,WE];exact maskS_get m σ i v (by simpa using h) (by simpa using hb)
theorem maskP_len:∀(m:List Bool) (ρ:yA),(maskP m ρ).length=ρ.length
 |[],ρ=>by cases ρ<;>rfl
 |_::_,[]=>rfl
 |b::m,v::ρ=>by simp[maskP,maskP_len m ρ]
theorem entP_get{k:Nat}{mask:List Bool}{ρ:yA}{i:Nat}{s:Sl}(h:(entP k mask ρ)[i]?=some (some s)):k<=i/\ρ[i - k]?=some (some s)/\mask.getD (i - k) false=false:=by unfold entP at h;rcases Wv i k with z|z;rw[qD (by simpa using z),qp]at h;split at h<;>cases h;rw[Qv (by simpa using z)]at h;simp only[Q7]at h;obtain⟨h1,h2⟩:=maskP_get mask ρ _ s h;exact⟨z,h1,h2⟩
theorem Rl.ent(I:Rl K F H S ρ σ)(k:Nat)(mask:List Bool):Rl K F H (entF k S) (entP k mask ρ) (entS k mask σ) where
 fh:=I.fh
 len:=by simp[entP,entS,maskP_len,maskS_len,I.len]
 sl:=fun i s h=>by obtain⟨h0,h1,h2⟩:=entP_get h;obtain⟨v,g1,g2⟩:=I.sl _ s h1;refine⟨v,?_,?_⟩;unfold entS;rw[Qv (by simpa using h0)];simp only[Q7];exact maskS_get mask σ _ v g1 h2;unfold entF;rw[if_neg (by omega)];exact g2
 dj:=fun i j t s n h1 h2 b hb hj=>by obtain⟨a0,a1,_⟩:=entP_get h1;obtain⟨b0,b1,_⟩:=entP_get h2;unfold entF at hb hj;rw[if_neg (by omega)]at hb hj;exact I.dj (i - k) (j - k) t s (by omega) a1 b1 b hb hj
theorem ent_noU{k:Nat}{mask:List Bool}{S':Ft}(b:Addr):¬ U (entP k mask (lockA ρ)) S' b:=fun⟨i,t,h,_⟩=>by obtain⟨_,h1,_⟩:=entP_get h;obtain⟨_,_,e⟩:=MB h1;cases e
theorem Paired.get_of{α β:Type}{R:α->β->Prop}{xs:List α}{ys:List β}(h:Paired R xs ys):∀{i:Nat}{x:α},xs[i]?=some x->∃y,ys.drop i=y::ys.drop (i+1)/\R x y:=by
 induction h with
 |nil=>intro i x e;simp at e
 |@cons x y xs ys h t ih =>
  intro i z e;cases i with
  |zero=>simp at e;subst e;exact⟨y,by simp,h⟩
  |succ i=>obtain⟨y',h1,h2⟩:=ih (i:=i) (by simpa using e);exact⟨y',by simpa using h1,h2⟩
structure Pur(F H F' H':Hp):Prop where
 ff:Same F F'
 hh:Same H H'
 fn:∀b,F b=none->F' b≠none->H b=none
theorem Pur.trans{F2 H2:Hp}(a:Pur F H F1 H1)(b:Pur F1 H1 F2 H2):Pur F H F2 H2:=⟨a.ff.trans b.ff,a.hh.trans b.hh,fun x h z=>by by_cases q:F1 x=none;exact a.hh.free (b.fn x q z);exact a.fn x h q⟩
theorem Pur.ste(p:Pur F H F1 H1):Ste F H S ρ F1 H1 S ρ:=⟨⟨p.ff,fun b u h _=>p.hh b u h,fun b h=>p.hh.free h,fun b h z=>.inr (p.fn b h z),fun b h=>.inl h,fun _ _ h _=>⟨h,rfl⟩⟩,fun _ t h=>⟨t,h⟩⟩
theorem Pur.rl(p:Pur F H F1 H1)(f:Same F1 H1)(I:Rl K F H S ρ σ):Rl K F1 H1 S ρ σ:=⟨f,I.len,fun i s e=>by
 obtain⟨v,h1,h2⟩:=I.sl i s e;exact⟨v,h1,h2.mono p.ff fun b hb=>by
  obtain⟨d1,d2⟩:=h2.dom b hb;refine⟨?_,?_⟩;cases e:H b with
  |none=>exact absurd e d1
  |some u=>exact p.hh b u e
  by_cases q:F1 b=none
  ·exact q
  exact absurd (p.fn b d2 q) d1⟩,I.dj⟩
theorem Stp.pur{S':Ft}{ρ':yA}(s:Stp F H S ρ F1 H1 S' ρ')(n:∀b,¬ U ρ S b):Pur F H F1 H1:=⟨s.ff,fun b u h=>s.hh b u h (n b),fun b h z=>(s.fn b h z).elim (fun q=>absurd q (n b)) id⟩
theorem Pur.trs(p:Pur F H F1 H1){st:Bool}{v:List V}{t:List T}{Z:KA}(h:Trs K F H st v t Z):Trs K F1 H1 st v t Z:=h.mono p.ff fun b hb=>by
  obtain⟨d1,d2⟩:=h.dom b hb;refine⟨?_,?_⟩;cases e:H b with
  |none=>exact absurd e d1
  |some u=>exact p.hh b u e
  by_cases q:F1 b=none
  ·exact q
  exact absurd (p.fn b d2 q) d1
theorem compV_ok{ws:List Nat}{mask:List Bool}{k0:Nat}{tg:Tg}{c:yA->(Bool->yA->Prop)->Prop}{e:yA->TK->Prop}{tc:TT}{te:TE}{us:List Nat}
  (ic:∀{F H:Hp}{S:Ft}{ρ:yA}{σ:St}{Q:Bool->yA->Prop}{R:Bool->Hp->Prop},Rl K F H S ρ σ->c ρ Q->KontB K F H S ρ σ Q R->tc σ H R)
  (ie:∀{F H:Hp}{S:Ft}{ρ:yA}{σ:St}{Q:TK}{R:VK},Rl K F H S ρ σ->e ρ Q->eB K us F H S ρ σ Q R->te σ H R)
  {F0 H0:Hp}{S0:Ft}{ρ0:yA}(s:Ste F0 H0 S0 ρ0 F H S ρ) (I:Rl K F H S ρ σ) {Y:KA}{xs:List Item}{ys:List T}{st:Hp->Prop}(pr:Paired (ItV K F H Y) xs ys) (hyd:∀b,Y b->H b≠none/\F b=none) (hst:∀F' H',Same F F'->Same F' H'->(∀b,Y b->H' b=H b)->st H') {Q:TK}{R:VK}
  (h:JD (compBody tg (entP k0 mask (lockA ρ)) c e) ys [] fun ys=>Q (.lst ys) true ρ) (k:eB K ws F0 H0 S0 ρ0 σ Q R) :
  CompB K xs st tg tc te (entS k0 mask σ) H R:=by
 refine compB_of ?_;have len:=Wh pr;have yk:∀{F' H':Hp},Pur F H F' H'->∀b,Y b->H' b=H b/\F' b=none:=fun {F' H'} p b hb=>by
  obtain⟨d1,d2⟩:=hyd b hb;refine⟨?_,?_⟩;cases e:H b with
  |none=>exact absurd e d1
  |some u=>exact p.hh b u e
  by_cases q:F' b=none
  ·exact q
  exact absurd (p.fn b d2 q) d1
 refine⟨fun i acc H'=>∃F' dacc W,Pur F H F' H'/\Same F' H'/\Trs K F' H' true acc dacc W/\(∀b,W b->H b=none)/\JD (compBody tg (entP k0 mask (lockA ρ)) c e) (ys.drop i) dacc fun ys=>Q (.lst ys) true ρ,
  ⟨F,[],fun _=>False,⟨.refl _,.refl _,fun b h z=>absurd h z⟩,I.fh,.nil fun _ z=>z,fun _ z=>z.elim,by simpa using h⟩,?_,?_,?_⟩
 rintro i acc H' _ ⟨F',dacc,W,p,f,_,_,_⟩;exact hst F' H' p.ff f fun b hb=>(yk p b hb).1;rintro i x acc H1 hx ⟨F1,dacc,W,p1,f1,ra,hw,hc⟩;obtain⟨y,hd,ry⟩:=Paired.get_of pr hx;rw[hd]at hc;unfold JD at hc;unfold compBody at hc;have I1:Rl K F1 H1 (entF k0 S) (entP k0 mask (lockA ρ)) (entS k0 mask σ):=((p1.rl f1 I).lockA).ent k0 mask;refine bind_okT I1 (fun b _=>ent_noU b) (ry.mono p1.ff (yk p1)) hc fun ρ2 σ2 F2 H2 S2 bd I2 hc=>?_;have p2:Pur F1 H1 F2 H2:=⟨bd.ff,bd.hh,bd.fn⟩
 have nu2:∀b,¬ U ρ2 S2 b:=fun b u=>ent_noU b (bd.U u);refine ic I2 hc fun b F3 H3 S3 ρ3 s3 I3 q=>?_;have p3:Pur F2 H2 F3 H3:=s3.toStp.pur nu2;have nu3:∀b,¬ U ρ3 S3 b:=fun b ⟨j,t,h1,_⟩=>by obtain⟨t0,h0⟩:=s3.ow j t h1;by_cases hj:j∈tg.ix;exact bd.inn j t0 hj h0;rw[(bd.out j hj).1]at h0;obtain⟨_,h1,_⟩:=entP_get h0;obtain⟨_,_,e⟩:=MB h1;cases e
 have p123:=p1.trans (p2.trans p3);cases b with
 |false=>exact⟨F3,dacc,W,p123,I3.fh,p3.trs (p2.trs ra),hw,q⟩
 |true =>
  refine ie I3 q fun v F4 H4 S4 ρ4 z n Z s4 I4 r4 ⟨hk,hl,hc⟩=>?_;have p4:Pur F3 H3 F4 H4:=s4.toStp.pur nu3;have ra4:=p4.trs (p3.trs (p2.trs ra));have rz:∃Z',Tr K F4 H4 true v z Z'/\∀b,Z' b->H3 b=none:=by
   cases n with
   |true=>exact⟨Z,r4.tr,fun b hb=>(r4.fr rfl b hb).elim id fun u=>absurd u (nu3 b)⟩
   |false =>
    cases z with
    |d x =>
     have tr:=r4.tr;cases tr with
     |d r n=>exact⟨fun _=>False,.d r fun _ z=>z,fun _ z=>z.elim⟩
    |_=>exact absurd hk (by simp[esc,T.isD])
  obtain⟨Z',rz,fz⟩:=rz;refine⟨by rw[ra.length];exact hl,F4,_,fun b=>W b∨Z' b,p123.trans p4,I4.fh,ra4.append (Trs.one rz) fun b hb hz=>?_,fun b hb=>?_,hc⟩;have q1:=(ra.dom b hb).1;exact q1 ((p2.trans p3).hh.free (fz b hz));rcases hb with hb|hb
  ·exact hw b hb
  exact p123.hh.free (fz b hb)
 rintro acc H' ⟨F',dacc,W,p,f,ra,hw,hc⟩;rw[len,Wb]at hc;unfold JD at hc;have I':=p.rl f I;refine⟨by rw[ra.length];exact hc.1,fun q hq=>?_⟩;refine eB.list (k.from s) (p.ste) I' hq ra (fun b hb=>.inl (hw b hb)) ⟨ra.dom,fun i sl hi b hb z=>?_⟩ hc.2;exact(I.dom hi z).1 (hw b hb)
theorem maskP_no:∀{m:List Bool}(ρ:yA),(∀b∈m,b=false)->maskP m ρ=ρ
 |[],ρ,_=>by cases ρ<;>rfl
 |b::m,[],_=>rfl
 |b::m,v::ρ,h=>by have e:b=false:=h b QM;subst e;simp[maskP,maskP_no ρ fun b hb=>h b (QJ _ hb)]
theorem maskS_no:∀{m:List Bool}(σ:St),(∀b∈m,b=false)->OC m σ=σ
 |[],σ,_=>by cases σ<;>rfl
 |b::m,[],_=>rfl
 |b::m,v::σ,h=>by have e:b=false:=h b QM;subst e;simp[OC,maskS_no σ fun b hb=>h b (QJ _ hb)]
theorem ent_get{k0 i:Nat}{ρ:yA}:(QH k0 none++ρ)[k0+i]?=ρ[i]?:=by rw[Qv (by simp)];simp
theorem ent_U{k0:Nat}{ρ:yA}{S:Ft}{b:Addr}(h:U (QH k0 none++ρ) (entF k0 S) b):U ρ S b:=by obtain⟨i,t,h1,h2⟩:=h;rcases Wv i k0 with z|z;rw[qD (by simpa using z),qp]at h1;split at h1<;>cases h1;obtain⟨j,rfl⟩:=Nat.exists_eq_add_of_le z;rw[ent_get]at h1;unfold entF at h2;rw[if_neg (by omega),QAP]at h2;exact⟨j,t,h1,h2⟩
theorem out_ste{k0:Nat}{J:List Nat}{σ0 σ2:St}{F3 H3:Hp}{S3:Ft}{ρ3:yA}(hj:∀j∈J,j<k0)(bd:Bd J F H (entF k0 S) (QH k0 none++ρ) σ0 F1 H1 S1 ρ1 σ2)(s:Ste F1 H1 S1 ρ1 F3 H3 S3 ρ3):Ste F H S ρ F3 H3 (fun i=>S3 (k0+i)) (ρ3.drop k0):=by
 have no:∀i,k0+i∉J:=fun i z=>by have:=hj _ z;omega
 have uu:∀b,U ρ1 S1 b->U ρ S b:=fun b u=>ent_U (bd.U u);refine⟨⟨bd.ff.trans s.ff,fun b u e n=>s.hh b u (bd.hh b u e) fun z=>n (uu b z),fun b e=>bd.dm b (s.dm b e),fun b e z=>?_,fun b ⟨i,t,h1,h2⟩=>?_,fun j t h n=>?_⟩,fun j t h=>?_⟩;by_cases q:F1 b=none
 ·exact(s.fn b q z).imp (uu b) (bd.dm b)
 exact .inr (bd.fn b e q);rw[ql]at h1;exact(s.uu b ⟨_,t,h1,h2⟩).imp (uu b) (bd.dm b);rw[ql]at h;obtain⟨h1,h2⟩:=s.bo _ t h n;obtain⟨e1,e2,_⟩:=bd.out _ (no j);rw[e1,ent_get]at h1;refine⟨h1,?_⟩;show S3 (k0+j)=S j;rw[h2,e2];unfold entF;rw[if_neg (by omega),QAP];rw[ql]at h;obtain⟨t0,h0⟩:=s.ow _ t h;rw[(bd.out _ (no j)).1,ent_get]at h0;exact⟨t0,h0⟩
theorem out_rl{k0:Nat}{σ2:St}(I:Rl K F H S ρ σ2)(e:σ2.drop k0=σ):Rl K F H (fun i=>S (k0+i)) (ρ.drop k0) σ where
 fh:=I.fh
 len:=by rw[<- e,qa,qa,I.len]
 sl:=fun i s h=>by rw[ql]at h;obtain⟨v,h1,h2⟩:=I.sl _ s h;exact⟨v,by rw[<- e,ql];exact h1,h2⟩
 dj:=fun i j t s n h1 h2=>by rw[ql]at h1 h2;exact I.dj _ _ t s (by omega) h1 h2
theorem compE_ok{ws:List Nat}{mask:List Bool}{k0:Nat}{tg:Tg}{e:yA->TK->Prop}{te:TE}{us:List Nat}(htg:∀j∈tg.ix,j<k0)(hm:∀b∈mask,b=false)
  (ie:∀{F H:Hp}{S:Ft}{ρ:yA}{σ:St}{Q:TK}{R:VK},Rl K F H S ρ σ->e ρ Q->eB K us F H S ρ σ Q R->te σ H R)
  {F0 H0:Hp}{S0:Ft}{ρ0:yA}(s:Ste F0 H0 S0 ρ0 F H S ρ) (I:Rl K F H S ρ σ) {xs:List Item}{ys:List T}{st:Hp->Prop}(pr:Paired (ItV K F H fun _=>False) xs ys) (hst:∀F' H',Same F F'->Same F' H'->st H') {Q:TK}{R:VK}
  (h:compE tg k0 e ys [] ρ fun ds ρ2=>Q (.lst (ds.map T.d)) true ρ2) (k:eB K ws F0 H0 S0 ρ0 σ Q R) :
  CompB K xs st tg (fun _ H Q=>Q true H) te (entS k0 mask σ) H R:=by
 refine compB_of ?_;have len:=Wh pr;have es:entS k0 mask σ=QH k0 none++σ:=by unfold entS;rw[maskS_no σ hm]
 refine⟨fun i acc H'=>∃F' S' ρ' ds,Ste F H S ρ F' H' S' ρ'/\Rl K F' H' S' ρ' σ/\Reps K F' acc ds/\compE tg k0 e (ys.drop i) ds ρ' fun ds ρ2=>Q (.lst (ds.map T.d)) true ρ2,
  ⟨F,S,ρ,[],.refl,I,.nil,by simpa using h⟩,?_,?_,?_⟩
 rintro i acc H' _ ⟨F',S',ρ',ds,s',I',_,_⟩;exact hst F' H' s'.ff I'.fh;rintro i x acc H1 hx ⟨F1,S1,ρ1,ds,s1,I1,ra,hc⟩;obtain⟨y,hd,ry⟩:=Paired.get_of pr hx;rw[hd]at hc;unfold compE at hc;have I1e:Rl K F1 H1 (entF k0 S1) (entP k0 mask ρ1) (entS k0 mask σ):=I1.ent k0 mask;have em:entP k0 mask ρ1=QH k0 none++ρ1:=by unfold entP;rw[maskP_no ρ1 hm]
 rw[em]at I1e;refine bind_okT I1e (fun b z=>z.elim) (ry.mono s1.ff fun b z=>z.elim) hc fun ρ2 σ2 F2 H2 S2 bd I2 hc=>?_;have e2:σ2.drop k0=σ:=by apply wT;intro i;rw[ql,(bd.out (k0+i) fun z=>by have:=htg _ z;omega).2.2,es,Qv (by simp)];simp
 refine ie I2 hc fun v F4 H4 S4 ρ4 z n Z s4 I4 r4 ⟨hk,hl,hc⟩=>?_;obtain⟨F5,Z5,s5,I5,_,er,_⟩:=r4.frz s4 I4;have o:=out_ste htg bd s5;exact⟨by rw[ra.length];exact hl,F5,_,ρ4.drop k0,ds++[z.er],s1.trans o,out_rl I5 e2,(ra.mono o.ff).append (.cons (er hk) .nil),hc⟩;rintro acc H' ⟨F',S',ρ',ds,s',I',ra,hc⟩;rw[len,Wb]at hc;unfold compE at hc;exact⟨by rw[ra.length];exact hc.1,fun q hq=>(k.from s).listD s' I' hq ra hc.2⟩
end
section
variable{K:QA}{Γ:Ev}{Ψ:PEv}{E:XE}{EK:XK}{F H F1 H1:Hp}{S S1:Ft}{ρ ρ1:yA}{σ:St}
theorem Tr.nq{v:V}{u t:T}{Z:KA}(h:Tr K F H false v u Z)(e:AC u=some t):Tr K F H false v t Z:=by
 unfold AC at e;split at e;rename_i ts ev;cases ed:unD ts with
 |none=>rw[ed]at e;cases e
 |some ds =>
  rw[ed]at e;injection e with e;subst e;cases h with
  |d r n =>
   cases r with
   |lst q r=>injection ev with ev;subst ev;rw[dA]at ed;injection ed with ed;subst ed;exact .lstF q r n
   |_=>cases ev
  |lst h1 h2 h3 h4 h5=>injection ev with ev;subst ev;show Tr K F H false _ (.lst (ds.map T.d)) Z;rw[<- unD_some ed];exact .lst h1 h2 h3 h4 h5
  |tup=>cases ev
  |lstF h1 h2 h3=>injection ev with ev;subst ev;rw[dA]at ed;injection ed with ed;subst ed;exact .lstF h1 h2 h3
 split at e
 ·injection e with e;subst e;exact h
 cases e
theorem AV.pass{Y:KA}{md:List Md}{vs:List V}{xs:List (T×Bool)}{W:KA}(h:AV K F H md vs xs W Y)(e:Same F F1)(k:∀b,W b->F1 b=H b)(k2:∀b,Y b->F b=none->F1 b=none) :
  ∀{os ts:List T},GA md xs os=some ts->ArgsR K F1 H Y md vs ts/\CB md ts=os:=by
 induction h with
 |nil h =>
  intro os ts hp;cases os with
  |nil=>simp only[GA,Qr]at hp;subst hp;exact⟨.nil,rfl⟩
  |cons _ _=>simp[GA]at hp
 |@chg md v vs x xs W Y h t ih =>
  intro os ts hp;have hm:md.headD .nk=.chg:=by generalize md.headD .nk=m at h;cases m<;>first|rfl|cases h
  unfold GA at hp;rw[hm]at hp;cases os with
  |nil=>cases hp
  |cons o os =>
   cases ep:GA md.tail xs os with
   |none=>simp only[ep,wU]at hp;cases hp
   |some us=>simp only[ep,qA,Qr]at hp;subst hp;obtain⟨h1,h2⟩:=ih k k2 ep;refine⟨.chg hm h1,?_⟩;unfold CB;rw[hm];simp only[h2]
 |@new md v vs x xs Z W W' Y h r t n q ih =>
  intro os ts hp;have r':Tr K F1 H false v (.d x.er) (fun _=>False):=.d (r.kept e fun b u hb eu=>by rw[k b ((q b).mpr (.inl hb))];exact eu) fun _ z=>z;have ihk:=@ih (fun b hb=>k b ((q b).mpr (.inr hb))) k2;unfold GA at hp;cases hm:md.headD .nk with
  |chg=>rw[hm]at h;cases h
  |nk =>
   simp only[hm,vA]at hp;cases ep:GA md.tail xs os with
   |none=>simp only[ep,wU]at hp;cases hp
   |some us=>simp only[ep,qA,Qr]at hp;subst hp;obtain⟨h1,h2⟩:=ihk ep;exact⟨.rd (by rw[hm];simp) r' (fun _ z=>z.elim) h1,by unfold CB;rw[hm];exact h2⟩
  |nq =>
   simp only[hm,vA]at hp;cases es:AC (.d x.er) with
   |none=>simp only[es]at hp;cases hp
   |some u =>
    simp only[es]at hp;cases ep:GA md.tail xs os with
    |none=>simp only[ep,wU]at hp;cases hp
    |some us=>simp only[ep,qA,Qr]at hp;subst hp;obtain⟨h1,h2⟩:=ihk ep;exact⟨.rd (by rw[hm];simp) (r'.nq es) (fun _ z=>z.elim) h1,by unfold CB;rw[hm];exact h2⟩
  |nj =>
   simp only[hm,vA]at hp;cases ep:GA md.tail xs os with
   |none=>simp only[ep,wU]at hp;cases hp
   |some us=>simp only[ep,qA,Qr]at hp;subst hp;obtain⟨h1,h2⟩:=ihk ep;exact⟨.rd (by rw[hm];simp) r' (fun _ z=>z.elim) h1,by unfold CB;rw[hm];exact h2⟩
 |@tmp md v vs x xs Z W Y h r z t ih =>
  intro os ts hp;have r':Tr K F1 H false v x Z:=r.mono e fun b hb=>⟨rfl,k2 b (z b hb) (r.dom b hb).2⟩
  have ihk:=@ih k k2;unfold GA at hp;cases hm:md.headD .nk with
  |chg=>rw[hm]at h;cases h
  |nk =>
   simp only[hm,vA]at hp;cases x with
   |d x =>
    cases ep:GA md.tail xs os with
    |none=>simp only[ep,wU]at hp;cases hp
    |some us=>simp only[ep,qA,Qr]at hp;subst hp;obtain⟨h1,h2⟩:=ihk ep;exact⟨.rd (by rw[hm];simp) r' z h1,by unfold CB;rw[hm];exact h2⟩
   |_=>cases hp
  |nq =>
   simp only[hm,vA]at hp;cases es:AC x with
   |none=>simp only[es]at hp;cases hp
   |some u =>
    simp only[es]at hp;cases ep:GA md.tail xs os with
    |none=>simp only[ep,wU]at hp;cases hp
    |some us=>simp only[ep,qA,Qr]at hp;subst hp;obtain⟨h1,h2⟩:=ihk ep;exact⟨.rd (by rw[hm];simp) (r'.nq es) z h1,by unfold CB;rw[hm];exact h2⟩
  |nj =>
   simp only[hm,vA]at hp;cases ep:GA md.tail xs os with
   |none=>simp only[ep,wU]at hp;cases hp
   |some us=>simp only[ep,qA,Qr]at hp;subst hp;obtain⟨h1,h2⟩:=ihk ep;exact⟨.rd (by rw[hm];simp) r' z h1,by unfold CB;rw[hm];exact h2⟩
theorem clear_get:∀(J:List Nat) (ρ:yA) (i:Nat) s,(clear J ρ)[i]?=some (some s)->i∉J/\ρ[i]?=some (some s)
 |[],ρ,i,s,h=>⟨(by simp),h⟩
 |j::J,ρ,i,s,h=>by
  unfold clear at h;obtain⟨h1,h2⟩:=clear_get J _ i s h;rcases xA h2 with⟨_,e,_⟩| ⟨n,h3⟩
  cases e;exact⟨fun m=>(QI.mp m).elim (fun e=>n e.symm) h1,h3⟩
theorem clear_len:∀(J:List Nat) (ρ:yA),(clear J ρ).length=ρ.length
 |[],_=>rfl
 |j::J,ρ=>by unfold clear;rw[clear_len J];simp
theorem Rl.drop(I:Rl K F H S ρ σ)(hl:ρ1.length=ρ.length)(h:∀(i:Nat) s,ρ1[i]?=some (some s)->ρ[i]?=some (some s)):Rl K F H S ρ1 σ :=
 ⟨I.fh,hl.trans I.len,fun i s e=>I.sl i s (h i s e),fun i j t s n e1 e2=>I.dj i j t s n (h i _ e1) (h j _ e2)⟩
theorem ownsAt_some:∀{J:List Nat}{ρ:yA}{os:List T},vB J ρ=some os->os.length=J.length/\∀(i:Nat) j,J[i]?=some j->∃t,os[i]?=some t/\ρ[j]?=some (some (.own t))
 |[],ρ,os,h=>by simp only[vB,Qr]at h;subst h;exact⟨rfl,fun i j e=>by simp at e⟩
 |j::J,ρ,os,h=>by
  unfold vB at h;split at h;rename_i t e;cases eo:vB J ρ with
  |none=>rw[eo]at h;cases h
  |some us =>
   rw[eo]at h;injection h with h;subst h;obtain⟨h1,h2⟩:=ownsAt_some eo;refine⟨by simp[h1],fun i k hk=>?_⟩;cases i with
   |zero=>simp at hk;subst hk;exact⟨t,rfl,e⟩
   |succ i=>obtain⟨u,g1,g2⟩:=h2 i k (by simpa using hk);exact⟨u,by simpa using g1,g2⟩
  cases h
theorem Rl.trs(I:Rl K F H S ρ σ):∀{J:List Nat}{os:List T}{vs:List V},J.Nodup->vB J ρ=some os->vs.map (fun v=>some (some v))=J.map (fun j=>σ[j]?)->Trs K F H true vs os (fun b=>∃j∈J,S j b)
 |[],os,vs,_,h,hv=>by
  simp only[vB,Qr]at h;subst h;cases vs with
  |nil=>exact .nil fun b ⟨j,hj,_⟩=>by simp at hj
  |cons _ _=>simp at hv
 |j::J,os,vs,nd,h,hv=>by
  unfold vB at h;split at h;rename_i t e;cases eo:vB J ρ with
  |none=>rw[eo]at h;cases h
  |some us =>
   rw[eo]at h;injection h with h;subst h;cases vs with
   |nil=>simp at hv
   |cons v vs =>
    simp only[QS,qj]at hv;obtain⟨v',g1,g2⟩:=I.sl j _ e;rw[g1]at hv;have:v=v':=by simpa using hv.1
    subst this;have nd':=wB.mp nd;refine .cons g2 (Rl.trs I nd'.2 eo hv.2) (fun b hb ⟨k,hk,z⟩=>?_) fun b=>?_;obtain⟨i,hi⟩:=WZ.mp hk;obtain⟨u,_,hu⟩:=(ownsAt_some eo).2 i k hi;exact I.dj j k t _ (fun z=>nd'.1 (z▸hk)) e hu b hb z;constructor
    ·rintro⟨k,hk,z⟩
     rcases QI.mp hk with e|e;subst e;exact .inl z;exact .inr ⟨k,e,z⟩
    rintro(z|⟨k,hk,z⟩)
    ·exact⟨j,QM,z⟩
    exact⟨k,QJ _ hk,z⟩
  cases h
theorem Rl.setO(I:Rl K F H S ρ σ)(i:Nat){v:V}{t:T}{Z:KA}(hv:σ[i]?=some (some v))(r:Tr K F H true v t Z)(hz:∀(j:Nat) s,j≠i->ρ[j]?=some (some s)->∀b,Z b->¬ S j b):Rl K F H (updF S i Z) (ρ.set i (some (.own t))) σ where
 fh:=I.fh
 len:=by simpa using I.len
 sl:=fun j s h=>by
  rcases xA h with⟨rfl,e,hl⟩| ⟨hn,h⟩
  cases e;exact⟨v,hv,by rw[kB];exact r⟩;rw[UA (Q4 hn)];exact I.sl j s h
 dj:=fun j k t' s n h1 h2 b hb hk=>by
  rcases xA h1 with⟨e,_,_⟩| ⟨n1,h1⟩
  subst e;rw[kB]at hb;rcases xA h2 with⟨e,_,_⟩| ⟨n2,h2⟩
  exact n e;rw[UA (Q4 n2)]at hk;exact hz k s (Q4 n2) h2 b hb hk;rw[UA (Q4 n1)]at hb;rcases xA h2 with⟨e,_,_⟩| ⟨n2,h2⟩
  subst e;rw[kB]at hk;exact hz j _ n h1 b hk hb;rw[UA (Q4 n2)]at hk;exact I.dj j k t' s n h1 h2 b hb hk
theorem putOwns_ok:∀{J:List Nat}{os:List T}{vs:List V}{M:KA}{S1:Ft}{ρ1 ρ2:yA},J.Nodup->Rl K F H S1 ρ1 σ->Trs K F H true vs os M->vs.map (fun v=>some (some v))=J.map (fun j=>σ[j]?)->Held F H S1 ρ1 M->LC J os ρ1=some ρ2 ->
  ∃S2,Rl K F H S2 ρ2 σ/\(∀i,i∉J->ρ2[i]?=ρ1[i]?/\S2 i=S1 i)/\∀i∈J,∀s,ρ2[i]?=some (some s)->(∃t,s=.own t)/\∀b,S2 i b->M b
 |[],os,vs,M,S1,ρ1,ρ2,nd,I,r,hv,hm,h=>by
  cases os with
  |nil=>simp only[LC,Qr]at h;subst h;exact⟨S1,I,fun _ _=>⟨rfl,rfl⟩,fun i hi=>by simp at hi⟩
  |cons _ _=>simp[LC]at h
 |j::J,os,vs,M,S1,ρ1,ρ2,nd,I,r,hv,hm,h=>by
  cases r with
  |nil _=>simp[LC]at h
  |@cons _ v t vs ts _ Z M' r1 r2 n q =>
   simp only[LC]at h;simp only[QS,qj]at hv;have nd':=wB.mp nd;have I2:=I.setO j hv.1.symm r1 fun k s _ hk b hb=>hm.nw k s hk b ((q b).mpr (.inl hb));have hm2:Held F H (updF S1 j Z) (ρ1.set j (some (.own t))) M':=⟨fun b hb=>hm.dom b ((q b).mpr (.inr hb)),fun i s hi b hb z=>by
    rcases xA hi with⟨rfl,_,_⟩| ⟨ne,hi⟩
    rw[kB]at z;exact n b z hb;rw[UA (Q4 ne)]at z;exact hm.nw i s hi b ((q b).mpr (.inr hb)) z⟩
   obtain⟨S2,g1,g2,g3⟩:=putOwns_ok nd'.2 I2 r2 hv.2 hm2 h;refine⟨S2,g1,fun i hi=>?_,fun i hi s hs=>?_⟩;have ni:j≠i:=fun e=>hi (e▸QM);obtain⟨e1,e2⟩:=g2 i fun m=>hi (QJ _ m);rw[set_ne ni]at e1;rw[UA (Q4 ni)]at e2;exact⟨e1,e2⟩;rcases QI.mp hi with e|e
   ·subst e
    obtain⟨e1,e2⟩:=g2 i nd'.1;rw[e1]at hs;rcases xA hs with⟨_,e,_⟩| ⟨ne,_⟩
    injection e with e;refine⟨⟨t,e⟩,fun b hb=>?_⟩;rw[e2,kB]at hb;exact(q b).mpr (.inl hb);exact absurd rfl ne
   obtain⟨h1,h2⟩:=g3 i e s hs;exact⟨h1,fun b hb=>(q b).mpr (.inr (h2 b hb))⟩
theorem call_ok{f:Str}{as:PX}(g:GOk K Γ Ψ)(ia:PSnd K Γ Ψ as)(I:Rl K F H S ρ σ)(X:XOk K F H S ρ E EK){Q:TK}{R:VK}{ws:List Nat}(h:(pe Ψ (.call f as) E).e ρ Q)(k:eB K ws F H S ρ σ Q R):(wp K Γ (.call f as) EK).e σ H R:=by
 obtain⟨os,ho,nd,h⟩:=h;generalize hJ:cA (Ψ.sp f).md as=J at ho nd h;have own:∀j∈J,∃t,ρ[j]?=some (some (.own t)):=fun j hj=>by obtain⟨i,hi⟩:=WZ.mp hj;obtain⟨t,_,e⟩:=(ownsAt_some ho).2 i j hi;exact⟨t,e⟩
 have I0:Rl K F H S (clear J ρ) σ:=I.drop (clear_len J ρ) fun i s e=>(clear_get J ρ i s e).2;have u0:∀b,U (clear J ρ) S b->U ρ S b:=fun b ⟨i,t,h1,h2⟩=>⟨i,t,(clear_get J ρ i _ h1).2,h2⟩
 have X0:XOk K F H S (clear J ρ) E EK:=fun x dx F2 H2 S2 ρ2 s2 ff r q=>X x dx F2 H2 (fun _ _=>False) [] ⟨s2.ff,fun b u e n=>s2.hh b u e fun z=>n (u0 b z),s2.dm,fun b e z=>(s2.fn b e z).imp (u0 b) id,fun b ⟨i,t,e,_⟩=>by simp at e,fun j t e=>by simp at e⟩ ff r q;have hm:∀j∈cA (Ψ.sp f).md as,∃v,σ[j]?=some (some v):=fun j hj=>by obtain⟨t,e⟩:=own j (hJ▸hj);obtain⟨v,h1,_⟩:=I.sl j _ e;exact⟨v,h1⟩
 show(wp K Γ as EK).a σ H fun vs H1=>Γ.sp f vs H1 R EK;refine ia.a I0 X0 hm h fun vs F1 H1 S1 ρ1 xs W Y s1 I1 r1 mv q1=>?_;rw[hJ]at mv;obtain⟨ts,hp,q1⟩:=q1;have hw:=r1.held;have s2:=s1.frz (fun b hb=>(hw.dom b hb).2) r1.fr;have I2:=I1.frz hw;have yk:∀b,Y b->F1 b=none->frzH F1 H1 W b=none:=fun b hy hf=>by obtain⟨i,sl,_,h2,h3⟩:=r1.tm b hy;rw[PC fun z=>r1.nw i sl h2 b z h3];exact hf
 obtain⟨ar,mt⟩:=r1.av.pass (frzH_ff fun b hb=>(hw.dom b hb).2) (fun b hb=>frzH_in hb) yk hp;generalize frzH F1 H1 W=F2 at s2 I2 yk ar;have M0:=I.trs nd ho mv;have hM:Held F H S (clear J ρ) (fun b=>∃j∈J,S j b):=⟨fun b ⟨j,hj,hb⟩=>let⟨t,e⟩:=own j hj;I.dom e hb,fun i s e b ⟨j,hj,hb⟩ z=>by obtain⟨e1,e2⟩:=clear_get J ρ i s e;obtain⟨t,et⟩:=own j hj;exact I.dj j i t s (fun q=>e1 (q▸hj)) et e2 b hb z⟩
 have hM2:=hM.step s2.toStp I2;have M2:Trs K F2 H1 true (xB (Ψ.sp f).md vs) (CB (Ψ.sp f).md ts) (fun b=>∃j∈J,S j b):=by
  rw[mt];refine M0.mono s2.ff fun b hb=>?_;refine⟨?_,(hM2.dom b hb).2⟩;cases e:H b with
  |none=>exact absurd e (hM.dom b hb).1
  |some u=>exact s2.hh b u e (hM.nu b hb)
 refine g.sp f vs H1 R EK ⟨F2,ts,_,Y,I2.fh,ar,M2,fun b hy hb=>?_,?_⟩;obtain⟨i,sl,_,h2,h3⟩:=r1.tm b hy;exact hM2.nw i sl h2 b hb h3
 ·have up:∀b,(∃j∈J,S j b)->U ρ S b:=fun b ⟨j,hj,hb⟩=>let⟨t,e⟩:=own j hj;⟨j,t,e,hb⟩
  have lk:∀b,(∃j∈J,S j b)∨H1 b=none->U ρ S b∨H b=none:=fun b hb=>hb.imp (up b) (s2.dm b);refine(Ψ.sp f).mono ?_ ?_ q1
  rotate_left
  rintro x qx dx F' H' fm xr;refine X x dx F' H' (fun _ _=>False) [] ⟨s2.ff.trans fm.ff,fun b u e n=>fm.hh b u (s2.hh b u e fun z=>n (u0 b z)) fun z=>n (up b z),fun b e=>s2.dm b (fm.dm b e),fun b e z=>?_,fun b ⟨i,t,e,_⟩=>by simp at e,fun j t e=>by simp at e⟩ fm.fh xr qx;by_cases q:F2 b=none;exact lk b (fm.fn b q z);exact(s2.fn b e q).imp (u0 b) id;rintro r os' ⟨ρ2,hput,q⟩ v F' H' Z M' fm tr trs dz hf;have I3:Rl K F' H' S1 ρ1 σ:=⟨fm.fh,I2.len,fun i s e=>by
   obtain⟨w,g1,g2⟩:=I2.sl i s e;refine⟨w,g1,g2.mono fm.ff fun b hb=>?_⟩;obtain⟨d1,d2⟩:=g2.dom b hb;have nM:¬ ∃j∈J,S j b:=fun z=>hM2.nw i s e b z hb;refine⟨?_,?_⟩;cases e:H1 b with
   |none=>exact absurd e d1
   |some u=>exact fm.hh b u e nM
   by_cases z:F' b=none
   ·exact z
   exact((fm.fn b d2 z).elim nM d1).elim,I2.dj⟩
  have nw3:∀b,(∃j∈J,S j b)∨H1 b=none->∀(i:Nat) s,ρ1[i]?=some (some s)->¬ S1 i b:=fun b hb i s e z=>by rcases hb with hb|hb;exact hM2.nw i s e b hb z;exact(I2.dom e z).1 hb
  have hM':Held F' H' S1 ρ1 M':=⟨trs.dom,fun i s e b hb=>nw3 b (hf b (.inr hb)) i s e⟩
  obtain⟨S2,I4,g2,g3⟩:=putOwns_ok nd I3 trs mv hM' hput;have inJ:∀i s,ρ2[i]?=some (some s)->(i∈J/\(∃t,s=.own t)/\∀b,S2 i b->M' b)∨(i∉J/\ρ1[i]?=some (some s)/\S2 i=S1 i):=fun i s e=>by by_cases hi:i∈J;exact .inl ⟨hi,g3 i hi s e⟩;obtain⟨e1,e2⟩:=g2 i hi;exact .inr ⟨hi,e1▸e,e2⟩
  have st:Ste F H S ρ F' H' S2 ρ2:=⟨⟨s2.ff.trans fm.ff,fun b u e n=>fm.hh b u (s2.hh b u e fun z=>n (u0 b z)) fun z=>n (up b z),fun b e=>s2.dm b (fm.dm b e),fun b e z=>by
    by_cases q:F2 b=none;exact lk b (fm.fn b q z);exact(s2.fn b e q).imp (u0 b) id,
   fun b ⟨i,t,h1,h2⟩=>by
    rcases inJ i _ h1 with⟨_,_,e⟩| ⟨_,e1,e2⟩
    exact lk b (hf b (.inr (e b h2)));rw[e2]at h2;exact(s2.uu b ⟨i,t,e1,h2⟩).imp (u0 b) id,
   fun j t e hd=>by
    rcases inJ j _ e with⟨_,⟨t',z⟩,_⟩| ⟨_,e1,e2⟩
    cases z;obtain⟨b1,b2⟩:=s2.bo j t e1 hd;exact⟨(clear_get J ρ j _ b1).2,e2.trans b2⟩⟩,
   fun j t e=>by
    rcases inJ j _ e with⟨hj,_,_⟩| ⟨_,e1,e2⟩
    exact own j hj;obtain⟨t0,e0⟩:=s2.ow j t e1;exact⟨t0,(clear_get J ρ j _ e0).2⟩⟩
  refine k v F' H' S2 ρ2 r true Z st I4 ⟨tr,fun _ b hb=>?_,fun z=>(by cases z),fun _ i s e b hb z=>?_⟩ q;exact(lk b (hf b (.inl hb))).symm;rcases inJ i s e with⟨_,_,e2⟩| ⟨_,e1,e2⟩
  ·exact dz b hb (e2 b z)
  rw[e2]at z;exact nw3 b (hf b (.inl hb)) i s e1 z
end
section
variable{K:QA}{Γ:Ev}{Ψ:PEv}{E:XE}{EK:XK}{F H F1 H1:Hp}{S S1:Ft}{ρ ρ1:yA}{σ:St}
theorem CC{j:Nat}{t:T}(hj:ρ[j]?=some (some (.own t))){i:Nat}{s:Sl}(h:(ρ.set j (some (.nj t)))[i]?=some (some s)):(i=j/\s=.nj t)∨(i≠j/\ρ[i]?=some (some s)):=by
 rcases xA h with⟨rfl,e,_⟩| ⟨n,h⟩
 injection e with e;exact .inl ⟨rfl,e⟩;exact .inr ⟨Q4 n,h⟩
theorem Rl.lock1(I:Rl K F H S ρ σ){j:Nat}{t:T}(hj:ρ[j]?=some (some (.own t))):Rl K F H S (ρ.set j (some (.nj t))) σ where
 fh:=I.fh
 len:=by simpa using I.len
 sl:=fun i s e=>by
  rcases CC hj e with⟨rfl,rfl⟩| ⟨_,e⟩
  obtain⟨v,h1,h2⟩:=I.sl i _ hj;exact⟨v,h1,h2.weak⟩;exact I.sl i s e
 dj:=fun i k t' s n e1 e2=>by
  rcases CC hj e1 with⟨_,z⟩| ⟨n1,g1⟩
  cases z;rcases CC hj e2 with⟨q,_⟩| ⟨_,g2⟩
  ·exact I.dj i k t' _ n g1 (q▸hj)
  exact I.dj i k t' s n g1 g2
theorem Rl.lock1U(I:Rl K F H S ρ σ){j:Nat}{t:T}(hj:ρ[j]?=some (some (.own t)))(b:Addr)(hb:S j b):¬ U (ρ.set j (some (.nj t))) S b:=fun⟨i,u,h1,h2⟩=>by
 rcases CC hj h1 with⟨_,z⟩| ⟨n,h1⟩
 cases z;exact I.dj i j u _ n h1 hj b h2 hb
theorem lock1U{j:Nat}{t:T}(hj:ρ[j]?=some (some (.own t))){b:Addr}(h:U (ρ.set j (some (.nj t))) S b):U ρ S b:=by
 obtain⟨i,u,h1,h2⟩:=h;rcases CC hj h1 with⟨_,z⟩| ⟨n,h1⟩
 cases z;exact⟨i,u,h1,h2⟩
theorem XOk.lock1{j:Nat}{t:T}(X:XOk K F H S ρ E EK)(hj:ρ[j]?=some (some (.own t))):XOk K F H S (ρ.set j (some (.nj t))) E EK:=fun x dx F2 H2 S2 ρ2 s2 f r q =>
 X x dx F2 H2 (fun _ _=>False) [] ⟨s2.ff,fun b u e n=>s2.hh b u e fun z=>n (lock1U hj z),s2.dm,fun b e z=>(s2.fn b e z).imp (lock1U hj) id,fun b ⟨i,t,e,_⟩=>by simp at e,fun j t e=>by simp at e⟩ f r q
theorem lock1_nw{j:Nat}{t:T}{F2 H2:Hp}{S2:Ft}{ρ2:yA}(I:Rl K F H S ρ σ)(hj:ρ[j]?=some (some (.own t)))(s:Ste F H S (ρ.set j (some (.nj t))) F2 H2 S2 ρ2)(I2:Rl K F2 H2 S2 ρ2 σ){b:Addr}(hb:S j b) :
  ∀(i:Nat) sl,i≠j->ρ2[i]?=some (some sl)->¬ S2 i b:=fun i sl n e z=>by
 cases sl with
 |own u=>rcases s.uu b ⟨i,u,e,z⟩ with q|q;exact I.lock1U hj b hb q;exact(I.dom hj hb).1 q
 |nj u =>
  cases hd:u.isD with
  |true=>exact I2.isD e hd z
  |false =>
   obtain⟨e1,e2⟩:=s.bo i u e hd;rw[e2]at z;rcases CC hj e1 with⟨q,_⟩| ⟨_,e1⟩
   exact n q;exact I.dj j i t _ (Q4 n) hj e1 b hb z
theorem put_root{j:Nat}{t t':T}{v0:V}{F2 H2 H3:Hp}{S2:Ft}{ρ2:yA}{W Z':KA}(I:Rl K F H S ρ σ)(hj:ρ[j]?=some (some (.own t)))(hv:σ[j]?=some (some v0))(s:Ste F H S (ρ.set j (some (.nj t))) F2 H2 S2 ρ2)(I2:Rl K F2 H2 S2 ρ2 σ)
  (hH:∀b u,H2 b=some u->¬ S j b->H3 b=some u) (dm:∀b,H3 b=none->H2 b=none) (r:Tr K F2 H3 true v0 t' Z') (hz:∀b,Z' b->S j b∨W b∨H2 b=none) (hw:Held F2 H2 S2 ρ2 W) (frW:∀b,W b->H b=none∨U (ρ.set j (some (.nj t))) S b) :
  Ste F H S ρ F2 H3 (updF S2 j Z') (ρ2.set j (some (.own t')))/\Rl K F2 H3 (updF S2 j Z') (ρ2.set j (some (.own t'))) σ/\∀b,S j b∨W b∨H2 b=none->∀(i:Nat) sl,i≠j->ρ2[i]?=some (some sl)->¬ S2 i b:=by
 have nw:∀b,S j b∨W b∨H2 b=none->∀(i:Nat) sl,i≠j->ρ2[i]?=some (some sl)->¬ S2 i b:=fun b hb i sl n e z=>by rcases hb with hb|hb|hb;exact lock1_nw I hj s I2 hb i sl n e z;exact hw.nw i sl e b hb z;exact(I2.dom e z).1 hb
 have uj:∀b,S j b->U ρ S b:=fun b hb=>⟨j,t,hj,hb⟩
 have lk:∀b,S j b∨W b∨H2 b=none->U ρ S b∨H b=none:=fun b hb=>by rcases hb with hb|hb|hb;exact .inl (uj b hb);exact(frW b hb).symm.imp (lock1U hj) id;exact .inr (s.dm b hb)
 have fS:∀b,S j b->F2 b=none:=fun b hb=>by
  by_cases q:F2 b=none;exact q;rcases s.fn b (I.dom hj hb).2 q with z|z
  ·exact absurd z (I.lock1U hj b hb)
  exact absurd z (I.dom hj hb).1
 have fh:Same F2 H3:=fun b u e=>hH b u (I2.fh b u e) fun z=>by rw[fS b z]at e;cases e
 have I3:Rl K F2 H3 S2 (ρ2.set j none) σ:=⟨fh,by simpa using I2.len,fun i sl e=>by
   rcases xA e with⟨_,z,_⟩| ⟨n,e⟩
   cases z;obtain⟨v,h1,h2⟩:=I2.sl i sl e;refine⟨v,h1,h2.mono (.refl _) fun b hb=>⟨?_,(h2.dom b hb).2⟩⟩;cases eb:H2 b with
   |none=>exact absurd eb (h2.dom b hb).1
   |some u=>exact hH b u eb fun z=>lock1_nw I hj s I2 z i sl (Q4 n) e hb,
  fun i k u sl n e1 e2=>by
   rcases xA e1 with⟨_,z,_⟩| ⟨_,e1⟩
   cases z;rcases xA e2 with⟨_,z,_⟩| ⟨_,e2⟩
   ·cases z
   exact I2.dj i k u sl n e1 e2⟩
 have I4:=I3.setO j hv r fun i sl n e b hb=>by
  rcases xA e with⟨_,z,_⟩| ⟨_,e⟩
  cases z;exact nw b (hz b hb) i sl n e
 have es:(ρ2.set j none).set j (some (.own t'))=ρ2.set j (some (.own t')):=by simp
 rw[es]at I4;refine⟨⟨⟨s.ff,fun b u e n=>hH b u (s.hh b u e fun z=>n (lock1U hj z)) fun z=>n (uj b z),fun b e=>s.dm b (dm b e),fun b e z=>(s.fn b e z).imp (lock1U hj) id,fun b ⟨i,u,h1,h2⟩=>?_,fun i u e hd=>?_⟩,fun i u e=>?_⟩,I4,nw⟩;rcases xA h1 with⟨rfl,_,_⟩| ⟨n,h1⟩
 ·rw[kB]at h2
  exact lk b (hz b h2)
 rw[UA (Q4 n)]at h2;exact(s.uu b ⟨i,u,h1,h2⟩).imp (lock1U hj) id;rcases xA e with⟨rfl,z,_⟩| ⟨n,e⟩
 ·cases z
 obtain⟨e1,e2⟩:=s.bo i u e hd;rcases CC hj e1 with⟨z,_⟩| ⟨_,e1⟩
 exact absurd z.symm n;exact⟨e1,by rw[UA (Q4 n)];exact e2⟩;rcases xA e with⟨rfl,_,_⟩| ⟨n,e⟩
 ·exact⟨t,hj⟩
 obtain⟨t0,e0⟩:=s.ow i u e;rcases CC hj e0 with⟨_,z⟩| ⟨_,e0⟩
 cases z;exact⟨t0,e0⟩
theorem chg_lst{a:Addr}{ys:List V}{us:List T}{P:KA}(fa:F a=none)(r:Trs K F H true ys us P)(n:¬ P a):Tr K F (FB H a (.lst ys)) true (.ref a) (.lst us) fun b=>b=a∨P b :=
 .lst (S':=P) nB fa (r.mono (.refl _) fun b hb=>⟨fA fun z=>n (z▸hb),(r.dom b hb).2⟩) n fun b=>w8
theorem upd_other{a:Addr}{u0:HO}{Sp:KA}(ha:Sp a)(b:Addr)(u:HO)(e:H b=some u)(hb:¬ Sp b):FB H a u0 b=some u:=by have hn:b≠a:=fun z=>hb (by rw[z];exact ha);rw[fA hn];exact e
theorem upd_none{a:Addr}{u0:HO}(b:Addr)(e:FB H a u0 b=none):H b=none:=by by_cases hb:b=a;rw[hb,nB]at e;cases e;rw[fA hb]at e;exact e
theorem Trs.cutT:∀{vs:List V}{ts:List T}{Z:KA}(n:Nat),Trs K F H true vs ts Z->∃P1 P2,Trs K F H true (vs.take n) (ts.take n) P1/\Trs K F H true (vs.drop n) (ts.drop n) P2/\(∀b,P1 b->¬ P2 b)/\∀b,P1 b∨P2 b->Z b
 |_,_,_,0,h=>⟨fun _=>False,_,.nil fun _ z=>z,h,fun _ z=>z.elim,fun _ z=>z.elim QT id⟩
 |[],_,_,n+1,h=>by cases h;exact⟨fun _=>False,fun _=>False,.nil fun _ z=>z,.nil fun _ z=>z,fun _ z=>z.elim,fun _ z=>z.elim QT QT⟩
 |v::vs,_,_,n+1,h=>by
  cases h with
  |@cons _ _ _ _ _ _ S1 S2 r rs nn q=>obtain⟨P1,P2,p1,p2,p3,p4⟩:=Trs.cutT n rs;exact⟨fun b=>S1 b∨P1 b,P2,.cons r p1 (fun b hb z=>nn b hb (p4 b (.inl z))) fun b=>w8,p2,fun b hb z=>hb.elim (fun y=>nn b y (p4 b (.inr z))) fun y=>p3 b y z,fun b hb=>(q b).mpr (hb.elim (fun y=>y.elim .inl fun y=>.inr (p4 b (.inl y))) fun y=>.inr (p4 b (.inr y)))⟩
theorem mut_okT{m:Mt}{v:V}{s:T}{Sp W:KA}{vs:List V}{ts:List T}{N:T->T->Prop}{R:VK}(f:Same F H)(r:Tr K F H true v s Sp)(rv:Trs K F H true vs ts W)(dj:∀b,Sp b->¬ W b)(h:mutT m s ts N)
  (k:∀w r s' H' S1 Zr,(∀b u,H b=some u->¬ Sp b->H' b=some u)->(∀b,H' b=none->H b=none)->Tr K F H' true v s' S1->Tr K F H' true w r Zr->(∀b,Zr b->¬ S1 b)->(∀b,S1 b∨Zr b->Sp b∨W b∨H b=none)->N r s'->R w H'):mtR K m v vs H R:=by
 cases m with
 |append =>
  obtain⟨us0,t0,rfl,rfl,h⟩:=h;cases r with
  |@lst _ a xs _ _ S' h1 h2 h3 h4 h5 =>
   have ha:Sp a:=(h5 a).mpr (.inl rfl);cases rv with
   |@cons _ w t ws us _ W1 W2 r1 r2 n q =>
    cases r2 with
    |nil n2 =>
     have hW:∀b,W b↔W1 b:=fun b=>by rw[q b];simp[n2 b]
     refine⟨xs,h1,by rw[h3.length];exact h.1,k .non (.d .none) _ _ _ (fun _=>False) (upd_other ha) upd_none (chg_lst h2 (Trs.append h3 (Trs.one r1) fun b hb hw=>dj b ((h5 b).mpr (.inr hb)) ((hW b).mpr hw)) fun z=>z.elim h4 fun z=>dj a ha ((hW a).mpr z)) (.d .non fun _ z=>z) (fun _ z=>z.elim) (fun b hb=>?_) h.2⟩;rcases hb with(hb|hb|hb)|hb;exact .inl (hb▸ha);exact .inl ((h5 b).mpr (.inr hb));exact .inr (.inl ((hW b).mpr hb));exact hb.elim
 |extend =>
  obtain⟨us0,vs0,rfl,rfl,h⟩:=h;cases r with
  |@lst _ a xs _ _ S' h1 h2 h3 h4 h5 =>
   have ha:Sp a:=(h5 a).mpr (.inl rfl);cases rv with
   |@cons _ w t ws us _ W1 W2 r1 r2 n q =>
    cases r2 with
    |nil n2 =>
     have hW:∀b,W b↔W1 b:=fun b=>by rw[q b];simp[n2 b]
     cases r1 with
     |@lst _ c zs _ _ S2 g1 g2 g3 g4 g5=>have dw:∀b,S2 b->W b:=fun b hb=>(hW b).mpr ((g5 b).mpr (.inr hb));refine⟨a,c,xs,zs,rfl,rfl,h1,g1,by rw[h3.length,g3.length];exact h.1,k .non (.d .none) _ _ _ (fun _=>False) (upd_other ha) upd_none (chg_lst h2 (Trs.append h3 g3 fun b hb hw=>dj b ((h5 b).mpr (.inr hb)) (dw b hw)) fun z=>z.elim h4 fun z=>dj a ha (dw a z)) (.d .non fun _ z=>z) (fun _ z=>z.elim) (fun b hb=>?_) h.2⟩;rcases hb with(hb|hb|hb)|hb;exact .inl (hb▸ha);exact .inl ((h5 b).mpr (.inr hb));exact .inr (.inl (dw b hb));exact hb.elim
 |clear=>exact h.elim
 |insert =>
  obtain⟨us0,i,t0,rfl,rfl,hi,hl,h⟩:=h;cases r with
  |@lst _ a xs _ _ S' h1 h2 h3 h4 h5 =>
   have ha:Sp a:=(h5 a).mpr (.inl rfl);cases rv with
   |@cons _ w t ws us _ W1 W2 r1 r2 n q =>
    cases r1 with
    |d r1 n1 =>
     cases r1;cases r2 with
     |@cons _ w2 _ ws2 _ _ W3 W4 r3 r4 n3 q3 =>
      cases r4 with
      |nil n4 =>
       have hW:∀b,W b↔W3 b:=fun b=>by rw[q b,q3 b];simp[n1 b,n4 b]
       obtain⟨P1,P2,p1,p2,p3,p4⟩:=Trs.cutT i.toNat h3;have e3:=h3.length;refine⟨a,i,w2,xs,rfl,rfl,h1,by omega,by omega,k .non (.d .none) _ _ _ (fun _=>False) (upd_other ha) upd_none (chg_lst h2 (Trs.append p1 (.cons r3 p2 (fun b hb hw=>dj b ((h5 b).mpr (.inr (p4 b (.inr hw)))) ((hW b).mpr hb)) fun b=>w8) fun b hb hw=>hw.elim (fun z=>dj b ((h5 b).mpr (.inr (p4 b (.inl hb)))) ((hW b).mpr z)) (p3 b hb)) fun z=>?_) (.d .non fun _ z=>z) (fun _ z=>z.elim) (fun b hb=>?_) h⟩;rcases z with z|z|z
       ·exact h4 (p4 a (.inl z))
       exact dj a ha ((hW a).mpr z);exact h4 (p4 a (.inr z));rcases hb with(hb|hb|hb|hb)|hb
       ·exact .inl (hb▸ha)
       exact .inl ((h5 b).mpr (.inr (p4 b (.inl hb))));exact .inr (.inl ((hW b).mpr hb));exact .inl ((h5 b).mpr (.inr (p4 b (.inr hb))));exact hb.elim
 |_=>exact h.elim
theorem Trs.setD{x:D}{xv:V}(rx:Rep K F xv x):∀{vs:List V}{ts:List T}{Z:KA}(n:Nat),Trs K F H true vs ts Z->∃P,Trs K F H true (vs.set n xv) (ts.set n (.d x)) P/\∀b,P b->Z b
 |[],_,_,n,h=>by cases h;exact⟨fun _=>False,.nil fun _ z=>z,fun _ z=>z.elim⟩
 |v::vs,_,_,n,h=>by
  cases h with
  |@cons _ _ _ _ _ _ S1 S2 r rs nn q =>
   cases n with
   |zero=>exact⟨fun b=>False∨S2 b,.cons (.d rx fun _ z=>z) rs (fun _ z=>z.elim) fun b=>w8,fun b hb=>(q b).mpr (.inr (hb.elim QT id))⟩
   |succ n=>obtain⟨P,p1,p2⟩:=Trs.setD rx n rs;exact⟨fun b=>S1 b∨P b,.cons r p1 (fun b hb z=>nn b hb (p2 b z)) fun b=>w8,fun b hb=>(q b).mpr (hb.imp id (p2 b))⟩
theorem st_okT{t:T}{y x:D}{v iv xv:V}{Sp:KA}{N:T->Prop}{R:Hp->Prop}(r:Tr K F H true v t Sp)(ry:Rep K F iv y)(rx:Rep K F xv x)(h:stT t y x N)
  (k:∀t' H' S1,(∀b u,H b=some u->¬ Sp b->H' b=some u)->(∀b,H' b=none->H b=none)->Tr K F H' true v t' S1->(∀b,S1 b->Sp b)->N t'->R H'):rSetL v iv xv H R:=by
 obtain⟨ts,i,n,rfl,rfl,hi,q⟩:=h;cases ry;cases r with
 |@lst _ a xs _ _ S' h1 h2 h3 h4 h5=>have ha:Sp a:=(h5 a).mpr (.inl rfl);obtain⟨P,p1,p2⟩:=h3.setD rx n;refine⟨a,xs,i,n,rfl,rfl,h1,by rw[h3.length];exact hi,k _ _ _ (upd_other ha) upd_none (chg_lst h2 p1 fun z=>h4 (p2 a z)) (fun b hb=>?_) q⟩;rcases hb with hb|hb;exact hb▸ha;exact(h5 b).mpr (.inr (p2 b hb))
theorem Trs.part2:∀{vs:List V}{ts:List T}{Z:KA}{i:Nat}{t:T},Trs K F H true vs ts Z->ts[i]?=some t->∃v S1,vs[i]?=some v/\Tr K F H true v t S1/\(∀b,S1 b->Z b) /\
  ∀(H':Hp) t' S1' (W:KA),(∀b,Z b->¬ S1 b->H' b=H b)->Tr K F H' true v t' S1'->(∀b,S1' b->S1 b∨W b)->(∀b,Z b->¬ W b)->∃P,Trs K F H' true vs (ts.set i t') P/\∀b,P b->Z b∨W b
 |[],_,_,i,t,h,e=>by cases h;cases e
 |v::vs,_,_,i,t,h,e=>by
  cases h with
  |@cons _ _ _ _ _ _ P1 P2 h t n q =>
   cases i with
   |zero=>cases e;exact⟨_,P1,rfl,h,fun b hb=>(q b).mpr (.inl hb),fun H' t' S1' W k r k2 nw=>⟨fun b=>S1' b∨P2 b,.cons r (t.mono (.refl _) fun b hb=>⟨k b ((q b).mpr (.inr hb)) fun z=>n b z hb,(t.dom b hb).2⟩) (fun b hb z=>(k2 b hb).elim (fun y=>n b y z) (nw b ((q b).mpr (.inr z)))) fun b=>w8,fun b hb=>hb.elim (fun y=>(k2 b y).imp (fun y=>(q b).mpr (.inl y)) id) fun y=>.inl ((q b).mpr (.inr y))⟩⟩
   |succ i=>obtain⟨v,S1,h1,h2,h3,h4⟩:=Trs.part2 (i:=i) t e;refine⟨v,S1,h1,h2,fun b hb=>(q b).mpr (.inr (h3 b hb)),fun H' t' S1' W k r k2 nw=>?_⟩;obtain⟨P,g1,g2⟩:=h4 H' t' S1' W (fun b hb hn=>k b ((q b).mpr (.inr hb)) hn) r k2 fun b hb=>nw b ((q b).mpr (.inr hb));exact⟨fun b=>P1 b∨P b,.cons (h.mono (.refl _) fun b hb=>⟨k b ((q b).mpr (.inl hb)) fun z=>n b hb (h3 b z),(h.dom b hb).2⟩) g1 (fun b hb z=>(g2 b z).elim (n b hb) (nw b ((q b).mpr (.inl hb)))) fun b=>w8,fun b hb=>hb.elim (fun y=>.inl ((q b).mpr (.inl y))) fun y=>(g2 b y).imp (fun y=>(q b).mpr (.inr y)) id⟩
theorem tup_put{v:V}{us ts:List T}{k:Nat}{Z:KA}(r:Tr K F H true v (.tup us) Z)(e:us[k]?=some (.lst ts)):∃a ws b vs S1,v=.ref a/\H a=some (.tup ws)/\Z a/\ws.length=us.length/\ws[k]?=some (.ref b)/\H b=some (.lst vs)/\Trs K F H true vs ts S1/\Z b/\(∀c,S1 c->Z c)/\¬ S1 b /\
  ∀(H':Hp) vs' ts' S1' (W:KA),(∀c,Z c->¬ S1 c->c≠b->H' c=H c)->H' b=some (.lst vs')->Trs K F H' true vs' ts' S1'->(∀c,S1' c->S1 c∨W c)->(∀c,Z c->¬ W c)->∃P,Tr K F H' true v (.tup (us.set k (.lst ts'))) P/\∀c,P c->Z c∨W c:=by
 cases r with
 |@tup _ a ws _ _ S' h1 h2 h3 h4 h5 =>
  obtain⟨w,S1,g1,g2,g3,g4⟩:=h3.part2 e;cases g2 with
  |@lst _ b vs _ _ S2 f1 f2 f3 f4 f5=>have sb:S' b:=g3 b ((f5 b).mpr (.inl rfl));have s2:∀c,S2 c->S' c:=fun c hc=>g3 c ((f5 c).mpr (.inr hc));refine⟨a,ws,b,vs,S2,rfl,h1,(h5 a).mpr (.inl rfl),h3.length,g1,f1,f3,(h5 b).mpr (.inr sb),fun c hc=>(h5 c).mpr (.inr (s2 c hc)),f4,fun H' vs' ts' S1' W k1 k2 k3 k4 nw=>?_⟩;have nb:¬ S1' b:=fun z=>(k4 b z).elim f4 (nw b ((h5 b).mpr (.inr sb)));obtain⟨P,p1,p2⟩:=g4 H' (.lst ts') (fun c=>c=b∨S1' c) W (fun c hc hn=>k1 c ((h5 c).mpr (.inr hc)) (fun z=>hn ((f5 c).mpr (.inr z))) fun z=>hn ((f5 c).mpr (.inl z))) (.lst k2 f2 k3 nb fun c=>w8) (fun c hc=>hc.elim (fun e=>.inl ((f5 c).mpr (.inl e))) fun z=>(k4 c z).imp (fun z=>(f5 c).mpr (.inr z)) id) fun c hc=>nw c ((h5 c).mpr (.inr hc));have ka:=k1 a ((h5 a).mpr (.inl rfl)) (fun z=>h4 (s2 a z)) fun z=>h4 (z▸sb);exact⟨fun c=>c=a∨P c,.tup (ka.trans h1) h2 p1 (fun z=>(p2 a z).elim h4 (nw a ((h5 a).mpr (.inl rfl)))) fun c=>w8,fun c hc=>hc.elim (fun e=>.inl ((h5 c).mpr (.inl e))) fun z=>(p2 c z).imp (fun z=>(h5 c).mpr (.inr z)) id⟩
end
section
variable{K:QA}{Γ:Ev}{Ψ:PEv}
noncomputable abbrev SndE(K:QA)(Γ:Ev)(Ψ:PEv)(p:PX):Prop:=∀{E:XE}{EK:XK}{F H:Hp}{S:Ft}{ρ:yA}{σ:St}{Q:TK}{R:VK},Rl K F H S ρ σ->XOk K F H S ρ E EK->(pe Ψ p E).e ρ Q->eB K (vrs p) F H S ρ σ Q R->(wp K Γ p EK).e σ H R
theorem tru_of{p:PX}(he:SndE K Γ Ψ p){E:XE}{EK:XK}{F H:Hp}{S:Ft}{ρ:yA}{σ:St}{Q:Bool->yA->Prop}{R:Bool->Hp->Prop}(I:Rl K F H S ρ σ)(X:XOk K F H S ρ E EK)(h:(pe Ψ p E).e ρ fun t _ ρ1=>truD t.er fun b=>Q b ρ1)(k:KontB K F H S ρ σ Q R) :
  (wp K Γ p EK).e σ H fun x H1=>truQ K x H1 R :=
 he I X h fun v F' H' S' ρ' t n Z s I' r q=>tru_okD (r.tr.rep I'.fh) q fun c qc=>k c F' H' S' ρ' s I' qc
theorem PSnd.of_e{p:PX}(ht:∀E ρ Q,(pe Ψ p E).t ρ Q=(pe Ψ p E).e ρ fun t _ ρ1=>truD t.er fun b=>Q b ρ1)(ht':∀EK σ H R,(wp K Γ p EK).t σ H R=(wp K Γ p EK).e σ H fun x H1=>truQ K x H1 R)(ha:∀E,(pe Ψ p E).a=nev.a)(he:SndE K Γ Ψ p):PSnd K Γ Ψ p where
 e:=he
 t:=fun I X h k=>by rw[ht]at h;rw[ht'];exact tru_of he I X h k
 a:=fun I X _ h k=>by rw[ha]at h;exact h.elim
theorem PSnd.of_0{p:PX}(ht:∀E,(pe Ψ p E).t=nev.t)(ha:∀E,(pe Ψ p E).a=nev.a)(he:SndE K Γ Ψ p):PSnd K Γ Ψ p where
 e:=he
 t:=fun I X h k=>by rw[ht]at h;exact h.elim
 a:=fun I X _ h k=>by rw[ha]at h;exact h.elim
theorem PSnd.of_t{p:PX}(ht:∀E ρ Q,(pe Ψ p E).e ρ Q=(pe Ψ p E).t ρ fun b ρ1=>Q (.d (.bool b)) false ρ1)(ht':∀EK σ H R,(wp K Γ p EK).t σ H R=(wp K Γ p EK).e σ H fun x H1=>asB x H1 R)(ha:∀E,(pe Ψ p E).a=nev.a)
  (he:∀{E:XE}{EK:XK}{F H:Hp}{S:Ft}{ρ:yA}{σ:St}{Q:Bool->yA->Prop}{R:VK},Rl K F H S ρ σ->XOk K F H S ρ E EK->(pe Ψ p E).t ρ Q->KontB K F H S ρ σ Q (fun b=>R (.bl b))->(wp K Γ p EK).e σ H R):PSnd K Γ Ψ p where
 e:=fun I X h k=>by rw[ht]at h;exact he I X h fun b F' H' S' ρ' s I' q=>eB.d k s I' (.bl b) q
 t:=fun I X h k=>by rw[ht'];exact he I X h fun b F' H' S' ρ' s I' q=>k b F' H' S' ρ' s I' q
 a:=fun I X _ h k=>by rw[ha]at h;exact h.elim
theorem var_e(i:Nat):SndE K Γ Ψ (.var i):=by
 intro E EK F H S ρ σ Q R I X h k;have h2:rdV ρ[i]? fun t=>Q t false ρ:=h;show(match σ[i]? with|some (some v)=>R v H|_=>False);have key:∀s,ρ[i]?=some (some s)->Q s.t false ρ->(match σ[i]? with|some (some v)=>R v H|_=>False):=fun s e q=>by obtain⟨v,h1,h3⟩:=I.sl i _ e;rw[h1];exact k v F H S ρ s.t false (S i) .refl I ⟨h3.weak,fun z=>(by cases z),fun _ b hb=>⟨i,s,Qz.mpr rfl,e,hb⟩,fun z=>(by cases z)⟩ q
 unfold rdV at h2;split at h2;rename_i e;exact key _ e h2;rename_i e;exact key _ e h2;exact h2.elim;exact h2.elim
theorem mut_ty{m:Mt}{v:V}{s:T}{H F:Hp}{Z:KA}(h:isMut m=true)(ht:mutTy m s=true)(r:Tr K F H true v s Z):tyV K m.ty v H:=by
 unfold mutTy at ht;split at ht;cases r with
 |lst h1 _ _ _ _ =>
  refine .inl ⟨?_,_,SqL.of h1⟩;cases m with
  |append=>rfl
  |extend=>rfl
  |insert=>rfl
  |clear=>rfl
  |_=>cases h
 cases ht
theorem mt_e{m:Mt}{o as:PX}(io:PSnd K Γ Ψ o)(ia:PSnd K Γ Ψ as):SndE K Γ Ψ (.mt m o as):=by
 intro E EK F H S ρ σ Q R I X h k;show(wp K Γ o EK).e σ H fun x H1=>tyV K m.ty x H1/\(wp K Γ as EK).a σ H1 fun vs H2=>mtR K m x vs H2 R;cases hm:isMut m with
 |false =>
  have h:(pe Ψ o E).e ρ fun x n ρ1=>mtTy m (vA x n).vw=true/\sq (vA x n) ρ1 ((pe Ψ as E).a []) fun xs ρ2=>mtT m (vA x n).vw (iB xs) fun z k=>Q z k ρ2:=by have h2:(if isMut m=true then _ else _):=h;rw[hm,if_neg (by simp)]at h2;exact h2
  refine two_a (P1:=fun x n=>mtTy m (vA x n).vw=true) (R1:=fun v H1=>tyV K m.ty v H1) (RR:=fun v vs H2=>mtR K m v vs H2 R) io ia I X h (fun v F' H' x n Za r p=>mt_ty r p) fun v vs F' H' S' ρ' x n xs Za Y s I' X' r _ tn q=>?_;rw[vw_map _ rfl]at q;exact mt_okT s I' r tn q k
 |true =>
  have h:rootV (rootOf o) fun j=>ownV ρ[j]? fun t=>mutTy m t=true/\(pe Ψ as E).a [] (ρ.set j (some (.nj t))) fun xs ρ2=>escB xs=true/\ρ2[j]?=some (some (.nj t))/\mutT m t (tsOf xs) fun r s'=>Q r true (ρ2.set j (some (.own s'))):=by have h2:(if isMut m=true then _ else _):=h;rw[hm,if_pos rfl]at h2;exact h2
  cases o with
  |var j =>
   have h:ownV ρ[j]? _:=h;unfold ownV at h;split at h;rename_i t hj;obtain⟨ht,q1⟩:=h;obtain⟨v0,hv,r0⟩:=I.sl j _ hj;have IL:=I.lock1 hj;have n0:=I.lock1U hj;have r0:Tr K F H true v0 t (S j):=r0;have XL:=X.lock1 hj;show(match σ[j]? with|some (some v)=>_|_=>False);rw[hv];refine⟨mut_ty hm ht r0,?_⟩;refine ia.a (md:=[]) IL XL (fun j hj=>by cases as<;>cases hj) q1 fun vs F2 H2 S2 ρ2 xs W Y s2 I2 ar _ q2=>?_;obtain⟨he,hj2,q2⟩:=q2;have r2:Tr K F2 H2 true v0 t (S j):=s2.toStp.keep r0 n0;have hw:=ar.held;have trs:=ar.av.trs noMd he;have wS:∀b,S j b->¬ W b:=fun b hb hb2=>by rcases ar.fr b hb2 with q|q;exact(r0.dom b hb).1 q;exact n0 b hb q
   refine mut_okT I2.fh r2 trs wS q2 fun w r s' H3 S3 Zr hh dm rs' rr dz hf q=>?_;obtain⟨st,I3,nw⟩:=put_root I hj hv s2 I2 hh dm rs' (fun b hb=>hf b (.inl hb)) hw ar.fr;have zr:∀b,Zr b->S j b∨W b∨H2 b=none:=fun b hb=>hf b (.inr hb);refine k w F2 H3 _ _ r true Zr st I3 ⟨rr,fun _ b hb=>?_,fun z=>(by cases z),fun _ i sl e b hb z=>?_⟩ q;rcases zr b hb with q|q|q
   ·exact .inr ⟨j,t,hj,q⟩
   exact(ar.fr b q).imp id (lock1U hj);exact .inl (s2.dm b q);rcases xA e with⟨rfl,_,_⟩| ⟨n,e⟩
   ·rw[kB]at z
    exact dz b hb z
   rw[UA (Q4 n)]at z;exact nw b (zr b hb) i sl (Q4 n) e z
   all_goals exact h.elim
  |_=>exact h.elim
theorem pair_look{kvs:List (Str×V)}{kds:List (Str×D)}(h:Paired (fun(p:Str×V) (q:Str×D)=>p.1=q.1/\∀F,Rep K F p.2 q.2) kvs kds)(z:Str)(F:Hp) :
  (∀d,kds.lookup z=some d->∃v,kvs.lookup z=some v/\Rep K F v d)/\Rep K F ((kvs.lookup z).getD .non) ((kds.lookup z).getD .none):=by
 induction h with
 |nil=>exact⟨fun d e=>(by simp at e),.non⟩
 |@cons p q ps qs h t ih =>
  obtain⟨p1,p2⟩:=p;obtain⟨q1,q2⟩:=q;obtain⟨h1,h2⟩:=h;have h1:p1=q1:=h1;subst h1;rw[qM,qM];cases e:z==p1 with
  |true=>exact⟨fun d e=>by cases e;exact⟨p2,rfl,h2 F⟩,h2 F⟩
  |false=>exact ih
theorem Tn.one1{Y:KA}{vs:List V}{x:D}(h:Tn K F H Y vs [.d x]):∃v,vs=[v]/\Rep K F v x:=by
 cases h with
 |cons r _ t =>
  cases t;cases r with
  |d r _=>exact⟨_,rfl,r⟩
theorem Tn.two1{Y:KA}{vs:List V}{x y:D}(h:Tn K F H Y vs [.d x,.d y]):∃v w,vs=[v,w]/\Rep K F v x/\Rep K F w y:=by
 cases h with
 |cons r _ t =>
  obtain⟨w,rfl,r2⟩:=t.one1;cases r with
  |d r _=>exact⟨_,w,rfl,r,r2⟩
theorem Reps.rep{vs:List V}{ds:List D}(h:Reps K F vs ds):∀(k:Nat),Reps K F (QH k vs).flatten (QH k ds).flatten
 |0=>.nil
 |k+1=>by rw[Qe,Qe,qF,qF];exact h.append (Reps.rep h k)
theorem pair_none{kvs:List (Str×V)}{kds:List (Str×D)}(h:Paired (fun(p:Str×V) (q:Str×D)=>p.1=q.1/\∀F,Rep K F p.2 q.2) kvs kds){z:Str}(l:kds.lookup z=none):kvs.lookup z=none:=by
 induction h with
 |nil=>rfl
 |@cons p q ps qs h t ih =>
  obtain⟨p1,p2⟩:=p;obtain⟨q1,q2⟩:=q;have h1:p1=q1:=h.1;subst h1;rw[qM]at l ⊢;cases e:z==p1 with
  |true=>rw[e]at l;cases l
  |false=>rw[e]at l;exact ih l
theorem prm_okT{o:Prm}{Y:KA}{vs:List V}{ts:List T}{F H F1 H1:Hp}{S S1:Ft}{ρ ρ1:yA}{σ:St}{Q:TK}{R:VK}{ws:List Nat}(g:GOk K Γ Ψ)(s:Ste F H S ρ F1 H1 S1 ρ1)(I:Rl K F1 H1 S1 ρ1 σ)(ra:Tn K F1 H1 Y vs ts)(h:prmT Ψ o ts fun z n=>Q z n ρ1)(k:eB K ws F H S ρ σ Q R):prmR K Γ o vs H1 R:=by
 cases o with
 |dget x=>obtain⟨z,kds,rfl,e,q⟩:=h;obtain⟨v,rfl,r⟩:=ra.one1;cases r;obtain⟨kvs,e2,p⟩:=g.dc _ _ e;exact⟨kvs,e2,k.d s I (pair_look p _ F1).2 q⟩
 |dix x=>obtain⟨z,kds,d,rfl,e,l,q⟩:=h;obtain⟨v,rfl,r⟩:=ra.one1;cases r;obtain⟨kvs,e2,p⟩:=g.dc _ _ e;obtain⟨v,l2,r2⟩:=(pair_look p _ F1).1 d l;exact⟨kvs,v,e2,l2,k.d s I r2 q⟩
 |dgetD x =>
  obtain⟨z,d,kds,rfl,e,q⟩:=h;obtain⟨v,w,rfl,r1,r2⟩:=ra.two1;cases r1;obtain⟨kvs,e2,p⟩:=g.dc _ _ e;refine⟨kvs,e2,k.d s I ?_ q⟩;cases l:kds.lookup z with
  |none=>rw[pair_none p l];exact r2
  |some d'=>obtain⟨v',l2,r'⟩:=(pair_look p _ F1).1 d' l;rw[l2];exact r'
 |tmul =>
  obtain⟨ds,n,rfl,h0,⟨h1,h2,h3⟩,q⟩:=h;obtain⟨v,w,rfl,r1,r2⟩:=ra.two1;cases r2;cases r1 with
  |@tup a xs ds hq rs =>
   have hl:=rs.length;refine⟨xs,I.fh.tupl hq,fun z=>h0 ?_,⟨h1,h2,by rw[hl];exact h3⟩,fun z=>?_,fun z p hp=>k.tupD s I hp (rs.rep _) q⟩;subst z;exact WM.mp hl.symm;subst z;have e:∀ds:List D,(QH (WN 1) ds).flatten=ds:=fun ds=>by simp
   rw[e]at q;exact k.d s I (.tup hq rs) q
section
variable{F H:Hp}
theorem allD_fz:∀{xs:List (T×Bool)},allD xs=true->∀t∈fzOf xs,t.isD=true
 |[],_,t,h=>by simp[fzOf]at h
 |p::r,h,t,ht=>by
  simp only[allD,QU]at h;simp only[fzOf,QI]at ht;rcases ht with rfl|ht;obtain⟨x,n⟩:=p;cases n with
  |true=>rfl
  |false =>
   have h1:=h.1;cases x with
   |d x=>rfl
   |_=>cases h1
  exact allD_fz h.2 t ht
theorem Tn.bare{Y:KA}{vs:List V}{ts:List T}(h:Tn K F H Y vs ts):(∀t∈ts,t.isD=true)->Tn K F H (fun _=>False) vs ts:=by
 induction h with
 |nil=>exact fun _=>.nil
 |@cons v t vs ts Z r z tl ih =>
  intro hd;refine .cons (Z:=fun _=>False) ?_ (fun _ z=>z) (ih fun u hu=>hd u (QJ _ hu));have hd:=hd t QM;cases t with
  |d x=>cases r with|d q _=>exact .d q fun _ z=>z
  |_=>cases hd
end
theorem MA(g:GOk K Γ Ψ):∀(p:PX),PSnd K Γ Ψ p
 | .var i=>⟨var_e i,fun I X h k=>tru_of (Γ:=Γ) (Ψ:=Ψ) (var_e i) I X h k,fun I X _ h k=>h.elim⟩
 | .int i=>⟨fun I X h k=>eB.d k .refl I (.int i) h,fun I X h k=>k _ _ _ _ _ .refl I h,fun I X _ h k=>h.elim⟩
 | .str x=>⟨fun I X h k=>eB.d k .refl I (.str x) h,fun I X h k=>h.elim,fun I X _ h k=>h.elim⟩
 | .bl b=>⟨fun I X h k=>eB.d k .refl I (.bl b) h,fun I X h k=>k _ _ _ _ _ .refl I h,fun I X _ h k=>h.elim⟩
 | .non=>⟨fun I X h k=>eB.d k .refl I .non h,fun I X h k=>k _ _ _ _ _ .refl I h,fun I X _ h k=>h.elim⟩
 | .glo x=>.of_e (fun _ _ _=>rfl) (fun _ _ _ _=>rfl) (fun _=>rfl) fun {E EK F H S ρ σ Q R} I X h k=>by have h:(match Ψ.va x with|some d=>Q (.d d) false ρ|none=>False):=h;split at h;rename_i d e;exact eB.d k .refl I (g.va x d e F) h;exact h.elim
 | .bty _ _=>⟨fun I X h k=>h.elim,fun I X h k=>h.elim,fun I X _ h k=>h.elim⟩
 | .bin op a b=>.of_e (fun _ _ _=>rfl) (fun _ _ _ _=>rfl) (fun _=>rfl) fun {E EK F H S ρ σ Q R} I X h k =>
  two_f (P:=fun x n y m ρ2=>binT op (vA x n).vw (vA y m).vw fun z k=>Q z k ρ2) (RR:=fun x y H2=>binR K op x y H2 R) (MA g a) (MA g b) I X h fun v w F' H' S' ρ' x n y m Za Zb s I' X' ra _ rb q=>bin_ok s I' ra rb q k
 | .cmp op a b=>.of_t (fun _ _ _=>rfl) (fun _ _ _ _=>rfl) (fun _=>rfl) fun {E EK F H S ρ σ Q R} I X h k =>
  two_f (P:=fun x n y m ρ2=>cmpD op x.er y.er fun k=>Q k ρ2) (RR:=fun x y H2=>cmpR K op x y H2 R) (MA g a) (MA g b) I X h fun v w F' H' S' ρ' x n y m Za Zb s I' X' ra _ rb q =>
   cmp_ok (by have:=ra.rep I'.fh;rwa [frzN_er]at this) (by have:=rb.rep I'.fh;rwa [frzN_er]at this) q fun c qc=>k c F' H' S' ρ' s I' qc
 | .chn o p a b c=>.of_t (fun _ _ _=>rfl) (fun _ _ _ _=>rfl) (fun _=>rfl) fun {E EK F H S ρ σ Q R} I X h k =>
  two_f (P:=fun x n y m ρ2=>cmpD o x.er y.er fun k=>if k=true then sq (vA y m) ρ2 (cu (pe Ψ c E).e) fun z ρ3=>cmpD p y.er z.1.er fun k=>Q k ρ3 else Q false ρ2)
   (RR:=fun x y H2=>cmpR K o x y H2 fun z H3=>asB z H3 fun k H4=>if k=true then(wp K Γ c EK).e σ H4 fun w' H5=>cmpR K p y w' H5 R else R (.bl false) H4) (MA g a) (MA g b) I X h
   fun v w F' H' S' ρ' x n y m Za Zb s I' X' ra _ rb q=>by
    refine cmp_ok (R:=fun z H3=>asB z H3 fun k H4=>if k=true then(wp K Γ c EK).e σ H4 fun w' H5=>cmpR K p w w' H5 R else R (.bl false) H4) (by have:=ra.rep I'.fh;rwa [frzN_er]at this) (by have:=rb.rep I'.fh;rwa [frzN_er]at this) q fun kb qc=>?_;cases kb with
    |false=>exact k false F' H' S' ρ' s I' qc
    |true=>rw[if_pos rfl]at qc;refine sq_e (RR:=fun w' H5=>cmpR K p w w' H5 R) (MA g c) I' X' qc fun w2 F2 H2 S2 ρ2 z l Z s2 I2 kp _ r2 q2=>?_;have rb2:=(kp _ _ _ rb).rep I2.fh;rw[frzN_er]at rb2;exact cmp_ok rb2 (r2.tr.rep I2.fh) q2 fun cb qb=>k cb F2 H2 S2 ρ2 (s.trans s2) I2 qb
 | .and a b=>⟨fun {E EK F H S ρ σ Q R} I X h k=>by
   refine(MA g a).e (Q:=fun x _ ρ1=>asD x.er fun c=>if c=true then(pe Ψ b E).e ρ1 Q else Q (.d (.bool false)) false ρ1) (R:=fun x H1=>asB x H1 fun c H2=>if c=true then(wp K Γ b EK).e σ H2 R else R (.bl false) H2) I X h fun v F' H' S' ρ' x n Z s I' r q=>?_;refine as_okD (r.tr.rep I'.fh) q fun c qc=>?_;cases c with
   |false=>exact eB.d k s I' (.bl false) qc
   |true=>exact(MA g b).e I' (X.from s.toStp) qc ((k.from s).vars fun i hi=>Qb _ hi),
  fun {E EK F H S ρ σ Q R} I X h k=>by
   refine(MA g a).t (Q:=fun c ρ1=>if c=true then(pe Ψ b E).t ρ1 Q else Q false ρ1) (R:=fun c H1=>if c=true then(wp K Γ b EK).t σ H1 R else R false H1) I X h fun c F' H' S' ρ' s I' qc=>?_;cases c with
   |false=>exact k _ F' H' S' ρ' s I' qc
   |true=>exact(MA g b).t I' (X.from s.toStp) qc (KontB.from k s),fun I X _ h k=>h.elim⟩
 | .or a b=>⟨fun {E EK F H S ρ σ Q R} I X h k=>by
   refine(MA g a).e (Q:=fun x _ ρ1=>asD x.er fun c=>if c=true then Q (.d (.bool true)) false ρ1 else(pe Ψ b E).e ρ1 Q) (R:=fun x H1=>asB x H1 fun c H2=>if c=true then R (.bl true) H2 else(wp K Γ b EK).e σ H2 R) I X h fun v F' H' S' ρ' x n Z s I' r q=>?_;refine as_okD (r.tr.rep I'.fh) q fun c qc=>?_;cases c with
   |true=>exact eB.d k s I' (.bl true) qc
   |false=>exact(MA g b).e I' (X.from s.toStp) qc ((k.from s).vars fun i hi=>Qb _ hi),
  fun {E EK F H S ρ σ Q R} I X h k=>by
   refine(MA g a).t (Q:=fun c ρ1=>if c=true then Q true ρ1 else(pe Ψ b E).t ρ1 Q) (R:=fun c H1=>if c=true then R true H1 else(wp K Γ b EK).t σ H1 R) I X h fun c F' H' S' ρ' s I' qc=>?_;cases c with
   |true=>exact k _ F' H' S' ρ' s I' qc
   |false=>exact(MA g b).t I' (X.from s.toStp) qc (KontB.from k s),fun I X _ h k=>h.elim⟩
 | .not a=>⟨fun {E EK F H S ρ σ Q R} I X h k=>by
   refine(MA g a).e (Q:=fun x _ ρ1=>truD x.er fun c=>Q (.d (.bool (!c))) false ρ1) (R:=fun x H1=>truQ K x H1 fun c H2=>R (.bl (!c)) H2) I X h fun v F' H' S' ρ' x n Z s I' r q=>?_;exact tru_okD (r.tr.rep I'.fh) q fun c qc=>eB.d k s I' (.bl _) qc,
  fun {E EK F H S ρ σ Q R} I X h k=>(MA g a).t (Q:=fun c ρ1=>Q (!c) ρ1) (R:=fun c H1=>R (!c) H1) I X h fun c F' H' S' ρ' s I' qc=>k _ F' H' S' ρ' s I' qc,fun I X _ h k=>h.elim⟩
 | .ife c a b=>.of_0 (fun _=>rfl) (fun _=>rfl) fun {E EK F H S ρ σ Q R} I X h k=>by
  refine(MA g c).t (Q:=fun k ρ1=>if k=true then(pe Ψ a E).e ρ1 Q else(pe Ψ b E).e ρ1 Q) (R:=fun k H1=>if k=true then(wp K Γ a EK).e σ H1 R else(wp K Γ b EK).e σ H1 R) I X h fun c F' H' S' ρ' s I' qc=>?_;cases c with
  |true=>exact(MA g a).e I' (X.from s.toStp) qc ((k.from s).vars fun i hi=>qZ _ hi)
  |false=>exact(MA g b).e I' (X.from s.toStp) qc ((k.from s).vars fun i hi=>Qb _ hi)
 | .call f as=>.of_e (fun _ _ _=>rfl) (fun _ _ _ _=>rfl) (fun _=>rfl) fun {E EK F H S ρ σ Q R} I X h k=>call_ok g (MA g as) I X h k
 | .isi a c=>by
  have key:∀{E:XE}{EK:XK}{F H:Hp}{S:Ft}{ρ:yA}{σ:St}{Q:Bool->yA->Prop}{R:VK},Rl K F H S ρ σ->XOk K F H S ρ E EK->(pe Ψ (.isi a c) E).t ρ Q->KontB K F H S ρ σ Q (fun b=>R (.bl b))->(wp K Γ (.isi a c) EK).e σ H R:=by
   intro E EK F H S ρ σ Q R I X h k;refine(MA g a).e (Q:=fun x _ ρ1=>isiD c x.er fun b=>Q b ρ1) I X h fun v F' H' S' ρ' x n Z s I' r q=>?_;cases c with
   |bty z n=>obtain⟨b,h1,h2,q⟩:=q;exact isi_ok (r.tr.rep I'.fh) h1 h2 (k b F' H' S' ρ' s I' q)
   |_=>exact q.elim
  refine⟨fun I X h k=>key I X h fun b F' H' S' ρ' s I' q=>eB.d k s I' (.bl b) q,fun {E EK F H S ρ σ Q R} I X h k=>?_,fun I X _ h k=>h.elim⟩;exact key (R:=fun v H1=>truQ K v H1 R) I X h fun b F' H' S' ρ' s I' q=>k b F' H' S' ρ' s I' q
 | .bi f as=>.of_e (fun _ _ _=>rfl) (fun _ _ _ _=>rfl) (fun _=>rfl) fun {E EK F H S ρ σ Q R} I X h k =>
  args_f (P:=fun xs ρ1=>biT f (iB xs) fun z k=>Q z k ρ1) (RR:=fun vs H1=>biR K f vs H1 R) (MA g as) I X h fun vs F' H' S' ρ' xs Y s I' X' tn _ q=>by rw[vw_map _ rfl]at q;exact bi_okT s I' tn q k
 | .prm o as=>.of_e (fun _ _ _=>rfl) (fun _ _ _ _=>rfl) (fun _=>rfl) fun {E EK F H S ρ σ Q R} I X h k =>
  args_f (P:=fun xs ρ1=>prmT Ψ o (fzOf xs) fun z k=>Q z k ρ1) (RR:=fun vs H1=>prmR K Γ o vs H1 R) (MA g as) I X h fun vs F' H' S' ρ' xs Y s I' X' tn _ q=>prm_okT g s I' tn q k
 | .mt m o as=>.of_e (fun _ _ _=>rfl) (fun _ _ _ _=>rfl) (fun _=>rfl) (mt_e (MA g o) (MA g as))
 | .idx a b=>by
  have he:SndE K Γ Ψ (.idx a b):=fun {E EK F H S ρ σ Q R} I X h k =>
   two_f (P:=fun x n y m ρ2=>idxT (vA x n).vw (vA y m).vw fun z=>Q z false ρ2) (RR:=fun x y H2=>rIxU K x y H2 R) (MA g a) (MA g b) I X h fun v w F' H' S' ρ' x n y m Za Zb s I' X' ra za rb q=>idx_ok s I' ra za rb q k
  exact⟨he,fun I X h k=>tru_of he I X h k,fun I X _ h k=>h.elim⟩
 | .slc a lo hi=>.of_0 (fun _=>rfl) (fun _=>rfl) fun {E EK F H S ρ σ Q R} I X h k=>by
  have part:∀(p:PX),PSnd K Γ Ψ p->∀{F H:Hp}{S:Ft}{ρ:yA}{x:T}{P:Option Int->yA->Prop}{RP:Option Int->Hp->Prop},Rl K F H S ρ σ->XOk K F H S ρ E EK ->
    sq (α:=Option Int) x ρ (if isNop p=true then fun ρ (R:Option Int->yA->Prop)=>R none ρ else fun ρ R=>(pe Ψ p E).e ρ fun l _ ρ2=>partD l.er fun o=>R o ρ2) P ->
    (∀o F' H' S' ρ',Ste F H S ρ F' H' S' ρ'->Rl K F' H' S' ρ' σ->(∀st v Zx,Tr K F H st v x Zx->Tr K F' H' st v x Zx)->P o ρ'->RP o H') ->
    (if isNop p=true then fun(R:Option Int->Hp->Prop)=>R none H else fun R=>(wp K Γ p EK).e σ H fun l H2=>partQ l H2 R) RP:=by
   intro p ip F H S ρ x P RP I X h k;cases hn:isNop p with
   |true=>simp only[hn,if_true]at h ⊢;refine k none F H S ρ .refl I (fun _ _ _ r=>r) ?_;unfold sq at h;split at h<;>exact h
   |false =>
    simp only[hn,Qk,if_false]at h ⊢;have h2:sq x ρ (cu (pe Ψ p E).e) fun y ρ'=>partD y.1.er fun o=>P o ρ':=by unfold sq at h ⊢;exact h
    refine sq_e ip I X h2 fun w F' H' S' ρ' y m Z s I' kp _ r q=>part_ok (r.tr.rep I'.fh) q fun o qo=>k o F' H' S' ρ' s I' kp qo
  refine one_f (MA g a) I X h fun v F1 H1 S1 ρ1 x n Za s1 I1 X1 r1 _ z1 h1=>?_;refine part lo (MA g lo) I1 X1 h1 fun l F2 H2 S2 ρ2 s2 I2 k2 h2=>?_;refine part hi (MA g hi) I2 (X1.from s2.toStp) h2 fun u F3 H3 S3 ρ3 s3 I3 k3 h3=>?_;exact slc_ok (s1.trans (s2.trans s3)) I3 (k3 _ _ _ (k2 _ _ _ r1)) h3 k
 | .nop=>⟨fun I X h k=>h.elim,fun I X h k=>h.elim,fun I X _ h k=>h.elim⟩
 | .lst as=>.of_0 (fun _=>rfl) (fun _=>rfl) fun {E EK F H S ρ σ Q R} I X h k=>by refine(MA g as).a (md:=[]) (R:=fun xs H1=>xs.length<=sizeLine/\∀p,H1 p=none->R (.ref p) (FB H1 p (.lst xs))) I X (fun j hj=>by cases as<;>cases hj) h fun vs F' H' S' ρ' xs W Y s I' r _ q=>?_;exact⟨by rw[r.av.length];exact q.2.1,fun p hp=>eB.list k s I' hp (r.av.trs noMd q.1) r.fr r.held q.2.2⟩
 | .tup as=>.of_0 (fun _=>rfl) (fun _=>rfl) fun {E EK F H S ρ σ Q R} I X h k=>by refine(MA g as).a (md:=[]) (R:=fun xs H1=>xs.length<=sizeLine/\∀p,H1 p=none->R (.ref p) (FB H1 p (.tup xs))) I X (fun j hj=>by cases as<;>cases hj) h fun vs F' H' S' ρ' xs W Y s I' r _ q=>?_;exact⟨by rw[r.av.length];exact q.2.1,fun p hp=>eB.tup k s I' hp (r.av.trs noMd q.1) r.fr r.held q.2.2⟩
 | .comp mask tgs tg ik its cond elt=>.of_0 (fun _=>rfl) (fun _=>rfl) fun {E EK F H S ρ σ Q R} I X h k=>by
  refine args_f (RR:=fun vs H1=>uB K ik vs H1 fun xs st H2=>CompB K xs st tg (if isNop cond=true then fun _ H Q=>Q true H else(wp K Γ cond (fun _ _ _=>False)).t) (wp K Γ elt (fun _ _ _=>False)).e (entS tgs.length mask σ) H2 R) (MA g its) I X h fun vs F1 H1 S1 ρ1 xs Y s1 I1 X1 tn tm q1=>?_;rw[vw_map _ rfl]at q1;refine items_okT I1.fh tn q1 fun xs ys st pr hst hc=>?_;refine compV_ok (us:=vrs elt) ?_ ?_ s1 I1 pr (fun b hb=>?_) hst hc k;intro F H S ρ σ Q R I h k;cases hn:isNop cond with
  |true=>simp only[hn,if_true]at h ⊢;exact k true F H S ρ .refl I h
  |false=>simp only[hn,Qk,if_false]at h ⊢;exact(MA g cond).t I XOk.never h k
  intro F H S ρ σ Q R I h k;exact(MA g elt).e I XOk.never h k;obtain⟨i,sl,_,h2,h3⟩:=tm b hb;exact I1.dom h2 h3
 | .eff p=>by
  cases p with
  |comp mask tgs tg ik its cond elt=>refine .of_0 (fun _=>rfl) (fun _=>rfl) fun {E EK F H S ρ σ Q R} I X h k=>?_;obtain⟨⟨hc,hm,ht⟩,h⟩:=h;refine args_f (RR:=fun vs H1=>uB K ik vs H1 fun xs st H2=>CompB K xs st tg (if isNop cond=true then fun _ H Q=>Q true H else(wp K Γ cond (fun _ _ _=>False)).t) (wp K Γ elt (fun _ _ _=>False)).e (entS tgs.length mask σ) H2 R) (MA g its) I X h fun vs F1 H1 S1 ρ1 xs Y s1 I1 X1 tn tm q1=>?_;obtain⟨ha,q1⟩:=q1;rw[vw_map _ rfl]at q1;have tn':=tn.bare (allD_fz ha);refine items_okT I1.fh tn' q1 fun xs ys st pr hst hc'=>?_;rw[if_pos hc];refine compE_ok (us:=vrs elt) (fun j hj=>by simpa using Qn.mp ht j hj) (fun b hb=>by simpa using Qn.mp hm b hb) ?_ s1 I1 pr (fun F' H' e1 e2=>hst F' H' e1 e2 fun b z=>z.elim) hc' k;intro F H S ρ σ Q R I h k;exact(MA g elt).e I XOk.never h k
  |slc a lo hi =>
   cases lo with
   |nop =>
    cases hi with
    |int i =>
     refine .of_0 (fun _=>rfl) (fun _=>rfl) fun {E EK F H S ρ σ Q R} I X h k=>?_;show(wp K Γ a EK).e σ H fun x H1=>rSl K x none (some i) H1 R;refine one_f (MA g a) I X h fun v F1 H1 S1 ρ1 x n Zx s1 I1 X1 _ er1 _ ⟨he,ds,ed,q⟩=>?_;have rx:=er1 he;rw[ed]at rx;cases rx with
     |tup hp rp =>
      rename_i b vs _;have hl:=rp.length;by_cases w:HT.sIx vs.length 0 none=0/\HT.sIx vs.length vs.length (some i)=vs.length;refine .inr (.inr ⟨b,vs,rfl,I1.fh.tupl hp,w,?_⟩);have ec:cutD ds none (some i)=ds:=by unfold cutD;rw[hl]at w;rw[w.1,w.2,QA0,Nat.sub_zero,QB5]
      rw[ec]at q;exact eB.d k s1 I1 (.tup hp rp) q;exact .inr (.inl ⟨b,vs,rfl,I1.fh.tupl hp,w,fun l hl=>k.tupD s1 I1 hl (rp.cut _ _) q⟩)
    |_=>exact⟨fun I X h k=>h.elim,fun I X h k=>h.elim,fun I X _ h k=>h.elim⟩
   |_=>exact⟨fun I X h k=>h.elim,fun I X h k=>h.elim,fun I X _ h k=>h.elim⟩
  |_=>exact⟨fun I X h k=>h.elim,fun I X h k=>h.elim,fun I X _ h k=>h.elim⟩
 | .nh=>⟨fun I X h k=>h.elim,fun I X h k=>h.elim,fun {E EK F H S ρ σ md Q R} I X _ h k=>k [] F H S ρ [] (fun _=>False) (fun _=>False) .refl I ⟨.nil fun _ z=>z,fun _ z=>z.elim,fun _ z=>z.elim,fun _ _ _ _ z=>z.elim⟩ (by cases md with|nil=>rfl|cons m r=>cases m<;>rfl) h⟩
 | .ng a as=>⟨fun I X h k=>h.elim,fun I X h k=>h.elim,fun {E EK F H S ρ σ md Q R} I X hm h k=>by
  show(wp K Γ a EK).e σ H fun x H1=>(wp K Γ as EK).a σ H1 fun xs H2=>R (x::xs) H2;have vr2:∀i∈vrs as,i∈vrs (.ng a as):=fun i hi=>Qb _ hi;cases hmd:(md.headD .nk).isMut with
  |true =>
   have h2:isVar a=true/\(pe Ψ as E).a md.tail ρ fun xs ρ1=>Q ((.d .none,true)::xs) ρ1:=by have h3:(if(md.headD .nk).isMut=true then _ else _):=h;rw[hmd,if_pos rfl]at h3;exact h3
   obtain⟨m,md',rfl⟩:∃m md',md=m::md':=by
    cases md with
    |nil=>cases hmd
    |cons m md'=>exact⟨m,md',rfl⟩
   have em:m=.chg:=by have hmd:m.isMut=true:=hmd;cases m<;>first|rfl|cases hmd
   subst em;cases a with
   |var j=>obtain⟨v,hv⟩:=hm j (show j∈j::cA md' as from QM);show(match σ[j]? with|some (some v)=>_|_=>False);rw[hv];refine(MA g as).a I X (fun i hi=>hm i (QJ _ hi)) h2.2 fun vs F' H' S' ρ' xs W Y s I' r mv q=>?_;refine k (v::vs) F' H' S' ρ' _ W Y s I' ⟨.chg hmd r.av,r.fr,(r.vars vr2).tm,r.nw⟩ ?_ q;show(some (some v))::(xB md' vs).map _=σ[j]?::(cA md' as).map _;have mv:(xB md' vs).map (fun v=>some (some v))=(cA md' as).map (fun j=>σ[j]?):=mv;rw[hv,mv]
   |_=>exact absurd h2.1 (by simp[isVar])
  |false =>
   have h2:(pe Ψ a E).e ρ fun x n ρ1=>sq (α:=List (T×Bool)) (if n=true then .d .none else x) ρ1 ((pe Ψ as E).a md.tail) fun xs ρ2=>Q ((x,n)::xs) ρ2:=by have h3:(if(md.headD .nk).isMut=true then _ else _):=h;rw[hmd,if_neg (by simp)]at h3;exact h3
   have hroots:cA md (.ng a as)=cA md.tail as:=by
    cases md with
    |nil=>cases as<;>rfl
    |cons m md'=>have hmd:m.isMut=false:=hmd;cases m<;>first|rfl|cases hmd
   have hmv:∀v vs,xB md (v::vs)=xB md.tail vs:=fun v vs=>by unfold xB;generalize md.headD .nk=m at hmd;cases m<;>first | (cases vs<;>rfl)|cases hmd
   refine(MA g a).e I X h2 fun v F1 H1 S1 ρ1 x n Z s1 I1 r1 q1=>?_;refine sq_a (MA g as) I1 (X.from s1.toStp) (fun i hi=>hm i (by rw[hroots];exact hi)) q1 fun vs F2 H2 S2 ρ2 xs W Y s2 I2 kp hs r2 mv q2=>?_;have s12:=s1.trans s2;have r2':=(r2.from s1.toStp).vars vr2;have mv':(xB md (v::vs)).map (fun v=>some (some v))=(cA md (.ng a as)).map (fun j=>σ[j]?):=by rw[hroots,hmv];exact mv
   cases n with
   |true =>
    have hd:=r1.held;have hd2:=hd.step s2.toStp I2;refine k (v::vs) F2 H2 S2 ρ2 _ (fun b=>Z b∨W b) Y s12 I2 ⟨.new hmd (s2.toStp.keep r1.tr hd.nu) r2.av (fun b hb hw=>?_) fun b=>w8,fun b hb=>?_,r2'.tm,fun i sl e b hb=>?_⟩ mv' q2;rcases r2.fr b hw with q|q
    ·exact(hd.dom b hb).1 q
    exact hd.nu b hb q;rcases hb with hb|hb
    ·exact r1.fr rfl b hb
    exact r2'.fr b hb;rcases hb with hb|hb
    ·exact hd2.nw i sl e b hb
    exact r2.nw i sl e b hb
   |false =>
    have za:∀b,Z b->∃(i:Nat) (s:Sl),i∈vrs a/\ρ2[i]?=some (some s)/\S2 i b:=by
     cases hd:x.isD with
     |true =>
      intro b hb;exfalso;have tr:=r1.tr;cases x with
      |d x=>cases tr with|d r n=>exact n b hb
      |_=>cases hd
     |false=>obtain⟨e1,e2⟩:=hs hd;rw[e1,e2];exact r1.tm rfl
    refine k (v::vs) F2 H2 S2 ρ2 _ W (fun b=>Z b∨Y b) s12 I2 ⟨.tmp hmd (kp _ _ _ r1.tr) (fun b hb=>.inl hb) (r2.av.sub fun b hb=>.inr hb),r2'.fr,fun b hb=>?_,r2.nw⟩ mv' q2;rcases hb with hb|hb;obtain⟨i,sl,h1,h2⟩:=za b hb;exact⟨i,sl,qZ _ h1,h2⟩;exact r2'.tm b hb⟩
end
structure Sts(C J:List Nat)(F H:Hp)(S:Ft)(ρ:yA)(σ:St)(F' H':Hp)(S':Ft)(ρ':yA)(σ':St):Prop where
 ff:Same F F'
 hh:∀b u,H b=some u->¬ U ρ S b->H' b=some u
 dm:∀b,H' b=none->H b=none
 fn:∀b,F b=none->F' b≠none->U ρ S b∨H b=none
 uu:∀b,U ρ' S' b->U ρ S b∨H b=none
 bo:∀(j:Nat) t,j∉J->ρ'[j]?=some (some (.nj t))->t.isD=false->ρ[j]?=some (some (.nj t))/\S' j=S j/\σ'[j]?=σ[j]?
 sg:∀j∈C,σ'[j]?=σ[j]?
structure Stc(C:List Nat)(F H:Hp)(S:Ft)(ρ:yA)(σ:St)(F' H':Hp)(S':Ft)(ρ':yA)(σ':St):Prop where
 ff:Same F F'
 hh:∀b u,H b=some u->¬ U ρ S b->H' b=some u
 dm:∀b,H' b=none->H b=none
 fn:∀b,F b=none->F' b≠none->U ρ S b∨H b=none
 uu:∀b,U ρ' S' b->U ρ S b∨H b=none
 sg:∀j∈C,σ'[j]?=σ[j]?
section
variable{K:QA}{Γ:Ev}{Ψ:PEv}{E:XE}{EK:XK}{F H F1 H1 F2 H2:Hp}{S S1 S2:Ft}{ρ ρ1 ρ2:yA}{σ σ1 σ2:St}{C J:List Nat}
theorem Stp.sts(s:Stp F H S ρ F1 H1 S1 ρ1):Sts C J F H S ρ σ F1 H1 S1 ρ1 σ:=⟨s.ff,s.hh,s.dm,s.fn,s.uu,fun j t _ e h=>let⟨h1,h2⟩:=s.bo j t e h;⟨h1,h2,rfl⟩,fun _ _=>rfl⟩
theorem Sts.refl:Sts C J F H S ρ σ F H S ρ σ:=Stp.refl.sts
theorem Sts.trans(a:Sts C J F H S ρ σ F1 H1 S1 ρ1 σ1)(b:Sts C [] F1 H1 S1 ρ1 σ1 F2 H2 S2 ρ2 σ2):Sts C J F H S ρ σ F2 H2 S2 ρ2 σ2 where
 ff:=a.ff.trans b.ff
 hh:=fun x u h n=>b.hh x u (a.hh x u h n) fun z=>by rcases a.uu x z with q|q;exact n q;rw[q]at h;cases h
 dm:=fun x h=>a.dm x (b.dm x h)
 fn:=fun x h z=>by
  by_cases q:F1 x=none;rcases b.fn x q z with w|w
  ·exact a.uu x w
  exact .inr (a.dm x w);exact a.fn x h q
 uu:=fun x h=>by rcases b.uu x h with w|w;exact a.uu x w;exact .inr (a.dm x w)
 bo:=fun j t hj h n=>by obtain⟨h1,h2,h3⟩:=b.bo j t (by simp) h n;obtain⟨h4,h5,h6⟩:=a.bo j t hj h1 n;exact⟨h4,h2.trans h5,h3.trans h6⟩
 sg:=fun j hj=>(b.sg j hj).trans (a.sg j hj)
theorem Sts.c(s:Sts C J F H S ρ σ F1 H1 S1 ρ1 σ1):Stc C F H S ρ σ F1 H1 S1 ρ1 σ1:=⟨s.ff,s.hh,s.dm,s.fn,s.uu,s.sg⟩
theorem Stc.trans(a:Stc C F H S ρ σ F1 H1 S1 ρ1 σ1)(b:Stc C F1 H1 S1 ρ1 σ1 F2 H2 S2 ρ2 σ2):Stc C F H S ρ σ F2 H2 S2 ρ2 σ2 where
 ff:=a.ff.trans b.ff
 hh:=fun x u h n=>b.hh x u (a.hh x u h n) fun z=>by rcases a.uu x z with q|q;exact n q;rw[q]at h;cases h
 dm:=fun x h=>a.dm x (b.dm x h)
 fn:=fun x h z=>by
  by_cases q:F1 x=none;rcases b.fn x q z with w|w
  ·exact a.uu x w
  exact .inr (a.dm x w);exact a.fn x h q
 uu:=fun x h=>by rcases b.uu x h with w|w;exact a.uu x w;exact .inr (a.dm x w)
 sg:=fun j hj=>(b.sg j hj).trans (a.sg j hj)
theorem XOk.fromS(h:XOk K F H S ρ E EK)(s:Sts C J F H S ρ σ F1 H1 S1 ρ1 σ1):XOk K F1 H1 S1 ρ1 E EK:=fun x dx F2 H2 S2 ρ2 s2 f r q =>
 h x dx F2 H2 (fun _ _=>False) [] ⟨s.ff.trans s2.ff,fun b u e n=>s2.hh b u (s.hh b u e n) (fun z=>(s.uu b z).elim n fun w=>(by rw[w]at e;cases e)),fun b e=>s.dm b (s2.dm b e),fun b e z=>by
  by_cases q:F1 b=none;rcases s2.fn b q z with w|w
  ·exact s.uu b w
  exact .inr (s.dm b w);exact s.fn b e q,fun b ⟨i,t,e,_⟩=>by simp at e,fun j t e=>by simp at e⟩ f r q
structure EndsOk(K:QA)(C:List Nat)(F H:Hp)(S:Ft)(ρ:yA)(σ:St)(Z:PEnds)(Dn:Ends):Prop where
 nx:∀F' H' S' ρ' σ',Sts C [] F H S ρ σ F' H' S' ρ' σ'->Rl K F' H' S' ρ' σ'->Z.nx ρ'->Dn.nx σ' H'
 rt:∀v t W F' H' S' ρ' σ',Stc C F H S ρ σ F' H' S' ρ' σ'->Rl K F' H' S' ρ' σ'->Tr K F' H' true v t W->Held F' H' S' ρ' W->(∀b,W b->H b=none∨U ρ S b)->Z.rt t ρ'->Dn.rt v H'
 bk:∀F' H' S' ρ' σ',Sts C [] F H S ρ σ F' H' S' ρ' σ'->Rl K F' H' S' ρ' σ'->Z.bk ρ'->Dn.bk σ' H'
 ct:∀F' H' S' ρ' σ',Sts C [] F H S ρ σ F' H' S' ρ' σ'->Rl K F' H' S' ρ' σ'->Z.ct ρ'->Dn.ct σ' H'
theorem frS(s:Sts C J F H S ρ σ F1 H1 S1 ρ1 σ1){W:KA}(fr:∀b,W b->H1 b=none∨U ρ1 S1 b):∀b,W b->H b=none∨U ρ S b:=fun b hb=>by rcases fr b hb with q|q;exact .inl (s.dm b q);exact(s.uu b q).symm
theorem EndsOk.from{Z:PEnds}{Dn:Ends}(ok:EndsOk K C F H S ρ σ Z Dn)(s:Sts C [] F H S ρ σ F1 H1 S1 ρ1 σ1):EndsOk K C F1 H1 S1 ρ1 σ1 Z Dn :=
 ⟨fun F' H' S' ρ' σ' s' I q=>ok.nx F' H' S' ρ' σ' (s.trans s') I q,fun v t W F' H' S' ρ' σ' s' I r h fr q=>ok.rt v t W F' H' S' ρ' σ' (s.c.trans s') I r h (frS s fr) q,
  fun F' H' S' ρ' σ' s' I q=>ok.bk F' H' S' ρ' σ' (s.trans s') I q,fun F' H' S' ρ' σ' s' I q=>ok.ct F' H' S' ρ' σ' (s.trans s') I q⟩
theorem Sts.setD(s:Sts C J F H S ρ σ F1 H1 S1 ρ1 σ1)(i:Nat)(hi:i∉C)(v:V){t:T}(ht:t.isD=true)(Z:KA):Sts C J F H S ρ σ F1 H1 (updF S1 i Z) (ρ1.set i (some (.nj t))) (σ1.set i (some v)) :=
 ⟨s.ff,s.hh,s.dm,s.fn,fun b ⟨j,u,h1,h2⟩=>by
  rcases xA h1 with⟨_,e,_⟩| ⟨n,h1⟩
  cases e;rw[UA (Q4 n)]at h2;exact s.uu b ⟨j,u,h1,h2⟩,
 fun j u hj e hd=>by
  rcases xA e with⟨_,e,_⟩| ⟨n,e⟩
  injection e with e;injection e with e;subst e;rw[ht]at hd;cases hd;rw[UA (Q4 n),set_ne n];exact s.bo j u hj e hd,
 fun j hj=>by have n:i≠j:=fun e=>hi (e▸hj);rw[set_ne n];exact s.sg j hj⟩
theorem Rl.setD(I:Rl K F H S ρ σ)(i:Nat){v:V}{x:D}(r:Rep K F v x):Rl K F H (updF S i fun _=>False) (ρ.set i (some (.nj (.d x)))) (σ.set i (some v)) :=
 I.setB i (.d r fun _ z=>z) fun _ _ _ _ _ z=>z.elim
theorem Rl.setN(I:Rl K F H S ρ σ)(i:Nat){v:V}{t:T}{Z:KA}(r:Tr K F H true v t Z)(hz:∀(j:Nat) s,j≠i->ρ[j]?=some (some s)->∀b,Z b->¬ S j b):Rl K F H (updF S i Z) (ρ.set i (some (.own t))) (σ.set i (some v)) where
 fh:=I.fh
 len:=by simpa using I.len
 sl:=fun j s h=>by
  rcases xA h with⟨rfl,e,hl⟩| ⟨hn,h⟩
  cases e;exact⟨v,set_get (by rw[<- I.len];exact hl),by rw[kB];exact r⟩;rw[set_ne hn,UA (Q4 hn)];exact I.sl j s h
 dj:=fun j k t' s n h1 h2 b hb hk=>by
  rcases xA h1 with⟨e,_,_⟩| ⟨n1,h1⟩
  subst e;rw[kB]at hb;rcases xA h2 with⟨e,_,_⟩| ⟨n2,h2⟩
  exact n e;rw[UA (Q4 n2)]at hk;exact hz k s (Q4 n2) h2 b hb hk;rw[UA (Q4 n1)]at hb;rcases xA h2 with⟨e,_,_⟩| ⟨n2,h2⟩
  subst e;rw[kB]at hk;exact hz j _ n h1 b hk hb;rw[UA (Q4 n2)]at hk;exact I.dj j k t' s n h1 h2 b hb hk
theorem Sts.setN(s:Sts C J F H S ρ σ F1 H1 S1 ρ1 σ1)(i:Nat)(hi:i∉C)(v:V)(t:T){Z:KA}(fr:∀b,Z b->H b=none∨U ρ S b):Sts C J F H S ρ σ F1 H1 (updF S1 i Z) (ρ1.set i (some (.own t))) (σ1.set i (some v)) :=
 ⟨s.ff,s.hh,s.dm,s.fn,fun b ⟨j,u,h1,h2⟩=>by
  rcases xA h1 with⟨rfl,_,_⟩| ⟨n,h1⟩
  rw[kB]at h2;exact(fr b h2).symm;rw[UA (Q4 n)]at h2;exact s.uu b ⟨j,u,h1,h2⟩,
 fun j u hj e hd=>by
  rcases xA e with⟨_,e,_⟩| ⟨n,e⟩
  cases e;rw[UA (Q4 n),set_ne n];exact s.bo j u hj e hd,
 fun j hj=>by have n:i≠j:=fun e=>hi (e▸hj);rw[set_ne n];exact s.sg j hj⟩
theorem VR.strict{ws:List Nat}{v:V}{t:T}{n:Bool}{Z:KA}(r:VR K ws H S ρ F1 H1 S1 ρ1 v t n Z)(e:esc t n=true):∃W,Tr K F1 H1 true v t W/\Held F1 H1 S1 ρ1 W/\∀b,W b->H b=none∨U ρ S b:=by
 cases n with
 |true=>exact⟨Z,r.tr,r.held,r.fr rfl⟩
 |false =>
  have tr:=r.tr;cases t with
  |d x=>cases tr with|d q _=>exact⟨fun _=>False,.d q fun _ z=>z,.none,fun _ z=>z.elim⟩
  |_=>cases e
theorem Rl.frz1(I:Rl K F H S ρ σ){i:Nat}{t:T}(hi:ρ[i]?=some (some (.own t))):Rl K (frzH F H (S i)) H (updF S i fun _=>False) (ρ.set i (some (.nj (.d t.er)))) σ/\Sts C [] F H S ρ σ (frzH F H (S i)) H (updF S i fun _=>False) (ρ.set i (some (.nj (.d t.er)))) σ:=by
 obtain⟨v,hv,r⟩:=I.sl i _ hi;have ff:=frzH_ff (H:=H) fun b (hb:S i b)=>(r.dom b hb).2;have I0:Rl K F H S (ρ.set i none) σ:=I.drop (by simp) fun j s e=>by
  rcases xA e with⟨_,z,_⟩| ⟨_,e⟩
  cases z;exact e
 have hw:Held F H S (ρ.set i none) (S i):=⟨r.dom,fun j s e b hb z=>by
  rcases xA e with⟨_,q,_⟩| ⟨n,e⟩
  cases q;exact I.dj i j t s n hi e b hb z⟩
 have I1:=I0.frz hw;have kp:Rep K (frzH F H (S i)) v t.er:=Tr.kept ff r fun b u hb e=>by rw[frzH_in hb];exact e
 have I2:=I1.setD i kp;have e1:(ρ.set i none).set i (some (.nj (.d t.er)))=ρ.set i (some (.nj (.d t.er))):=by simp
 have e2:σ.set i (some v)=σ:=by apply wT;intro j;rw[qz];split;rename_i e;subst e;split;exact hv.symm;rename_i n;rw[wH (by omega)];rfl
 rw[e1,e2]at I2;refine⟨I2,⟨ff,fun b u e _=>e,fun b e=>e,fun b e z=>.inl ?_,fun b ⟨j,u,h1,h2⟩=>.inl ?_,fun j u _ e hd=>?_,fun _ _=>rfl⟩⟩;by_cases hb:S i b
 ·exact⟨i,t,hi,hb⟩
 rw[PC hb]at z;exact absurd e z;rcases xA h1 with⟨_,q,_⟩| ⟨n,h1⟩
 ·cases q
 rw[UA (Q4 n)]at h2;exact⟨j,u,h1,h2⟩;rcases xA e with⟨_,q,_⟩| ⟨n,e⟩
 ·injection q with q;injection q with q;subst q;cases hd
 exact⟨e,UA (Q4 n),rfl⟩
theorem modify_at{f:Option Sl->Option Sl}{i:Nat}:ρ.modify i f=match ρ[i]? with|some o=>ρ.set i (f o)|none=>ρ:=by
 apply wT;intro j;rw[We];cases h:ρ[i]? with
 |none=>simp only;by_cases e:i=j;subst e;simp[h];simp[e]
 |some o=>simp only;rw[qz];by_cases e:i=j;subst e;obtain⟨hl,rfl⟩:=Qj.mp h;simp[hl];simp[e]
theorem set_self{α:Type}{l:List α}{i:Nat}{o:α}(h:l[i]?=some o):l.set i o=l:=by apply wT;intro j;rw[qz];split;rename_i e;subst e;rw[if_pos (Qj.mp h).1,h];rfl
theorem Rl.frzAt:∀(is:List Nat) {F:Hp}{S:Ft}{ρ:yA},Rl K F H S ρ σ->∃F' S',Rl K F' H S' (frzAt is ρ) σ/\Sts C [] F H S ρ σ F' H S' (frzAt is ρ) σ
 |[],F,S,ρ,I=>⟨F,S,I,.refl⟩
 |i::is,F,S,ρ,I=>by
  have one:∃F1 S1,Rl K F1 H S1 (ρ.modify i frzS) σ/\Sts C [] F H S ρ σ F1 H S1 (ρ.modify i frzS) σ:=by
   rw[modify_at];cases h:ρ[i]? with
   |none=>exact⟨F,S,I,.refl⟩
   |some o =>
    cases o with
    |none=>have e:ρ.set i (frzS none)=ρ:=set_self h;simp only[e];exact⟨F,S,I,.refl⟩
    |some sl =>
     cases sl with
     |nj t=>have e:ρ.set i (frzS (some (.nj t)))=ρ:=set_self h;simp only[e];exact⟨F,S,I,.refl⟩
     |own t=>exact⟨_,_,I.frz1 h⟩
  obtain⟨F1,S1,I1,s1⟩:=one;obtain⟨F2,S2,I2,s2⟩:=Rl.frzAt is I1;exact⟨F2,S2,I2,s1.trans s2⟩
end
noncomputable def noSt(C:List Nat):PT->Bool
 | .seq s r=>noSt C s&&noSt C r
 | .set i _=>!C.contains i
 | .own i _=>!C.contains i
 | .ife _ a b=>noSt C a&&noSt C b
 | .for_ tg _ _ body=>tg.ix.all (fun i=>!C.contains i)&&noSt C body
 | .nil=>true
 | .expr _=>true
 | .ret _=>true
 | .rse=>true
 | .frz _ s=>noSt C s
 | .hs s=>noSt C s
 | .six _ _ _=>true
 | .pap _ _ _=>true
section
variable{K:QA}{Γ:Ev}{F H:Hp}{S:Ft}{ρ:yA}{σ:St}{C:List Nat}
theorem root_put{j:Nat}{t t':T}{v0:V}{H3:Hp}{Z':KA}(I:Rl K F H S ρ σ)(hj:ρ[j]?=some (some (.own t)))(hv:σ[j]?=some (some v0))(hH:∀b u,H b=some u->¬ S j b->H3 b=some u)(dm:∀b,H3 b=none->H b=none)(r:Tr K F H3 true v0 t' Z')(hz:∀b,Z' b->S j b∨H b=none) :
  Ste F H S ρ F H3 (updF S j Z') (ρ.set j (some (.own t')))/\Rl K F H3 (updF S j Z') (ρ.set j (some (.own t'))) σ:=by
 obtain⟨a,b,_⟩:=put_root (W:=fun _=>False) I hj hv .refl (I.lock1 hj) hH dm r (fun b hb=>(hz b hb).imp id .inr) .none fun _ z=>z.elim;have es:(ρ.set j (some (.nj t))).set j (some (.own t'))=ρ.set j (some (.own t')):=by simp
 rw[es]at a b;exact⟨a,b⟩
theorem off_get{i j:Nat}{s:Sl}(h:(ρ.set i none)[j]?=some (some s)):j≠i/\ρ[j]?=some (some s):=by
 rcases xA h with⟨_,z,_⟩| ⟨n,e⟩
 cases z;exact⟨Q4 n,e⟩
theorem Rl.off{σ':St}{i:Nat}(I:Rl K F H S ρ σ)(hl:σ'.length=σ.length)(e:∀k,k≠i->σ'[k]?=σ[k]?):Rl K F H S (ρ.set i none) σ' where
 fh:=I.fh
 len:=by rw[wC,I.len,hl]
 sl:=fun k s h=>by obtain⟨n,h⟩:=off_get h;rw[e k n];exact I.sl k s h
 dj:=fun k l t s n h1 h2=>I.dj k l t s n (off_get h1).2 (off_get h2).2
theorem Stp.off{F1 H1:Hp}{S1:Ft}{ρ1:yA}{σ':St}{i:Nat}(s:Stp F H S ρ F1 H1 S1 ρ1)(hi:i∉C)(e:∀k,k≠i->σ'[k]?=σ[k]?):Sts C [] F H S ρ σ F1 H1 S1 (ρ1.set i none) σ' :=
 ⟨s.ff,s.hh,s.dm,s.fn,fun b ⟨k,t,h,hb⟩=>s.uu b ⟨k,t,(off_get h).2,hb⟩,fun k t _ h hd=>by obtain⟨n,h⟩:=off_get h;obtain⟨h1,h2⟩:=s.bo k t h hd;exact⟨h1,h2,e k n⟩,fun k hk=>e k fun z=>hi (z▸hk)⟩
noncomputable def clrd(us:List T)(n:Nat):List T:=(us.take n).map (fun _=>T.lst [])++us.drop n
theorem clrd_at{us:List T}{n:Nat}{u:T}(h:us[n]?=some u):(clrd us n)[n]?=some u/\(clrd us n).set n (.lst [])=clrd us (n+1):=by
 obtain⟨hn,e⟩:=Qj.mp h;have hl:((us.take n).map fun _=>T.lst []).length=n:=by rw[QG,wb];omega
 have hd:us.drop n=u::us.drop (n+1):=by rw[W6 hn,e]
 unfold clrd;rw[hd];constructor;rw[Qv (by omega),hl,Nat.sub_self];rfl;rw[List.set_append_right _ _ (by omega),hl,Nat.sub_self,WF,List.take_add_one,h,Q6,qN];rfl
theorem clr_body{EK:XK}{i:Nat}{D:Ends}{b:Addr}{xs:List V}(h:σ[i]?=some (some (.ref b)))(g:H b=some (.lst xs))(q:D.nx σ (FB H b (.lst []))):wps K Γ EK (.seq (.expr (.mt .clear (.var i) .nh)) .nil) D σ H:=by show(match σ[i]? with|some (some v)=>tyV K "list" v H/\rClear v [] H fun _ H3=>D.nx σ H3|_=>False);rw[h];exact⟨.inl ⟨rfl,_,SqL.of g⟩,b,xs,rfl,rfl,g,q⟩
theorem hs_ok(s:PT){EK:XK}{Dn:Ends}{N:yA->Prop}(c:noSt C s=true)(I:Rl K F H S ρ σ)(h:hsP s N ρ)(k:∀F' H' S' ρ' σ',Sts C [] F H S ρ σ F' H' S' ρ' σ'->Rl K F' H' S' ρ' σ'->N ρ'->Dn.nx σ' H'):wps K Γ EK s Dn σ H:=by
 obtain⟨j,i,us,rfl,ne,il,hj,hc,q⟩:=h;have hi:i∉C:=fun z=>by
  have c1:=(jA c).1;have:(!C.contains i)=true:=by simpa[Tg.ix]using c1
  rw[Qo.mpr z]at this;cases this
 obtain⟨v,hv,r⟩:=I.sl j _ hj;have r:Tr K F H true v (.tup us) (S j):=r;cases r with
 |@tup _ a ws _ _ S' h1 h2 h3 h4 h5 =>
  show(match σ[j]? with|some (some v)=>uB K .val [v] H fun xs st H2=>ForB K xs st (.nm i) _ Dn σ H2|_=>False);rw[hv];refine .inr ⟨ws,SqT.of h1,?_⟩;intro J Y;have vl:ws.length=us.length:=h3.length;have len1:(ws.map Item.one).length=us.length:=by rw[QG,vl]
  refine⟨fun n m σ' H'=>n<=us.length/\m=us.length - n/\σ'.length=σ.length/\(∀k,k≠i->σ'[k]?=σ[k]?)/\(∀c,¬ S' c->H' c=H c)/\(∀c,H' c=none->H c=none)/\∃P,Trs K F H' true ws (clrd us n) P/\∀c,P c->S' c,⟨_,QA2 _,rfl,rfl,fun _ _=>rfl,fun _ _=>rfl,fun _ z=>z,S',by simpa[clrd]using h3,fun _ z=>z⟩,?_⟩;rintro n m σ' H' ⟨nl,rfl,sl,se,hh,hd,P,tr,ps⟩;have ta:H' a=some (.tup ws):=(hh a h4).trans h1;have st:SqT K H' a ws:=SqT.of ta;by_cases e:n=us.length;subst e;refine .inl ⟨Y.stop _ H' st (by rw[len1];exact QX _),?_⟩;have ec:clrd us us.length=us.map fun _=>T.lst []:=by unfold clrd;rw[QB5,Wb,Qi]
  rw[ec]at tr;obtain⟨st2,I2⟩:=root_put I hj hv (fun c u e n=>by rw[hh c fun z=>n ((h5 c).mpr (.inr z))];exact e) hd (.tup ta h2 tr (fun z=>h4 (ps a z)) fun c=>w8) fun c hc=>.inl ((h5 c).mpr (hc.imp id (ps c)));exact k F H' _ _ σ' (st2.toStp.off hi se) (I2.off sl se) q;have hn:n<us.length:=by omega
  refine .inr ⟨Y.go n H' st (by rw[len1];exact hn),fun σ2 H2=>∃m',m' < us.length - n/\_,fun _ _ z=>z,fun y H2 hy=>?_⟩;obtain⟨it,e1,e2⟩:=Y.yld n H' y H2 st (by rw[len1];exact hn) hy;obtain⟨u,hun⟩:∃u,us[n]?=some u:=⟨_,qT hn⟩
  obtain⟨ts,rfl⟩:=hc u (qP hun);obtain⟨a1,a2⟩:=clrd_at hun;obtain⟨v1,S2,g1,g2,g3,g4⟩:=tr.part2 a1;cases g2 with
  |@lst _ b1 vs _ _ S3 f1 f2 f3 f4 f5 =>
   have g7:S2 b1:=(f5 b1).mpr (.inl rfl);rw[Qd,g1]at e1;cases e1;obtain⟨hy1,hy2⟩:=e2;rw[hy1,hy2];have hi2:i<σ'.length:=by rw[sl,<- I.len];exact il
   show wps K Γ EK _ _ (σ'.set i (some (.ref b1))) H';refine clr_body (set_get hi2) f1 ?_;obtain⟨P',t1,t2⟩:=g4 (FB H' b1 (.lst [])) (.lst []) (fun y=>y=b1∨False) (fun _=>False) (fun y _ hn=>fA fun z=>hn (z▸g7)) (.lst nB f2 (.nil fun _ z=>z) (fun z=>z) fun y=>w8) (fun y hy=>hy.elim (fun z=>.inl (z▸g7)) QT) fun _ _ z=>z;rw[a2]at t1;have s1:S' b1:=ps b1 (g3 b1 g7);refine⟨us.length - (n+1),by omega,hn,rfl,by rw[wC];exact sl,fun k hk=>by rw[set_ne (Q4 hk)];exact se k hk,fun c hc=>(fA fun z=>hc (by rw[z];exact s1)).trans (hh c hc),fun c hc=>hd c (upd_none c hc),P',t1,fun c hc=>?_⟩;exact(t2 c hc).elim (ps c) QT
end
section
variable{K:QA}{Γ:Ev}{Ψ:PEv}{E:XE}{EK:XK}{F H F1 H1 F2 H2:Hp}{S S1 S2:Ft}{ρ ρ1 ρ2:yA}{σ σ1 σ2:St}{C J:List Nat}
theorem Sts.bind{L:List Nat}(s:Sts C J F H S ρ σ F1 H1 S1 ρ1 σ1)(b:Bd L F1 H1 S1 ρ1 σ1 F2 H2 S2 ρ2 σ2)(hL:∀j∈L,j∈J)(hC:∀j∈L,j∉C):Sts C J F H S ρ σ F2 H2 S2 ρ2 σ2 :=
 ⟨s.ff.trans b.ff,fun x u e n=>b.hh x u (s.hh x u e n),fun x e=>s.dm x (b.dm x e),fun x e z=>by
  by_cases q:F1 x=none;exact .inr (s.dm x (b.fn x q z));exact s.fn x e q,fun x u=>s.uu x (b.U u),fun j t hj e hd=>by
  obtain⟨e1,e2,e3⟩:=b.out j fun z=>hj (hL j z);rw[e1]at e;obtain⟨g1,g2,g3⟩:=s.bo j t hj e hd;exact⟨g1,e2.trans g2,e3.trans g3⟩,fun j hj=>(b.out j fun z=>hC j z hj).2.2.trans (s.sg j hj)⟩
theorem for_okT{tg:Tg}{body:PEnds->yA->Prop}{tb:TS}{Z:PEnds}{Dn:Ends}{xs:List Item}{ys:List T}{st:Hp->Prop}{Y:KA}
  (ib:∀{F H:Hp}{S:Ft}{ρ:yA}{σ:St}{Z:PEnds}{Dn:Ends},Rl K F H S ρ σ->XOk K F H S ρ E EK->body Z ρ->EndsOk K C F H S ρ σ Z Dn->tb Dn σ H)
  (I:Rl K F H S ρ σ) (X:XOk K F H S ρ E EK) (hC:∀j∈tg.ix,j∉C) (pr:Paired (ItV K F H Y) xs ys) (hy:∀b,Y b->¬ U ρ S b/\H b≠none/\F b=none) (hst:∀F' H',Same F F'->Same F' H'->(∀b,Y b->H' b=H b)->st H') (h:forV body tg Z ys ρ)
  (onx:∀F' H' S' ρ' σ',Sts C tg.ix F H S ρ σ F' H' S' ρ' σ'->Rl K F' H' S' ρ' σ'->Z.nx ρ'->Dn.nx σ' H')
  (ort:∀v t W F' H' S' ρ' σ',Stc C F H S ρ σ F' H' S' ρ' σ'->Rl K F' H' S' ρ' σ'->Tr K F' H' true v t W->Held F' H' S' ρ' W->(∀b,W b->H b=none∨U ρ S b)->Z.rt t ρ'->Dn.rt v H'):ForB K xs st tg tb Dn σ H:=by
 intro J hJ;have len:=Wh pr;have yk:∀{F1 H1:Hp}{S1:Ft}{ρ1:yA}{σ1:St},Sts C tg.ix F H S ρ σ F1 H1 S1 ρ1 σ1->∀b,Y b->H1 b=H b/\F1 b=none:=fun {F1 H1 S1 ρ1 σ1} s b hb=>by
  obtain⟨n,d1,d2⟩:=hy b hb;refine⟨?_,?_⟩;cases e:H b with
  |none=>exact absurd e d1
  |some u=>exact s.hh b u e n
  by_cases q:F1 b=none
  ·exact q
  exact((s.fn b d2 q).elim n d1).elim
 refine⟨fun i m σ' H'=>i<=xs.length/\m=xs.length - i/\∃ρ' F' S',Sts C tg.ix F H S ρ σ F' H' S' ρ' σ'/\Rl K F' H' S' ρ' σ'/\forV body tg Z (ys.drop i) ρ',⟨_,QA2 _,rfl,ρ,F,S,.refl,I,by simpa using h⟩,?_⟩;rintro i m σ1 H1 ⟨hi,rfl,ρ1,F1,S1,s1,I1,h1⟩;have hs:=hst F1 H1 s1.ff I1.fh fun b hb=>(yk s1 b hb).1;rcases Wv i xs.length with hlt|hge;refine .inr ⟨hJ.go i H1 hs hlt,fun σ' H'=>i+1<=xs.length/\∃ρ' F' S',Sts C tg.ix F H S ρ σ F' H' S' ρ' σ'/\Rl K F' H' S' ρ' σ'/\forV body tg Z (ys.drop (i+1)) ρ',fun σ' H' ⟨a,b⟩=>⟨_,by omega,a,rfl,b⟩,fun x H2 hyl=>?_⟩;obtain⟨it,hx,hm⟩:=hJ.yld i H1 x H2 hs hlt hyl;obtain⟨y,hd,ry⟩:=Paired.get_of pr hx;rw[hd]at h1;unfold forV at h1;have key:L3.bindI K tg it σ1 H1 fun σ2 H2=>tb { Dn with nx:=fun σ' H'=>i+1<=xs.length/\∃ρ' F' S',Sts C tg.ix F H S ρ σ F' H' S' ρ' σ'/\Rl K F' H' S' ρ' σ'/\forV body tg Z (ys.drop (i+1)) ρ',ct:=fun σ' H'=>i+1<=xs.length/\∃ρ' F' S',Sts C tg.ix F H S ρ σ F' H' S' ρ' σ'/\Rl K F' H' S' ρ' σ'/\forV body tg Z (ys.drop (i+1)) ρ',bk:=Dn.nx } σ2 H2:=by
  refine bind_okT I1 (fun b hb u=>?_) (ry.mono s1.ff (yk s1)) h1 fun ρ2 σ2 F2 H3 S2 bd I2 h2=>?_;rcases s1.uu b u with q|q
  ·exact(hy b hb).1 q
  exact(hy b hb).2.1 q;have s2:=s1.bind bd (fun j hj=>hj) hC;exact ib I2 (X.fromS s2) h2 ⟨fun F' H' S' ρ' σ' s' I' q=>⟨hlt,ρ',F',S',s2.trans s',I',q⟩,fun v t W F' H' S' ρ' σ' s' I' r hw fr q=>ort v t W F' H' S' ρ' σ' (s2.c.trans s') I' r hw (frS s2 fr) q,
   fun F' H' S' ρ' σ' s' I' q=>onx F' H' S' ρ' σ' (s2.trans s') I' q,fun F' H' S' ρ' σ' s' I' q=>⟨hlt,ρ',F',S',s2.trans s',I',q⟩⟩
 exact bindI_step hm key;have e:ys.drop i=[]:=QAb (by omega);rw[e]at h1;exact .inl ⟨hJ.stop i H1 hs hge,onx F1 H1 S1 ρ1 σ1 s1 I1 h1⟩
theorem kill_get:∀(J:List Nat) (ρ:yA) (i:Nat) s,(kill J ρ)[i]?=some (some s)->ρ[i]?=some (some s)/\(i∈J->∀t,s=.nj t->t.isD=true)
 |[],ρ,i,s,h=>⟨h,fun z=>by simp at z⟩
 |j::J,ρ,i,s,h=>by
  unfold kill at h;obtain⟨h1,h2⟩:=kill_get J _ i s h;rw[We]at h1;by_cases e:j=i;subst e;simp only[reduceIte]at h1;cases q:ρ[j]? with
  |none=>rw[q]at h1;cases h1
  |some o =>
   rw[q]at h1;have h1:killS o=some s:=by simpa using h1
   cases o with
   |none=>cases h1
   |some sl =>
    cases sl with
    |own t=>cases h1;exact⟨rfl,fun _ t' z=>by cases z⟩
    |nj t =>
     have h1:(if t.isD=true then some (Sl.nj t) else none)=some s:=h1;cases hd:t.isD with
     |true=>rw[hd,if_pos rfl]at h1;cases h1;exact⟨rfl,fun _ t' z=>by cases z;exact hd⟩
     |false=>rw[hd]at h1;simp at h1
  simp only[e,if_false]at h1;refine⟨by simpa using h1,fun m=>h2 ((QI.mp m).elim (fun z=>absurd z.symm e) id)⟩
theorem kill_len:∀(J:List Nat) (ρ:yA),(kill J ρ).length=ρ.length
 |[],_=>rfl
 |j::J,ρ=>by unfold kill;rw[kill_len J];simp
theorem Sts.kill(s:Sts C J F H S ρ σ F1 H1 S1 ρ1 σ1):Sts C [] F H S ρ σ F1 H1 S1 (L3.kill J ρ1) σ1 :=
 ⟨s.ff,s.hh,s.dm,s.fn,fun b ⟨i,t,h1,h2⟩=>s.uu b ⟨i,t,(kill_get J ρ1 i _ h1).1,h2⟩,fun j t _ e hd=>by obtain⟨h1,h2⟩:=kill_get J ρ1 j _ e;by_cases hj:j∈J;rw[h2 hj t rfl]at hd;cases hd;exact s.bo j t hj h1 hd,s.sg⟩
theorem lock_get:∀(L:List Nat) (ρ:yA) (j:Nat),(lock L ρ)[j]?=if j∈L then ρ[j]?.map lockS else ρ[j]?
 |[],ρ,j=>by simp[lock]
 |i::L,ρ,j=>by
  have l2:∀o,lockS (lockS o)=lockS o:=fun o=>by
   match o with
   |none=>rfl
   |some (.own _)=>rfl
   |some (.nj _)=>rfl
  unfold lock;rw[lock_get L,We];by_cases e:i=j;subst e;cases h:ρ[i]? with
  |none=>simp
  |some o=>simp[l2]
  have e':¬ j=i:=fun z=>e z.symm;simp[e,e']
theorem lock_len:∀(L:List Nat) (ρ:yA),(lock L ρ).length=ρ.length
 |[],_=>rfl
 |i::L,ρ=>by unfold lock;rw[lock_len L];simp
theorem unlock_get:∀(L:List Nat) (ρ0 ρ:yA) (j:Nat),(∀i∈L,i<ρ.length)->(uD L ρ0 ρ)[j]?=if j∈L then some (ρ0[j]?.getD none) else ρ[j]?
 |[],ρ0,ρ,j,_=>by simp[uD]
 |i::L,ρ0,ρ,j,h=>by unfold uD;rw[unlock_get L ρ0 _ j (fun k hk=>by simpa using h k (QJ _ hk)),qz];by_cases e:i=j;subst e;simp[h i QM];have e':¬ j=i:=fun z=>e z.symm;simp[e,e']
theorem unlock_len:∀(L:List Nat) (ρ0 ρ:yA),(uD L ρ0 ρ).length=ρ.length
 |[],_,_=>rfl
 |i::L,ρ0,ρ=>by unfold uD;rw[unlock_len L];simp
theorem ownsIn_own{ρ:yA}:∀(is:List Nat),∀i∈jD ρ is,∃t,ρ[i]?=some (some (.own t))
 |[],i,h=>by simp[jD]at h
 |j::is,i,h=>by
  unfold jD at h;split at h
  ·rename_i ho
   rcases QI.mp h with e|e
   ·subst e
    unfold ownO at ho;split at ho;rename_i t e;exact⟨t,e⟩
    all_goals cases ho
   exact ownsIn_own is i e
  exact ownsIn_own is i h
theorem ownsIn_mem{ρ:yA}{i:Nat}{t:T}(h:ρ[i]?=some (some (.own t))):∀(is:List Nat),i∈is->i∈jD ρ is
 |[],hi=>by simp at hi
 |j::is,hi=>by
  unfold jD;rcases QI.mp hi with e|e;subst e;have:ownO ρ[i]?=true:=by rw[h];rfl
  rw[if_pos this];exact QM;have:=ownsIn_mem h is e;split;exact QJ _ this;exact this
section
variable{L:List Nat}(hL:∀i∈L,∃t,ρ[i]?=some (some (.own t)))
include hL
theorem lockL{i:Nat}{s:Sl}(h:(lock L ρ)[i]?=some (some s)):(i∈L/\∃t,ρ[i]?=some (some (.own t))/\s=.nj t)∨(i∉L/\ρ[i]?=some (some s)):=by rw[lock_get]at h;by_cases hi:i∈L;rw[if_pos hi]at h;obtain⟨t,e⟩:=hL i hi;rw[e]at h;injection h with h;injection h with h;exact .inl ⟨hi,t,e,h.symm⟩;rw[if_neg hi]at h;exact .inr ⟨hi,h⟩
theorem lockLU{b:Addr}(h:U (lock L ρ) S b):U ρ S b:=by
 obtain⟨i,t,h1,h2⟩:=h;rcases lockL hL h1 with⟨_,t',_,e⟩| ⟨_,h1⟩
 cases e;exact⟨i,t,h1,h2⟩
theorem Rl.lock(I:Rl K F H S ρ σ):Rl K F H S (L3.lock L ρ) σ where
 fh:=I.fh
 len:=by rw[lock_len];exact I.len
 sl:=fun i s e=>by
  rcases lockL hL e with⟨_,t,h,rfl⟩| ⟨_,h⟩
  obtain⟨v,h1,h2⟩:=I.sl i _ h;exact⟨v,h1,h2.weak⟩;exact I.sl i s h
 dj:=fun i j t s n e1 e2=>by
  rcases lockL hL e1 with⟨_,_,_,z⟩| ⟨_,h1⟩
  cases z;rcases lockL hL e2 with⟨_,t',h2,_⟩| ⟨_,h2⟩
  ·exact I.dj i j t _ n h1 h2
  exact I.dj i j t s n h1 h2
theorem Rl.lockU(I:Rl K F H S ρ σ){i:Nat}(hi:i∈L){b:Addr}(hb:S i b):¬ U (L3.lock L ρ) S b:=fun⟨j,t,h1,h2⟩=>by
 obtain⟨t',e⟩:=hL i hi;rcases lockL hL h1 with⟨_,_,_,z⟩| ⟨hj,h1⟩
 cases z;exact I.dj j i t _ (fun z=>hj (z▸hi)) h1 e b h2 hb
theorem unlock_ok(I:Rl K F H S ρ σ)(s:Sts C [] F H S (lock L ρ) σ F1 H1 S1 ρ1 σ1)(I1:Rl K F1 H1 S1 ρ1 σ1)(hl:∀i∈L,ρ1[i]?=ρ[i]?.map lockS) :
  ∃S2,Rl K F1 H1 S2 (uD L ρ ρ1) σ1/\Sts C [] F H S ρ σ F1 H1 S2 (uD L ρ ρ1) σ1:=by
 classical
 have l1:∀i∈L,∃t,ρ[i]?=some (some (.own t))/\ρ1[i]?=some (some (.nj t)):=fun i hi=>by obtain⟨t,e⟩:=hL i hi;have:=hl i hi;rw[e]at this;exact⟨t,e,this⟩
 have hlt:∀i∈L,i<ρ1.length:=fun i hi=>by obtain⟨t,_,e⟩:=l1 i hi;exact(Qj.mp e).1
 let S2:Ft:=fun i=>if i∈L then S i else S1 i
 have s2i:∀i∈L,S2 i=S i:=fun i hi=>if_pos hi;have s2o:∀i,i∉L->S2 i=S1 i:=fun i hi=>if_neg hi;have get:∀i sl,(uD L ρ ρ1)[i]?=some (some sl)->(i∈L/\∃t,ρ[i]?=some (some (.own t))/\ρ1[i]?=some (some (.nj t))/\sl=.own t)∨(i∉L/\ρ1[i]?=some (some sl)):=fun i sl e=>by rw[unlock_get L ρ ρ1 i hlt]at e;by_cases hi:i∈L;rw[if_pos hi]at e;obtain⟨t,e1,e2⟩:=l1 i hi;rw[e1]at e;injection e with e;have e:some (Sl.own t)=some sl:=e;injection e with e;exact .inl ⟨hi,t,e1,e2,e.symm⟩;rw[if_neg hi]at e;exact .inr ⟨hi,e⟩
 have far:∀i∈L,∀k sl,k∉L->ρ1[k]?=some (some sl)->∀b,S i b->¬ S1 k b:=fun i hi k sl hk e b hb z=>by
  obtain⟨t,e1,_⟩:=l1 i hi;cases sl with
  |own u=>rcases s.uu b ⟨k,u,e,z⟩ with q|q;exact I.lockU hL hi hb q;exact(I.dom e1 hb).1 q
  |nj u =>
   cases hd:u.isD with
   |true=>exact I1.isD e hd z
   |false =>
    obtain⟨g1,g2,_⟩:=s.bo k u (by simp) e hd;rw[g2]at z;rcases lockL hL g1 with⟨q,_⟩| ⟨_,g1⟩
    exact hk q;exact I.dj i k t _ (fun q=>hk (q▸hi)) e1 g1 b hb z
 refine⟨S2,⟨I1.fh,by rw[unlock_len];exact I1.len,fun i sl e=>?_,fun i k t sl n e1 e2 b hb hk=>?_⟩,⟨s.ff,fun b u e n=>s.hh b u e fun z=>n (lockLU hL z),s.dm,fun b e z=>(s.fn b e z).imp (lockLU hL) id,fun b ⟨i,t,h1,h2⟩=>?_,fun j t _ e hd=>?_,s.sg⟩⟩;rcases get i sl e with⟨hi,t,e1,e2,rfl⟩| ⟨hi,e1⟩
 ·rw[s2i i hi]
  obtain⟨v,g1,g2⟩:=I.sl i _ e1;cases hd:t.isD with
  |true =>
   obtain⟨v',g3,g4⟩:=I1.sl i _ e2;refine⟨v',g3,?_⟩;have nb:∀b,¬ S i b:=fun b=>I.isD e1 hd;cases t with
   |d x =>
    have g4:Tr K F1 H1 false v' (.d x) (S1 i):=g4;cases g4 with
    |d r _=>exact .d r nb
   |_=>cases hd
  |false =>
   obtain⟨_,_,g5⟩:=s.bo i t (by simp) e2 hd;refine⟨v,g5.trans g1,?_⟩;have g2:Tr K F H true v t (S i):=g2;refine g2.mono s.ff fun b hb=>?_;obtain⟨d1,d2⟩:=g2.dom b hb;have nu:=I.lockU hL hi hb;refine⟨?_,?_⟩;cases eb:H b with
   |none=>exact absurd eb d1
   |some u=>exact s.hh b u eb nu
   by_cases q:F1 b=none
   ·exact q
   exact((s.fn b d2 q).elim nu d1).elim
 rw[s2o i hi];exact I1.sl i sl e1;rcases get i _ e1 with⟨hi,t',a1,a2,_⟩| ⟨hi,a1⟩
 ·rw[s2i i hi]at hb
  rcases get k sl e2 with⟨hk',t2,b1,b2,_⟩| ⟨hk',b1⟩
  rw[s2i k hk']at hk;exact I.dj i k t' _ n a1 b1 b hb hk;rw[s2o k hk']at hk;exact far i hi k sl hk' b1 b hb hk
 rw[s2o i hi]at hb;rcases get k sl e2 with⟨hk',t2,b1,b2,_⟩| ⟨hk',b1⟩
 rw[s2i k hk']at hk;exact far k hk' i _ hi a1 b hk hb;rw[s2o k hk']at hk;exact I1.dj i k t sl n a1 b1 b hb hk;rcases get i _ h1 with⟨hi,t',a1,a2,_⟩| ⟨hi,a1⟩
 ·rw[s2i i hi]at h2
  exact .inl ⟨i,t',a1,h2⟩
 rw[s2o i hi]at h2;exact(s.uu b ⟨i,t,a1,h2⟩).imp (lockLU hL) id;rcases get j _ e with⟨_,_,_,_,z⟩| ⟨hj,e1⟩
 ·cases z
 obtain⟨g1,g2,g3⟩:=s.bo j t (by simp) e1 hd;rcases lockL hL g1 with⟨q,_⟩| ⟨_,g1⟩
 exact absurd q hj;exact⟨g1,(s2o j hj).trans g2,g3⟩
end
theorem not_mem{i:Nat}(h:(!C.contains i)=true):i∉C:=fun z=>by have:C.contains i=true:=Qo.mpr z;rw[this]at h;cases h
theorem not_mems{is:List Nat}(h:(is.all fun i=>!C.contains i)=true):∀i∈is,i∉C:=fun i hi=>not_mem (Qn.mp h i hi)
theorem ret_ok{v:V}{t:T}{W:KA}{Z:PEnds}{Dn:Ends}(ok:EndsOk K C F H S ρ σ Z Dn)(s:Ste F H S ρ F1 H1 S1 ρ1)(I:Rl K F1 H1 S1 ρ1 σ)(r:Tr K F1 H1 true v t W)(hw:Held F1 H1 S1 ρ1 W)(fr:∀b,W b->H b=none∨U ρ S b)(q:Z.rt t ρ1):Dn.rt v H1 :=
 ok.rt v t W F1 H1 S1 ρ1 σ (s.toStp.sts (J:=[])).c I r hw fr q
theorem ret_snd(g:GOk K Γ Ψ):∀(e:PX) {F H:Hp}{S:Ft}{ρ:yA}{σ:St}{Z:PEnds}{Dn:Ends},Rl K F H S ρ σ->XOk K F H S ρ E EK->retP Ψ E Z.rt e ρ->EndsOk K C F H S ρ σ Z Dn->(wp K Γ e EK).e σ H Dn.rt:=by
  intro e F H S ρ σ Z Dn I X h ok;have gen:∀e,(pe Ψ e E).e ρ (fun x n ρ1=>esc x n=true/\Z.rt x ρ1)->(wp K Γ e EK).e σ H Dn.rt:=fun e h=>by refine(MA g e).e (Q:=fun x n ρ1=>esc x n=true/\Z.rt x ρ1) I X h fun v F' H' S' ρ' x n Za s J r ⟨he,q⟩=>?_;obtain⟨W,r2,hw,fr⟩:=r.strict he;exact ret_ok ok s J r2 hw fr q
  cases e with
  |ife t a b =>
   have h:(pe Ψ t E).t ρ fun k ρ1=>if k=true then retP Ψ E Z.rt a ρ1 else retP Ψ E Z.rt b ρ1:=h
   refine(MA g t).t I X h fun k F' H' S' ρ' s J q=>?_;cases k with
   |true=>exact ret_snd g a J (X.from s.toStp) q (ok.from s.toStp.sts)
   |false=>exact ret_snd g b J (X.from s.toStp) q (ok.from s.toStp.sts)
  |var i =>
   have h':rdR ρ i Z.rt ρ[i]?:=h;show(match σ[i]? with|some (some v)=>Dn.rt v _|_=>False)
   match hd:ρ[i]?,h' with
   |some (some (.own t)),h' =>
    obtain⟨v,h1,r⟩:=I.sl i _ hd;rw[h1];have I0:Rl K F H S (ρ.set i none) σ:=I.drop (by simp) fun j s e=>by
     rcases xA e with⟨_,z,_⟩| ⟨_,e⟩
     cases z;exact e
    refine ok.rt v t (S i) F H S (ρ.set i none) σ ⟨.refl _,fun b u e _=>e,fun b e=>e,fun b e z=>absurd e z,fun b ⟨j,u,h1,h2⟩=>.inl ?_,fun _ _=>rfl⟩ I0 r ⟨r.dom,fun j s e b hb z=>?_⟩ (fun b hb=>.inr ⟨i,t,hd,hb⟩) h';rcases xA h1 with⟨_,z,_⟩| ⟨_,h1⟩
    ·cases z
    exact⟨j,u,h1,h2⟩;rcases xA e with⟨_,q,_⟩| ⟨n,e⟩
    ·cases q
    exact I.dj i j t s n hd e b hb z
   |some (some (.nj t)),h' =>
    obtain⟨v,h1,r⟩:=I.sl i _ hd;rw[h1];obtain⟨ht,h'⟩:=h';cases t with
    |d x =>
     have r:Tr K F H false v (.d x) (S i):=r;cases r with
     |d q n=>exact ret_ok (W:=fun _=>False) ok .refl I (.d q fun _ z=>z) .none (fun _ z=>z.elim) h'
    |_=>cases ht
   |some none,h'=>exact h'.elim
   |none,h'=>exact h'.elim
  |_=>exact gen _ h
theorem psnds(g:GOk K Γ Ψ):∀(p:PT) {F H:Hp}{S:Ft}{ρ:yA}{σ:St}{Z:PEnds}{Dn:Ends},noSt C p=true->Rl K F H S ρ σ->XOk K F H S ρ E EK->nA Ψ E p Z ρ->EndsOk K C F H S ρ σ Z Dn->wps K Γ EK p Dn σ H
 | .nil,_,_,_,_,_,_,_,c,I,X,h,ok=>ok.nx _ _ _ _ _ .refl I h
 | .seq s r,_,_,_,_,_,_,_,c,I,X,h,ok=>by obtain⟨c1,c2⟩:=jA c;exact psnds g s c1 I X h ⟨fun F' H' S' ρ' σ' s' J q=>psnds g r c2 J (X.fromS s') q (ok.from s'),ok.rt,ok.bk,ok.ct⟩
 | .set i e,F,H,S,ρ,σ,Z,Dn,c,I,X,h,ok=>by have hi:=not_mem c;refine one_f (RR:=fun x H1=>Dn.nx (σ.set i (some x)) H1) (MA g e) I X h fun v F' H' S' ρ' x n Za s J X' r er _ ⟨he,q⟩=>?_;exact ok.nx _ _ _ _ _ (s.toStp.sts.setD i hi v rfl _) (J.setD i (er he)) q
 | .expr e,F,H,S,ρ,σ,Z,Dn,c,I,X,h,ok=>(MA g e).e I X h fun v F' H' S' ρ' x n Za s J r q=>ok.nx _ _ _ _ _ s.toStp.sts J q
 | .ret e,F,H,S,ρ,σ,Z,Dn,c,I,X,h,ok=>ret_snd g e I X h ok
 | .ife t a b,F,H,S,ρ,σ,Z,Dn,c,I,X,h,ok=>by
  obtain⟨c1,c2⟩:=jA c;refine(MA g t).t I X h fun k F' H' S' ρ' s J q=>?_;cases k with
  |true=>exact psnds g a c1 J (X.from s.toStp) q (ok.from s.toStp.sts)
  |false=>exact psnds g b c2 J (X.from s.toStp) q (ok.from s.toStp.sts)
 | .for_ tg ik its body,F,H,S,ρ,σ,Z,Dn,c,I,X,h,ok=>by
  obtain⟨c1,c2⟩:=jA c;have hC:=not_mems c1;refine args_f (RR:=fun vs H1=>uB K ik vs H1 fun xs st H2=>ForB K xs st tg (wps K Γ EK body) Dn σ H2) (MA g its) I X h fun vs F1 H1 S1 ρ1 xs Y s1 I1 X1 tn tm q=>?_;rw[vw_map _ rfl]at q;have ok1:=ok.from s1.toStp.sts;cases ha:allD xs with
  |true=>have tn':=tn.bare (allD_fz ha);refine items_okT I1.fh tn' q fun its ys st pr hst hc=>?_;rw[ha,if_pos rfl]at hc;refine for_okT (fun I X h ok=>psnds g body c2 I X h ok) I1 X1 hC pr (fun b z=>z.elim) hst hc ?_ ?_;exact fun F' H' S' ρ' σ' s' I' q=>ok1.nx _ _ _ _ _ s'.kill (I'.drop (kill_len _ _) fun i sl e=>(kill_get _ _ i sl e).1) q;exact fun v t W F' H' S' ρ' σ' s' I' r hw fr q=>ok1.rt v t W F' H' S' ρ' σ' s' I' r hw fr q
  |false =>
   refine items_okT I1.fh tn q fun its' ys st pr hst hc=>?_;rw[ha,if_neg (by simp)]at hc;have hL:=ownsIn_own (ρ:=ρ1) (vrs its);have IL:=I1.lock hL;have sL:Sts C [] F1 H1 S1 ρ1 σ F1 H1 (fun _ _=>False) [] σ:=⟨.refl _,fun b u e _=>e,fun b e=>e,fun b e z=>absurd e z,fun b ⟨i,t,e,_⟩=>by simp at e,fun j t _ e=>by simp at e,fun _ _=>rfl⟩
   have XL:XOk K F1 H1 S1 (lock (jD ρ1 (vrs its)) ρ1) E EK:=fun x dx F2 H2 S2 ρ2 s2 f r q =>
    X1 x dx F2 H2 (fun _ _=>False) [] ⟨s2.ff,fun b u e n=>s2.hh b u e fun z=>n (lockLU hL z),s2.dm,fun b e z=>(s2.fn b e z).imp (lockLU hL) id,fun b ⟨i,t,e,_⟩=>by simp at e,fun j t e=>by simp at e⟩ f r q
   refine for_okT (fun I X h ok=>psnds g body c2 I X h ok) IL XL hC pr (fun b hb=>?_) hst hc ?_ ?_;obtain⟨i,sl,h1,h2,h3⟩:=tm b hb;refine⟨fun u=>?_,I1.dom h2 h3⟩;cases sl with
   |own t=>exact I1.lockU hL (ownsIn_mem h2 _ h1) h3 u
   |nj t =>
    obtain⟨j,t',e1,e2⟩:=u;rcases lockL hL e1 with⟨_,_,_,z⟩| ⟨_,e1⟩
    cases z;exact I1.dj j i t' _ (fun z=>by subst z;rw[h2]at e1;cases e1) e1 h2 b e2 h3
   intro F' H' S' ρ' σ' s' I' ⟨q1,q2⟩;have sk:=s'.kill;have Ik:=I'.drop (kill_len tg.ix ρ') fun i sl e=>(kill_get _ _ i sl e).1;obtain⟨S2,I2,s2⟩:=unlock_ok hL I1 sk Ik fun i hi=>(q1 i hi).2;exact ok1.nx _ _ _ _ _ s2 I2 q2;intro v t W F' H' S' ρ' σ' s' I' r hw fr q;exact ok1.rt v t W F' H' S' ρ' σ' ⟨s'.ff,fun b u e n=>s'.hh b u e fun z=>n (lockLU hL z),s'.dm,fun b e z=>(s'.fn b e z).imp (lockLU hL) id,fun b u=>(s'.uu b u).imp (lockLU hL) id,s'.sg⟩ I' r hw (fun b hb=>(fr b hb).imp id (lockLU hL)) q
 | .own i e,F,H,S,ρ,σ,Z,Dn,c,I,X,h,ok=>by refine(MA g e).e (Q:=fun x n ρ1=>esc x n=true/\Z.nx (ρ1.set i (some (.own x)))) I X h fun v F' H' S' ρ' x n Za s J r ⟨he,q⟩=>?_;obtain⟨W,r2,hw,fr⟩:=r.strict he;exact ok.nx _ _ _ _ _ (s.toStp.sts.setN i (not_mem c) v x fr) (J.setN i r2 fun j sl _ e b hb=>hw.nw j sl e b hb) q
 | .six j i e,F,H,S,ρ,σ,Z,Dn,c,I,X,h,ok=>by
  have h:ownV ρ[j]? _:=h;unfold ownV at h;split at h;rename_i t hj;obtain⟨v0,hv,r0⟩:=I.sl j _ hj;have r0:Tr K F H true v0 t (S j):=r0;show(wp K Γ e EK).e σ H fun v H1=>(match σ[j]? with|some (some ov)=>(wp K Γ i EK).e σ H1 fun iv H3=>rSetL ov iv v H3 fun H4=>Dn.nx σ H4|_=>False)
  refine one_f (MA g e) (I.lock1 hj) (X.lock1 hj) h fun xv F1 H1 S1 ρ1 x n Zx s1 I1 X1 _ er1 _ ⟨he,q1⟩=>?_;have rx:=er1 he;rw[hv];refine one_f (MA g i) I1 X1 q1 fun iv F2 H2 S2 ρ2 y m Zy s2 I2 X2 _ er2 _ ⟨he2,hj2,q2⟩=>?_;have s12:=s1.trans s2;refine st_okT (s12.toStp.keep r0 (I.lock1U hj)) (er2 he2) (rx.mono s2.ff) q2 fun t' H3 S3 hh dm rt sub q=>?_;obtain⟨st,I3,_⟩:=put_root (W:=fun _=>False) I hj hv s12 I2 hh dm rt (fun b hb=>.inl (sub b hb)) .none (fun _ z=>z.elim);exact ok.nx _ _ _ _ _ st.toStp.sts I3 q
  all_goals exact h.elim
 | .pap j k e,F,H,S,ρ,σ,Z,Dn,c,I,X,h,ok=>by
  have h:ownV ρ[j]? _:=h;unfold ownV at h;split at h;rename_i t hj;obtain⟨v0,hv,r0⟩:=I.sl j _ hj;have r0:Tr K F H true v0 t (S j):=r0;have later:∀{F' H':Hp}{S':Ft}{ρ':yA},Ste F H S (ρ.set j (some (.nj t))) F' H' S' ρ'->∀b,S j b->H' b=H b:=fun {F' H' S' ρ'} s b hb=>by
   cases e:H b with
   |none=>exact absurd e (r0.dom b hb).1
   |some u=>exact s.hh b u e (I.lock1U hj b hb)
  show(match σ[j]? with|some (some ov)=>(wp K Γ k EK).e σ H fun iv H1=>rIxU K ov iv H1 fun w H2=>tyV K "list" w H2/\(wp K Γ e EK).e σ H2 fun xv H3=>rAppU w [xv] H3 fun _ H4=>Dn.nx σ H4|_=>False);rw[hv];refine one_f (MA g k) (I.lock1 hj) (X.lock1 hj) h fun iv F1 H1 S1 ρ1 y m Zy s1 I1 X1 _ er1 _ ⟨he1,us,i,n,ts,et,ey,hi,hu,q1⟩=>?_;subst et;have r1:=s1.toStp.keep r0 (I.lock1U hj);obtain⟨a,ws,b,vs,P1,rfl,ha,za,wl,hw,hb,_⟩:=tup_put r1 hu;have ri:=er1 he1;rw[ey]at ri;cases ri;refine⟨ws,.ref b,.inr (SqT.of ha),?_,.inl ⟨rfl,_,SqL.of hb⟩,?_⟩;unfold uC;rw[wl,hi];exact hw;refine(MA g e).e I1 X1 q1 fun xv F2 H2 S2 ρ2 x l Zx s2 I2 r2 ⟨he2,hj2,hl,q2⟩=>?_;have s12:=s1.trans s2;have r3:=s12.toStp.keep r0 (I.lock1U hj);obtain⟨W,rw',hwd,frw⟩:=(r2.from s1.toStp).strict he2;obtain⟨a',ws',b',vs',Q1,ea,ha',za',_,hw',hb',h3,zb,sub,nb,put⟩:=tup_put r3 hu;cases ea;have e2:ws'=ws:=by rw[later s12 a za,<- later s1 a za,ha]at ha';cases ha';rfl
  subst e2;rw[hw]at hw';cases hw';have wS:∀c,S j c->¬ W c:=fun c hc hc2=>by rcases frw c hc2 with q|q;exact(r0.dom c hc).1 q;exact I.lock1U hj c hc q
  refine⟨vs',hb',by rw[h3.length];exact hl,?_⟩;have t0:=h3.mono (F':=F2) (H':=FB H2 b (.lst (vs'++[xv]))) (.refl _) fun c hc=>⟨fA fun z=>nb (by rw[<- z];exact hc),(h3.dom c hc).2⟩
  have t1:=rw'.mono (F':=F2) (H':=FB H2 b (.lst (vs'++[xv]))) (.refl _) fun c hc=>⟨fA fun z=>wS b zb (by rw[<- z];exact hc),(rw'.dom c hc).2⟩
  obtain⟨P2,p1,p2⟩:=put _ _ _ _ W (fun c _ _ hb=>fA hb) nB (Trs.append t0 (Trs.one t1) fun c hc=>wS c (sub c hc)) (fun c hc=>hc) wS;obtain⟨st,I3,_⟩:=put_root (W:=W) I hj hv s12 I2 (fun c u e n=>(fA fun z=>n (by rw[z];exact zb)).trans e) (fun c=>upd_none c) p1 (fun c hc=>(p2 c hc).imp id .inl) hwd frw;exact ok.nx _ _ _ _ _ st.toStp.sts I3 q2
  all_goals exact h.elim
 | .frz is s,F,H,S,ρ,σ,Z,Dn,c,I,X,h,ok=>by obtain⟨F',S',I',s'⟩:=I.frzAt (C:=C) is;exact psnds g s c I' (X.fromS s') h (ok.from s')
 | .hs s,F,H,S,ρ,σ,Z,Dn,c,I,X,h,ok=>hs_ok (Γ:=Γ) s c I h fun F' H' S' ρ' σ' a b q=>ok.nx F' H' S' ρ' σ' a b q
end
noncomputable def tyB(x:Str)(n:String):Bool:=(x==("bool":Str)&&n == "bool")||(x==("int":Str)&&n == "int")||(x==("str":Str)&&n == "str")||(x==("list":Str)&&n == "list")||(x==("tuple":Str)&&n == "tuple")||(x==("ValueError":Str)&&n == "ValueError")
theorem tyB_ok{x:Str}{n:String}(h:tyB x n=true):bootBuiltins x=some (.type n):=by simp only[tyB,qi,QU,beq_iff_eq]at h;rcases h with((((⟨rfl,rfl⟩| ⟨rfl,rfl⟩)|⟨rfl,rfl⟩)|⟨rfl,rfl⟩)|⟨rfl,rfl⟩)|⟨rfl,rfl⟩<;>kernel_rfl
structure Need where
 fn:List Str
 va:List Str
 no:List Str
 dc:List Str:=[]
noncomputable def prmB(n:Need):Prm->Bool
 | .dget x | .dix x | .dgetD x=>n.dc.contains x
 | .tmul=>true
noncomputable def ikB(n:Need):ItK->Bool
 | .val=>true
 | .rng1 | .rng3=>n.no.contains ("range":Str)
 | .zip2=>n.no.contains ("zip":Str)
 | .enum | .enumA=>n.no.contains ("enumerate":Str)
noncomputable def BB(n:Need):PX->Bool
 | .glo x=>n.va.contains x
 | .bty x t=>n.no.contains x&&tyB x t
 | .bin _ a b | .cmp _ a b | .and a b | .or a b | .idx a b | .ng a b=>BB n a&&BB n b
 | .not a | .lst a | .tup a | .eff a=>BB n a
 | .chn _ _ a b c | .ife a b c | .slc a b c=>BB n a&&(BB n b&&BB n c)
 | .call f as=>n.fn.contains f&&BB n as
 | .bi f as=>n.no.contains f.nm&&BB n as
 | .prm o as=>prmB n o&&BB n as
 | .isi a c=>n.no.contains ("isinstance":Str)&&(BB n a&&BB n c)
 | .mt _ o as=>BB n o&&BB n as
 | .comp _ _ _ ik its cond elt=>ikB n ik&&(BB n its&&(BB n cond&&BB n elt))
 |_=>true
noncomputable def needSB(n:Need):PT->Bool
 | .seq s r=>needSB n s&&needSB n r
 | .set _ e=>BB n e
 | .own _ e=>BB n e
 | .expr e=>BB n e
 | .ret e=>BB n e
 | .ife c a b=>BB n c&&(needSB n a&&needSB n b)
 | .for_ _ ik its body=>ikB n ik&&(BB n its&&needSB n body)
 | .nil=>true
 | .six _ i e=>BB n i&&BB n e
 | .pap j k e=>BB n (papX j k e)
 | .frz _ s=>needSB n s
 | .hs s=>needSB n s
 | .rse=>true
noncomputable def globOf(ev:Ev)(n:Need):Glob:=⟨ev,fun f=>f∈n.fn,fun x=>x∈n.va,fun x=>x∈n.no,fun x=>x∈n.dc⟩
theorem ikB_ok{ev:Ev}{n:Need}{ik:ItK}(h:ikB n ik=true):ikN (globOf ev n) ik:=by
 cases ik with
 |val=>trivial
 |_=>exact Qo.mp h
theorem prmB_ok{ev:Ev}{n:Need}{o:Prm}(h:prmB n o=true):prmN (globOf ev n) o:=by
 cases o with
 |tmul=>trivial
 |dget x=>exact Qo.mp h
 |dix x=>exact Qo.mp h
 |dgetD x=>exact Qo.mp h
theorem needB_ok{ev:Ev}{n:Need}:∀(p:PX),BB n p=true->dB (globOf ev n) p:=by
 intro p;induction p with
 |glo x=>intro h;exact Qo.mp h
 |bty x t=>intro h;obtain⟨h1,h2⟩:=jA h;exact⟨Qo.mp h1,tyB_ok h2⟩
 |bin _ a b ia ib|cmp _ a b ia ib|and a b ia ib|or a b ia ib|idx a b ia ib|ng a b ia ib=>intro h;obtain⟨h1,h2⟩:=jA h;exact⟨ia h1,ib h2⟩
 |not a ia|lst a ia|tup a ia|eff a ia=>intro h;exact ia h
 |chn _ _ a b c ia ib ic|ife a b c ia ib ic|slc a b c ia ib ic=>intro h;obtain⟨h1,h23⟩:=jA h;obtain⟨h2,h3⟩:=jA h23;exact⟨ia h1,ib h2,ic h3⟩
 |call f as ia=>intro h;obtain⟨h1,h2⟩:=jA h;exact⟨Qo.mp h1,ia h2⟩
 |bi f as ia=>intro h;obtain⟨h1,h2⟩:=jA h;exact⟨Qo.mp h1,ia h2⟩
 |prm o as ia=>intro h;obtain⟨h1,h2⟩:=jA h;exact⟨prmB_ok h1,ia h2⟩
 |isi a c ia ic=>intro h;obtain⟨h1,h23⟩:=jA h;obtain⟨h2,h3⟩:=jA h23;exact⟨Qo.mp h1,ia h2,ic h3⟩
 |mt _ o as io ia=>intro h;obtain⟨h1,h2⟩:=jA h;exact⟨io h1,ia h2⟩
 |comp _ _ _ ik its cond elt i1 i2 i3=>intro h;obtain⟨h1,h⟩:=jA h;obtain⟨h2,h⟩:=jA h;obtain⟨h3,h4⟩:=jA h;exact⟨ikB_ok h1,i1 h2,i2 h3,i3 h4⟩
 |_=>intro _;trivial
theorem needSB_ok{ev:Ev}{n:Need}:∀(p:PT),needSB n p=true->needsS (globOf ev n) p:=by
 intro p;induction p with
 |seq s r is ir=>intro h;obtain⟨h1,h2⟩:=jA h;exact⟨is h1,ir h2⟩
 |set _ e|own _ e|expr e|ret e=>intro h;exact needB_ok _ h
 |six _ i e=>intro h;obtain⟨h1,h2⟩:=jA h;exact⟨needB_ok _ h1,needB_ok _ h2⟩
 |pap j k e=>intro h;exact needB_ok _ h
 |frz _ s is=>intro h;exact is h
 |hs s is=>intro h;exact is h
 |ife c a b ia ib=>intro h;obtain⟨h1,h23⟩:=jA h;obtain⟨h2,h3⟩:=jA h23;exact⟨needB_ok _ h1,ia h2,ib h3⟩
 |for_ _ ik its body ib=>intro h;obtain⟨h1,h23⟩:=jA h;obtain⟨h2,h3⟩:=jA h23;exact⟨ikB_ok h1,needB_ok _ h2,ib h3⟩
 |_=>intro _;trivial
noncomputable def fnScopeB(N ps:List Str)(sc:Scope):Bool:=sc.kind==.function&&!sc.isCoroutine&&!sc.isGenerator&&nodupB N&&N.take ps.length==ps &&
 ps.all (fun x=>sc.names.lookup x==some .local||sc.names.lookup x==some .cell)&&sc.names.all fun y=>y.2 != .free
theorem fnScopeB_ok{N ps:List Str}{sc:Scope}(h:fnScopeB N ps sc=true):FnScope N ps sc:=by simp only[fnScopeB,QU,Qn,qi,beq_iff_eq,wQ,bne_iff_ne,ne_eq]at h;obtain⟨⟨⟨⟨⟨⟨h1,h2⟩,h3⟩,h4⟩,h5⟩,h6⟩,h7⟩:=h;exact⟨h1,h2,h3,nodupB_ok h4,h5,h6,h7⟩
noncomputable def jC(n:Need)(b:PT)(N ps:List Str)(st:Stmt):Bool:=fnScopeB N ps (IA st)&&chkS b ⟨N,IA st⟩ (RC st)&&needSB n b
noncomputable def parS:Md->T->Sl
 | .chg,t=>.own t
 |_,t=>.nj t
noncomputable def parP:List Md->List T->yA
 |_,[]=>[]
 |md,t::ts=>some (parS (md.headD .nk) t)::parP md.tail ts
noncomputable def uA(N:List Str)(md:List Md)(ts:List T):yA:=parP md ts++QH (N.length - ts.length) none
noncomputable def cC:Nat->List Md->Nat->List Nat
 |_,_,0=>[]
 |k,md,n+1=>match md.headD .nk with
  | .chg=>k::cC (k+1) md.tail n
  |_=>cC (k+1) md.tail n
noncomputable def outV:Option (List T)->(List T->Prop)->Prop
 |some os,Q=>Q os
 |none,_=>False
noncomputable def DA(P:PSp)(n:Nat)(Q:T->List T->Prop):PEnds where
 nx:=fun ρ=>outV (vB (cC 0 P.md n) ρ) (Q (.d .none))
 rt:=fun t ρ=>outV (vB (cC 0 P.md n) ρ) (Q t)
noncomputable def vaOf(mg:Str->Option Value)(x:Str):V:=((mg x).bind absV).getD .non
noncomputable def entV(e:DictEntry):Str×V:=((match e.key with | .str z _=>z|_=>""),(absV e.val).getD .non)
noncomputable def dcOf(K:QA)(mg:Str->Option Value)(x:Str):Option (List (Str×V)):=match mg x with
 |some (.ref a)=>match K.lookup a with
  |some o=>match o.data with
   | .dict es _=>some (es.toList.map entV)
   |_=>none
  |none=>none
 |_=>none
noncomputable def evOf(K:QA)(mg:Str->Option Value)(Ψ:PEv):Ev:=⟨fun f=>lift K (Ψ.sp f),vaOf mg,dcOf K mg⟩
structure DictOk(P:Program)(w:World)(K:QA)(mg:Str->Option Value)(x:Str)(kds:List (Str×D)):Prop where
 at':∃a kvs,mg x=some (.ref a)/\dcOf K mg x=some kvs/\DcAt P w K a kvs/\Paired (fun(p:Str×V) (q:Str×D)=>p.1=q.1/\∀F,Rep K F p.2 q.2) kvs kds
structure ValsOk(P:Program)(w:World)(K:QA)(mg:Str->Option Value)(Ψ:PEv)(va dc:List Str):Prop where
 dic:∀x kds,Ψ.dc x=some kds->DictOk P w K mg x kds
 hasD:∀x∈dc,∃kds,Ψ.dc x=some kds
 rep:∀x d,Ψ.va x=some d->∀F,Rep K F (vaOf mg x) d
 has:∀x∈va,∃u v,mg x=some u/\absV u=some v
theorem rel_abs{u:Value}{v:V}(h:absV u=some v):FA v u:=by cases u<;>simp[absV]at h<;>subst h<;>first|rfl|exact⟨_,rfl⟩
section
variable{P:Program}{w:World}{K:QA}{mg:Str->Option Value}{base:Heap}{Ψ:PEv}
def NA(P:Program)(w:World)(K:QA)(mg:Str->Option Value)(base:Heap)(Ψ:PEv)(k:Nat)(f:Str):Prop :=
 ∃(a:Addr) (fd:FuncData) (ps:List Str),FnOk P w K mg base CX0 k a fd ps (lift K (Ψ.sp f))/\mg f=some (.ref a)/\we K (.ref a)=true/\Binds K fd ps []
theorem NA.mono{j k:Nat}{f:Str}(h:NA P w K mg base Ψ j f)(hk:j<=k):NA P w K mg base Ψ k f:=by obtain⟨a,fd,ps,h1,h2⟩:=h;exact⟨a,fd,ps,h1.mono hk,h2⟩
theorem ArgsR.length{F H:Hp}{Y:KA}:∀{md:List Md}{vs:List V}{ts:List T},ArgsR K F H Y md vs ts->vs.length=ts.length
 |_,_,_,.nil=>rfl
 |_,_,_,.chg _ t=>by rw[QL,QL,ArgsR.length t]
 |_,_,_,.rd _ _ _ t=>by rw[QL,QL,ArgsR.length t]
theorem parP_len:∀(m:List Md) (ts:List T),(parP m ts).length=ts.length
 |_,[]=>rfl
 |m,d::ds=>by unfold parP;rw[QL,QL,parP_len]
theorem parS_bor{m:Md}(h:m≠.chg)(t:T):parS m t=.nj t:=by cases m<;>first|rfl|exact absurd rfl h
theorem mutVs_cons(md:List Md)(v:V)(vs:List V):xB md (v::vs)=match md.headD .nk with | .chg=>v::xB md.tail vs|_=>xB md.tail vs:=by first | (rw[xB];done) | (rw[xB];cases md.headD .nk<;>rfl)
theorem mutTs_cons(md:List Md)(v:T)(vs:List T):CB md (v::vs)=match md.headD .nk with | .chg=>v::CB md.tail vs|_=>CB md.tail vs:=by first | (rw[CB];done) | (rw[CB];cases md.headD .nk<;>rfl)
theorem parP_cons(md:List Md)(t:T)(ts:List T):parP md (t::ts)=some (parS (md.headD .nk) t)::parP md.tail ts:=by rw[parP]
theorem args_rl{F H:Hp}{Y:KA}:∀{md:List Md}{vs:List V}{ts:List T}{M:KA},ArgsR K F H Y md vs ts->Trs K F H true (xB md vs) (CB md ts) M ->
  ∃Z:Ft,(∀(i:Nat) s,(parP md ts)[i]?=some (some s)->∃v,vs[i]?=some v/\Tr K F H s.st v s.t (Z i))/\(∀(i:Nat) t,(parP md ts)[i]?=some (some (.own t))->∀b,Z i b->M b)/\(∀(i:Nat) t,(parP md ts)[i]?=some (some (.nj t))->∀b,Z i b->Y b) /\
   ∀(i j:Nat) t u,i≠j->(parP md ts)[i]?=some (some (.own t))->(parP md ts)[j]?=some (some (.own u))->∀b,Z i b->¬ Z j b
 |md,_,_,M,.nil,_=>⟨fun _ _=>False,fun i s e=>by simp[parP]at e,fun i t e=>by simp[parP]at e,fun i t e=>by simp[parP]at e,fun i j t u _ e=>by simp[parP]at e⟩
 |md,_,_,M,.chg (v:=v) (vs:=vs) (t:=t) (ts:=ts) hm tl,r=>by
  have e1:xB md (v::vs)=v::xB md.tail vs:=by rw[mutVs_cons,hm]
  have e2:CB md (t::ts)=t::CB md.tail ts:=by rw[mutTs_cons,hm]
  rw[e1,e2]at r;cases r with
  |@cons _ _ _ _ _ _ Z1 Z2 r1 r2 n q =>
   obtain⟨Z,h1,h2,h3,h4⟩:=args_rl tl r2;have ep:parP md (t::ts)=some (.own t)::parP md.tail ts:=by rw[parP_cons,hm];rfl
   rw[ep];refine⟨fun i=>match i with|0=>Z1|i+1=>Z i,fun i s e=>?_,fun i u e b hb=>?_,fun i u e b hb=>?_,fun i j u w ne e e' b hb hb'=>?_⟩;cases i with
   |zero=>simp at e;subst e;exact⟨v,rfl,r1⟩
   |succ i=>exact h1 i s (by simpa using e)
   cases i with
   |zero=>exact(q b).mpr (.inl hb)
   |succ i=>exact(q b).mpr (.inr (h2 i u (by simpa using e) b hb))
   cases i with
   |zero=>simp at e
   |succ i=>exact h3 i u (by simpa using e) b hb
   cases i with
   |zero =>
    cases j with
    |zero=>exact ne rfl
    |succ j=>exact n b hb (h2 j w (by simpa using e') b hb')
   |succ i =>
    cases j with
    |zero=>exact n b hb' (h2 i u (by simpa using e) b hb)
    |succ j=>exact h4 i j u w (fun z=>ne (by rw[z])) (by simpa using e) (by simpa using e') b hb hb'
 |md,_,_,M,.rd (v:=v) (vs:=vs) (t:=t) (ts:=ts) (Z:=Z1) hm r1 hz tl,r=>by
  have e1:xB md (v::vs)=xB md.tail vs:=by rw[mutVs_cons];cases e:md.headD .nk<;>first|exact absurd e hm|rfl
  have e2:CB md (t::ts)=CB md.tail ts:=by rw[mutTs_cons];cases e:md.headD .nk<;>first|exact absurd e hm|rfl
  rw[e1,e2]at r;obtain⟨Z,h1,h2,h3,h4⟩:=args_rl tl r;have ep:parP md (t::ts)=some (.nj t)::parP md.tail ts:=by rw[parP_cons,parS_bor hm]
  rw[ep];refine⟨fun i=>match i with|0=>Z1|i+1=>Z i,fun i s e=>?_,fun i u e b hb=>?_,fun i u e b hb=>?_,fun i j u w ne e e' b hb hb'=>?_⟩;cases i with
  |zero=>simp at e;subst e;exact⟨v,rfl,r1⟩
  |succ i=>exact h1 i s (by simpa using e)
  cases i with
  |zero=>simp at e
  |succ i=>exact h2 i u (by simpa using e) b hb
  cases i with
  |zero=>exact hz b hb
  |succ i=>exact h3 i u (by simpa using e) b hb
  cases i with
  |zero=>simp at e
  |succ i =>
   cases j with
   |zero=>simp at e'
   |succ j=>exact h4 i j u w (fun z=>ne (by rw[z])) (by simpa using e) (by simpa using e') b hb hb'
theorem start_ok{F H:Hp}{N:List Str}{Y M:KA}{md:List Md}{vs:List V}{ts:List T}(f:Same F H)(h:ArgsR K F H Y md vs ts)(hm:Trs K F H true (xB md vs) (CB md ts) M)(dj:∀b,Y b->¬ M b) :
  ∃S,Rl K F H S (uA N md ts) (start N vs)/\∀b,U (uA N md ts) S b->M b:=by
 obtain⟨Z,h1,h2,h3,h4⟩:=args_rl h hm;have hl:=h.length;have get:∀(i:Nat) s,(uA N md ts)[i]?=some (some s)->(parP md ts)[i]?=some (some s):=fun i s e=>by
  unfold uA at e;rcases Wv i ts.length with z|z
  ·rwa [qD (by rw[parP_len];exact z)]at e
  rw[Qv (by rw[parP_len];exact z),qp]at e;split at e<;>cases e
 refine⟨Z,⟨f,?_,fun i s e=>?_,fun i j t s n e1 e2 b hb hb'=>?_⟩,fun b ⟨i,t,e,hb⟩=>h2 i t (get i _ e) b hb⟩;unfold uA start;rw[QK,QK,parP_len,QG,Q7,Q7,hl];obtain⟨v,g1,g2⟩:=h1 i s (get i s e);refine⟨v,?_,g2⟩;unfold start;rw[qD (by rw[QG];exact(Qj.mp g1).1),Qd,g1];rfl;cases s with
 |own u=>exact h4 i j t u n (get i _ e1) (get j _ e2) b hb hb'
 |nj u=>exact dj b (h3 j u (get j _ e2) b hb') (h2 i t (get i _ e1) b hb)
theorem chgIx_map:∀{md:List Md}{k n:Nat}{vs:List V}{σ:St},vs.length=n->(∀(i:Nat) v,vs[i]?=some v->σ[k+i]?=some (some v))->(xB md vs).map (fun v=>some (some v))=(cC k md n).map fun j=>σ[j]?
 |md,k,0,vs,σ,h,g=>by
  cases vs with
  |nil=>rfl
  |cons _ _=>cases h
 |md,k,n+1,vs,σ,h,g=>by
  cases vs with
  |nil=>cases h
  |cons v vs =>
   have ih:=chgIx_map (md:=md.tail) (k:=k+1) (n:=n) (vs:=vs) (σ:=σ) (by simpa using h) fun i w hw=>by have:=g (i+1) w (by simpa using hw);rw[show k+1+i=k+(i+1) by omega];exact this
   have g0:=g 0 v rfl;rw[mutVs_cons];unfold cC;cases e:md.headD .nk with
   |chg=>simp only[QS,ih];rw[show σ[k]?=some (some v) from g0]
   |_=>exact ih
theorem chgIx_ge:∀{md:List Md}{k n j:Nat},j∈cC k md n->k<=j
 |md,k,0,j,h=>by simp[cC]at h
 |md,k,n+1,j,h=>by
  unfold cC at h;cases e:md.headD .nk with
  |chg=>rw[e]at h;rcases QI.mp h with z|z;omega;have:=chgIx_ge z;omega
  |_=>rw[e]at h;have:=chgIx_ge h;omega
theorem chgIx_nd:∀(md:List Md) (k n:Nat),(cC k md n).Nodup
 |md,k,0=>QAz
 |md,k,n+1=>by
  have ih:=chgIx_nd md.tail (k+1) n;unfold cC;cases e:md.headD .nk with
  |chg=>exact wB.mpr ⟨fun z=>by have:=chgIx_ge z;omega,ih⟩
  |_=>exact ih
theorem fn_def{R:PSp}{x qual:Str}{st:Stmt}{f:Addr}{fd:FuncData}{N ps:List Str}{k:Nat}{b:PT}{n:Need}(F:Fun K x qual st f fd)(xC:jC n b N ps st=true)(hc:noSt (cC 0 R.md ps.length) b=true)
  (fns:∀g∈n.fn,NA P w K mg base Ψ k g) (vals:ValsOk P w K mg Ψ n.va n.dc) (nos:∀y∈n.no,mg y=none)
  (body:∀ts Q E,R.run ts Q E->ts.length=ps.length/\nA Ψ (fun _=>False) b (DA R ps.length Q) (uA N R.md ts)):FnOk P w K mg base CX0 (k+1) f fd ps (lift K R):=by
 obtain⟨c12,c3⟩:=jA xC;obtain⟨c1,c2⟩:=jA c12;have S:=fnScopeB_ok c1;refine F.ok S (fun vs H Q E h=>?_) (fun cdv A outer s H vs Q E hr h=>?_);obtain⟨F',ts,M,Y,h1,h2,h3,h4,h5⟩:=h;rw[h2.length];exact(body ts _ _ h5).1;obtain⟨F',ts,M,Y,h1,h2,h3,h4,h5⟩:=h;have q:=(body ts _ _ h5).2;have hlen:=(body ts _ _ h5).1;have ok:OkS ((cxOf CX0 P w K mg base N qual (IA st) f cdv A outer s H E).nox) ⟨N,IA st⟩ (globOf (evOf K mg Ψ) n) E0:={
  N:=rfl
  sc:=rfl
  calm:=rfl
  un:=by have:=hr.un;show(A.deeper _).units+66<cLine;omega
  fn:=fun g hg=>by obtain⟨a,gd,gps,g1,g2,g3,g4⟩:=fns g hg;exact⟨CX0,k,a,gd,gps,g1,hr,g2,g3,g4,pass0,fun _ _ _ _ _ z=>z⟩
  val:=fun y hy=>by obtain⟨u,v,e1,e2⟩:=vals.has y hy;refine⟨u,e1,?_⟩;show FA (vaOf mg y) u;unfold vaOf;rw[e1];show FA ((absV u).getD .non) u;rw[e2];exact rel_abs e2
  no:=fun y hy=>nos y hy
  dic:=fun y hy=>by obtain⟨kds,e⟩:=vals.hasD y hy;obtain⟨a,kvs,h1,h2,h3,_⟩:=(vals.dic y kds e).at';exact⟨a,kvs,h1,h2,h3⟩
  po:=PassesOwn.never
  nd:=S.nd
  cel:=fun _=>rfl }
 refine⟨_,(snds b ok c2 (needSB_ok b c3)).1,?_⟩;obtain⟨S0,I,hU⟩:=start_ok (N:=N) h1 h2 h3 h4;have g:GOk K (evOf K mg Ψ) Ψ:=⟨fun _ _ _ _ _ h=>h,fun y d e F=>vals.rep y d e F,fun y kds e=>by obtain⟨a,kvs,_,h2,_,h4⟩:=(vals.dic y kds e).at';exact⟨kvs,h2,h4⟩⟩
 have hvl:vs.length=ps.length:=h2.length.trans hlen;have fin:∀v t W F2 H2 S2 ρ2 σ2,Stc (cC 0 R.md ps.length) F' H S0 (uA N R.md ts) (start N vs) F2 H2 S2 ρ2 σ2->Rl K F2 H2 S2 ρ2 σ2->Tr K F2 H2 true v t W->Held F2 H2 S2 ρ2 W->(∀b,W b->H b=none∨U (uA N R.md ts) S0 b) ->
   outV (vB (cC 0 R.md ps.length) ρ2) (fun os=>∀v F3 H3 Z M',Frm M F' H F3 H3->Tr K F3 H3 true v t Z->Trs K F3 H3 true (xB R.md vs) os M'->(∀b,Z b->¬ M' b)->(∀b,Z b∨M' b->M b∨H b=none)->Q v H3)->Q v H2:=by
  intro v t W F2 H2 S2 ρ2 σ2 s I2 r hw fr q;cases eo:vB (cC 0 R.md ps.length) ρ2 with
  |none=>rw[eo]at q;exact q.elim
  |some os =>
   rw[eo]at q;have hv:(xB R.md vs).map (fun v=>some (some v))=(cC 0 R.md ps.length).map fun j=>σ2[j]?:=by rw[chgIx_map (md:=R.md) (k:=0) (n:=ps.length) (vs:=vs) (σ:=start N vs) hvl fun i w hw=>?_];exact QBB fun j hj=>(s.sg j hj).symm;unfold start;rw[Nat.zero_add,qD (by rw[QG];exact(Qj.mp hw).1),Qd,hw];rfl
   have trs:=I2.trs (chgIx_nd _ _ _) eo hv;have own:∀j∈cC 0 R.md ps.length,∃t,ρ2[j]?=some (some (.own t)):=fun j hj=>by obtain⟨i,hi⟩:=WZ.mp hj;obtain⟨t,_,e⟩:=(ownsAt_some eo).2 i j hi;exact⟨t,e⟩
   have lk:∀b,U (uA N R.md ts) S0 b∨H b=none->M b∨H b=none:=fun b hb=>hb.imp (hU b) id;refine q v F2 H2 W _ ⟨s.ff,I2.fh,fun b u e n=>s.hh b u e fun z=>n (hU b z),s.dm,fun b e z=>lk b (s.fn b e z)⟩ r trs (fun b hb ⟨j,hj,z⟩=>?_) fun b hb=>?_;obtain⟨t',e⟩:=own j hj;exact hw.nw j _ e b hb z;rcases hb with hb|⟨j,hj,z⟩
   ·exact lk b (fr b hb).symm
   obtain⟨t',e⟩:=own j hj;exact lk b (s.uu b ⟨j,t',e,z⟩)
 refine psnds g b hc I (fun _ _ _ _ _ _ _ _ _ z=>z.elim) q ⟨?_,?_,fun _ _ _ _ _ _ _ z=>z.elim,fun _ _ _ _ _ _ _ z=>z.elim⟩;intro F2 H2 S2 ρ2 σ2 s I2 q;exact fin .non (.d .none) (fun _=>False) F2 H2 S2 ρ2 σ2 s.c I2 (.d .non fun _ z=>z) .none (fun _ z=>z.elim) q;intro v t W F2 H2 S2 ρ2 σ2 s I2 r hw fr q;exact fin v t W F2 H2 S2 ρ2 σ2 s I2 r hw fr q
theorem have_def{R:PSp}{Ψ':PEv}{x qual:Str}{st:Stmt}{f:Addr}{fd:FuncData}{N ps:List Str}{k:Nat}{b:PT}{n:Need}(F:Fun K x qual st f fd)(hm:mg x=some (.ref f))(hb:Binds K fd ps [])(xC:jC n b N ps st=true)(hc:noSt (cC 0 R.md ps.length) b=true)
  (fns:∀g∈n.fn,NA P w K mg base Ψ k g) (vals:ValsOk P w K mg Ψ n.va n.dc) (nos:∀y∈n.no,mg y=none)
  (body:∀ts Q E,R.run ts Q E->ts.length=ps.length/\nA Ψ (fun _=>False) b (DA R ps.length Q) (uA N R.md ts)) (hR:Ψ'.sp x=R):NA P w K mg base Ψ' (k+1) x :=
 ⟨f,fd,ps,by rw[hR];exact fn_def F xC hc fns vals nos body,hm,F.kp,hb⟩
theorem have_no{x qual:Str}{st:Stmt}{f:Addr}{fd:FuncData}{N ps:List Str}{k:Nat}{b:PT}{n:Need}(F:Fun K x qual st f fd)(hm:mg x=some (.ref f))(hb:Binds K fd ps [])(xC:jC n b N ps st=true)(hR:∀ts Q E,¬ (Ψ.sp x).run ts Q E):NA P w K mg base Ψ (k+1) x:=by refine⟨f,fd,ps,F.ok (fnScopeB_ok (jA (jA xC).1).1) (fun vs H Q E h=>?_) (fun cdv A outer s H vs Q E hr h=>?_),hm,F.kp,hb⟩;obtain⟨F',ts,M,Y,h1,h2,h3,h4,h5⟩:=h;exact(hR _ _ _ h5).elim;obtain⟨F',ts,M,Y,h1,h2,h3,h4,h5⟩:=h;exact(hR _ _ _ h5).elim
end
noncomputable def pLaw:PSp where
 md:=[.nq]
 run:=fun ts Q _=>∃ns:List Int,ns.length<=63/\(∀n∈ns,qK n<=1048576)/\ts=[.lst ((ns.map PyData.int).map T.d)]/\Q (.d (.bool true)) []
 mono:=fun h _ ⟨ns,h1,h2,h3,q⟩=>⟨ns,h1,h2,h3,h _ _ q⟩
noncomputable def pNo:PSp:=⟨[],fun _ _ _=>False,fun _ _ h=>h⟩
theorem reps_ints{K:QA}{F:Hp}:∀(ns:List Int),Reps K F (ns.map V.int) (ns.map PyData.int)
 |[]=>.nil
 |n::r=>.cons (.int n) (reps_ints r)
theorem law_sp(K:QA)(H:Hp)(a:Addr)(ns:List Int)(hl:ns.length<=63)(hw:∀n∈ns,qK n<=1048576)(hS:SqL K H a (ns.map V.int)):lift K pLaw [.ref a] H (fun v _=>v=.bl true) fun _ _ _=>False:=by
 refine⟨H,[.lst ((ns.map PyData.int).map T.d)],fun _=>False,fun _=>False,.refl _,.rd (Z:=fun _=>False) (by simp[pLaw]) (.lstF hS (reps_ints ns) fun _ z=>z) (fun _ z=>z) .nil,.nil fun _ z=>z,fun _ z=>z.elim,ns,hl,hw,rfl,fun v F' H' Z M' _ r _ _ _=>?_⟩;cases r with
 |d r _=>cases r;rfl
theorem weight_mem{ns:List Int}:∀n∈ns,Wf (.int n)<=wZ (ns.map Wi.int):=by
 induction ns with
 |nil=>intro n hn;cases hn
 |cons m ns ih=>intro n hn;show _<=Wf (.int m)+1+wZ (ns.map Wi.int);rcases QI.mp hn with rfl|hn;omega;have:=ih n hn;omega
theorem bits_of{ns:List Int}(h:Wi.layableAll [.list (ns.map .int)]=true):∀n∈ns,qK n<=1048576:=by
 intro n hn;have h1:=(PySem.W.layableW_iff.mp (PySem.W.layableW_arg h _ QM)).2.2;have h2:wZ (ns.map Wi.int)<=2 ^ 20:=h1;have h3:=weight_mem n hn;have h4:Wf (.int n)=if n==0 then 0 else n.natAbs.log2+1:=rfl
 rw[PySem.intBits_le_iff];by_cases hz:n=0;subst hz;exact Nat.pow_pos (by decide);have:(n==0)=false:=by simpa using hz
 rw[h4,this]at h3;have h5:n.natAbs.log2+1<=1048576:=by have:n.natAbs.log2+1<=wZ (ns.map Wi.int):=h3;omega
 exact(QCD (show n.natAbs≠0 by omega)).mp (by omega)
def OA(K:QA)(x:Str)(st:Stmt):Prop:=∃f fd,Qt K mainGlobals x=some (some (.ref f))/\Fun K x x st f fd
def KD(K:QA)(x:Str)(d:D):Prop:=∃u v,Qt K mainGlobals x=some (some u)/\absV u=some v/\∀F,Rep K F v d
noncomputable def scD:Value->Option (V×D)
 | .int i _=>some (.int i,.int i)
 | .str z _=>some (.str z,.str z)
 | .bool b=>some (.bl b,.bool b)
 | .none=>some (.non,.none)
 |_=>none
theorem scD_ok{K:QA}{u:Value}{v:V}{d:D}(h:scD u=some (v,d)):FA v u/\∀F,Rep K F v d:=by unfold scD at h;split at h<;>cases h;exact⟨⟨_,rfl⟩,fun _=>.int _⟩;exact⟨⟨_,rfl⟩,fun _=>.str _⟩;exact⟨rfl,fun _=>.bl _⟩;exact⟨rfl,fun _=>.non⟩
theorem rep_at{K:QA}{f:Addr}{ds:List D}{od:Option Addr}{its:List Value}{n:Nat}{sl:Array (Option Value)}
  (l:K.lookup f=some ⟨.type "tuple",od,.seq its.toArray n,sl⟩) (h:(its.map scD).map (fun o=>o.map QB9)=ds.map some) (hz:ds.length<=sizeLine):∀F,Rep K F (.ref f) (.tuple ds):=by
 have key:∀(its:List Value) (ds:List D),(its.map scD).map (fun o=>o.map QB9)=ds.map some->∃vs,aA vs its/\∀F,Reps K F vs ds:=by
  intro its;induction its with
  |nil =>
   intro ds h;cases ds with
   |nil=>exact⟨[],.nil,fun _=>.nil⟩
   |cons _ _=>simp at h
  |cons u its ih =>
   intro ds h;cases ds with
   |nil=>simp at h
   |cons d ds =>
    simp only[QS,qj]at h;obtain⟨vs,h1,h2⟩:=ih ds h.2;cases e:scD u with
    |none=>rw[e]at h;cases h.1
    |some p=>rw[e]at h;obtain⟨v,d'⟩:=p;have:=Qw h.1;have:d'=d:=this;subst this;obtain⟨r1,r2⟩:=scD_ok (K:=K) e;exact⟨v::vs,.cons r1 h1,fun F=>.cons (r2 F) (h2 F)⟩
 obtain⟨vs,h1,h2⟩:=key its ds h;intro F;refine .tup (.inr ⟨_,its.toArray,n,l,rfl,rfl,?_,by simpa using h1⟩) (h2 F);have e1:=h1.length;have e2:=(h2 F).length;simp;omega
inductive Ent(K:QA)(w:World):List DictEntry->List (Str×D)->Prop where
 |nil:Ent K w [] []
 |cons {x:Str}{t:Tok}{u:Value}{v:V}{d:D}{es:List DictEntry}{kds:List (Str×D)}:absV u=some v->(∀F,Rep K F v d)->Ent K w es kds->Ent K w (⟨WV w.params x,.str x t,u⟩::es) ((x,d)::kds)
theorem Ent.sc{K:QA}{w:World}{x:Str}{t:Tok}{u:Value}{d:D}{es:List DictEntry}{kds:List (Str×D)}(h:(scD u).map QB9=some d)(r:Ent K w es kds):Ent K w (⟨WV w.params x,.str x t,u⟩::es) ((x,d)::kds):=by
 cases e:scD u with
 |none=>rw[e]at h;cases h
 |some p=>rw[e]at h;obtain⟨v,d'⟩:=p;have:d'=d:=Qw h;subst this;have ok:=(scD_ok (K:=K) e).2;unfold scD at e;split at e<;>cases e;exact .cons rfl ok r;exact .cons rfl ok r;exact .cons rfl ok r;exact .cons rfl ok r
def DictAt(w:World)(K:QA)(x:Str)(kds:List (Str×D)):Prop:=∃(a:Addr) (es:Array DictEntry) (ep:Nat),Qt K mainGlobals x=some (some (.ref a))/\(a==sysModules)=false/\K.lookup a=some ⟨.type "dict",none,.dict es ep,#[]⟩/\Ent K w es.toList kds/\(kds.map wj).Nodup
theorem Ent.all{K:QA}{w:World}{P:Program}{es:List DictEntry}{kds:List (Str×D)}(h:Ent K w es kds):∃us:List (Str×Value),us.map wj=kds.map wj/\KV (es.map entV) us/\Pairs (WK P w) es us/\(∀e∈es,∃k,(WK P w).is k e.key=true/\e.hash=(WK P w).hash k) /\
  Paired (fun(p:Str×V) (q:Str×D)=>p.1=q.1/\∀F,Rep K F p.2 q.2) (es.map entV) kds:=by
 induction h with
 |nil=>exact⟨[],rfl,.nil,.nil,fun _ z=>(by cases z),.nil⟩
 |@cons x t u v d es kds ha hr _ ih =>
  obtain⟨us,h1,h2,h3,h4,h5⟩:=ih;have ev:entV ⟨WV w.params x,.str x t,u⟩=(x,v):=by unfold entV;show(x,(absV u).getD .non)=(x,v);rw[ha];rfl
  refine⟨(x,u)::us,by simp[h1],?_,.cons (QB6 P w x t) rfl h3,fun e he=>?_,?_⟩;rw[QS,ev];exact .cons ⟨rfl,rel_abs ha⟩ h2;rcases QI.mp he with rfl|he
  ·exact⟨x,QB6 P w x t,rfl⟩
  exact h4 e he;rw[QS,ev];exact .cons ⟨rfl,hr⟩ h5
section
variable{P:Program}{w:World}{K:QA}{mg:Str->Option Value}{base h:Heap}{Ψ:PEv}
theorem DictAt.inMg(X:K.In h)(G:h.Ns mainGlobals mg){x:Str}{kds:List (Str×D)}(v:DictAt w K x kds):DictOk P w K mg x kds:=by obtain⟨a,es,ep,h1,h2,h3,h4,h5⟩:=v;have e:=Wj X G h1;obtain⟨us,u1,u2,u3,u4,u5⟩:=h4.all (P:=P);refine⟨a,es.toList.map entV,e,?_,⟨h2,us,u2,fun hp hk=>⟨_,es,ep,hk a _ h3,⟨rfl,rfl,rfl⟩,rfl,fun e he=>u4 e (by simpa using he),u3,by rw[u1];exact h5⟩⟩,u5⟩;unfold dcOf;rw[e];simp only[h3]
theorem KD.inMg(X:K.In h)(G:h.Ns mainGlobals mg){x:Str}{d:D}(v:KD K x d):(∀F,Rep K F (vaOf mg x) d)/\∃u v,mg x=some u/\absV u=some v:=by
 obtain⟨u,v,h1,h2,h3⟩:=v;have e:=Wj X G h1;refine⟨fun F=>?_,u,v,e,h2⟩;have:vaOf mg x=v:=by unfold vaOf;rw[e];show(absV u).getD .non=v;rw[h2];rfl
 rw[this];exact h3 F
theorem have_atR{R:PSp}{Ψ':PEv}{x:Str}{st:Stmt}{N ps:List Str}{k:Nat}{b:PT}{n:Need}(X:K.In h)(G:h.Ns mainGlobals mg)(D:OA K x st)(xC:jC n b N ps st=true)(hc:noSt (cC 0 R.md ps.length) b=true)
  (hb:∀(kV doc pm:Value) (an:Option Addr) (cdv ct:Value) (us:List Value),us.length=ps.length->bindArgs (qh x x (defArgs st) (RC st) (IA st) .none kV doc pm an cdv ct) ⟨us,[]⟩=pure (ps.zip us))
  (fns:∀g∈n.fn,NA P w K mg base Ψ k g) (vals:ValsOk P w K mg Ψ n.va n.dc) (nos:∀y∈n.no,Qt K mainGlobals y=some none)
  (body:∀ts Q E,R.run ts Q E->ts.length=ps.length/\nA Ψ (fun _=>False) b (DA R ps.length Q) (uA N R.md ts)) (hR:Ψ'.sp x=R):NA P w K mg base Ψ' (k+1) x:=by
 obtain⟨f,fd,a,F⟩:=D;exact have_def F (Wj X G a) (F.binds hb) xC hc fns vals (fun y hy=>QBR X G (nos y hy)) body hR
theorem YA{x:Str}{st:Stmt}{N ps:List Str}{k:Nat}{b:PT}{n:Need}(X:K.In h)(G:h.Ns mainGlobals mg)(D:OA K x st)(xC:jC n b N ps st=true)(hc:noSt (cC 0 (Ψ.sp x).md ps.length) b=true)
  (hb:∀(kV doc pm:Value) (an:Option Addr) (cdv ct:Value) (us:List Value),us.length=ps.length->bindArgs (qh x x (defArgs st) (RC st) (IA st) .none kV doc pm an cdv ct) ⟨us,[]⟩=pure (ps.zip us))
  (fns:∀g∈n.fn,NA P w K mg base Ψ k g) (vals:ValsOk P w K mg Ψ n.va n.dc) (nos:∀y∈n.no,Qt K mainGlobals y=some none)
  (body:∀ts Q E,(Ψ.sp x).run ts Q E->ts.length=ps.length/\nA Ψ (fun _=>False) b (DA (Ψ.sp x) ps.length Q) (uA N (Ψ.sp x).md ts)):NA P w K mg base Ψ (k+1) x :=
 have_atR X G D xC hc hb fns vals nos body rfl
theorem have_noAt{x:Str}{st:Stmt}{N ps:List Str}{k:Nat}{b:PT}{n:Need}(X:K.In h)(G:h.Ns mainGlobals mg)(D:OA K x st)(xC:jC n b N ps st=true)
  (hb:∀(kV doc pm:Value) (an:Option Addr) (cdv ct:Value) (us:List Value),us.length=ps.length->bindArgs (qh x x (defArgs st) (RC st) (IA st) .none kV doc pm an cdv ct) ⟨us,[]⟩=pure (ps.zip us))
  (hR:∀ts Q E,¬ (Ψ.sp x).run ts Q E):NA P w K mg base Ψ (k+1) x:=by
 obtain⟨f,fd,a,F⟩:=D;exact have_no F (Wj X G a) (F.binds hb) xC hR
theorem law_at{x:Str}{st:Stmt}{ps:List Str}{k:Nat}{fa:Addr}(X:K.In h)(G:h.Ns mainGlobals mg)(D:OA K "law" st)(hp:ps=[x])(hfa:mg "law"=some (.ref fa))(hs:Ψ.sp "law"=pLaw)
  (hb:∀(kV doc pm:Value) (an:Option Addr) (cdv ct:Value) (us:List Value),us.length=ps.length->bindArgs (qh "law" "law" (defArgs st) (RC st) (IA st) .none kV doc pm an cdv ct) ⟨us,[]⟩=pure (ps.zip us))
  (H:∀base:Heap,K.In base->base.Ns mainGlobals mg->∀f fd,Fun K "law" "law" st f fd->mg "law"=some (.ref f)->FnOk P w K mg base CX0 k f fd ps (lift K (Ψ.sp "law"))) :
  ∃fd:FuncData,(∀(s:Shared) (u:Value),BindsTo s fd ⟨[u],[]⟩ [(x,u)])/\∀base:Heap,K.In base->base.Ns mainGlobals mg->FnOk P w K mg base CX0 k fa fd [x] (lift K pLaw):=by
 obtain⟨f,fd,a,F⟩:=D;have e:=hfa.symm.trans (Wj X G a);cases e;subst hp;refine⟨fd,fun s u=>?_,fun base kb nb=>?_⟩;obtain⟨oc,od,kV,doc,pm,an,cdv,ct,osl,rfl,lk,hcd⟩:=F.ex;exact .of_eq (hb kV doc pm an cdv ct [u] rfl);rw[<- hs];exact H base kb nb fa fd F hfa
end
theorem kD{α:Type}{body:T->(Option T->Prop)->Prop}(g f:α->T):∀(l:List α) (acc:List T) (Q:List T->Prop),(∀x∈l,∀R:Option T->Prop,R (some (f x))->body (g x) R)->acc.length+l.length<=sizeLine->Q (acc++l.map f)->JD body (l.map g) acc Q
 |[],acc,Q,_,hl,q=>by simp only[WA,JD];exact⟨by simpa using hl,by simpa using q⟩
 |x::r,acc,Q,hb,hl,q=>by simp only[QS,JD];refine hb x QM _ ?_;simp only[QL]at hl;refine⟨by omega,kD g f r _ Q (fun y hy=>hb y (QJ _ hy)) (by simp;omega) (by simpa using q)⟩
theorem compV_filter{α:Type}{body:T->(Option T->Prop)->Prop}(g f:α->T)(p:α->Bool):∀(l:List α) (acc:List T) (Q:List T->Prop),(∀x∈l,∀R:Option T->Prop,R (if p x=true then some (f x) else none)->body (g x) R)->acc.length+l.length<=sizeLine->Q (acc++(l.filter p).map f)->JD body (l.map g) acc Q
 |[],acc,Q,_,hl,q=>by simp only[WA,JD];exact⟨by simpa using hl,by simpa using q⟩
 |x::r,acc,Q,hb,hl,q=>by
  simp only[QS,JD];refine hb x QM _ ?_;simp only[QL]at hl;cases hp:p x with
  |true=>refine⟨by omega,compV_filter g f p r _ Q (fun y hy=>hb y (QJ _ hy)) (by simp;omega) ?_⟩;rw[QB7,if_pos hp]at q;simpa using q
  |false=>refine compV_filter g f p r _ Q (fun y hy=>hb y (QJ _ hy)) (by omega) ?_;rw[QB7,if_neg (by rw[hp];simp)]at q;exact q
theorem atI_pos{α:Type}{xs:List α}{i:Int}(h0:0<=i)(h1:i<xs.length):∃v,uC xs i=some v/\xs[i.toNat]?=some v:=by
 have h:i.toNat<xs.length:=by omega
 have e:((i.toNat:Nat):Int)=i:=by omega
 have q:=ZB (qT h);rw[e]at q;exact⟨xs[i.toNat],q,qT h⟩
theorem atI_map{α β:Type}(f:α->β)(xs:List α)(i:Int):uC (xs.map f) i=(uC xs i).map f:=by
 unfold uC;rw[QG];cases ixN xs.length i with
 |none=>rfl
 |some j=>exact Qd
theorem for_inv{Ψ:PEv}{E:XE}{α:Type}{body:PT}{tg:Tg}{Z:PEnds}(g:α->T)(W:List α->yA->Prop)(h0:∀ρ,W [] ρ->Z.nx ρ)
  (hs:∀x xs ρ (N:yA->Prop),(∀ρ',W xs ρ'->N ρ')->W (x::xs) ρ->bindV tg (g x) ρ fun ρ1=>nA Ψ E body { Z with nx:=N,ct:=N,bk:=Z.nx } ρ1):∀(xs:List α) (ρ:yA),W xs ρ->forV (nA Ψ E body) tg Z (xs.map g) ρ
 |[],ρ,w=>h0 ρ w
 |x::xs,ρ,w=>hs x xs ρ (fun ρ2=>forV (nA Ψ E body) tg Z (xs.map g) ρ2) (fun ρ2 w2=>for_inv g W h0 hs xs ρ2 w2) w
noncomputable def tblEv(sp:List (Str×PSp))(va:List (Str×D))(dc:List (Str×List (Str×D))):PEv:=⟨fun f=>(sp.lookup f).getD pNo,fun x=>va.lookup x,fun x=>dc.lookup x⟩
theorem gA{P:Program}{w:World}{K:QA}{mg:Str->Option Value}{h:Heap}{sp:List (Str×PSp)}{tbl:List (Str×D)}{dct:List (Str×List (Str×D))}{va dc:List Str}(X:K.In h)(G:h.Ns mainGlobals mg)(ht:∀p∈tbl,KD K p.1 p.2)(hd:∀p∈dct,DictAt w K p.1 p.2)
  (hva:(va.all fun x=>(tbl.map wj).contains x)=true) (hdc:(dc.all fun x=>(dct.lookup x).isSome)=true):ValsOk P w K mg (tblEv sp tbl dct) va dc:=by
 refine⟨fun x kds e=>(hd (x,kds) (Q9 e)).inMg X G,fun x hx=>QAA.mp (Qn.mp hdc x hx),fun x d e F=>((ht (x,d) (Q9 e)).inMg X G).1 F,fun x hx=>?_⟩;have:=Qn.mp hva x hx;obtain⟨p,hp,e⟩:=Q8.mp (Qo.mp this);rw[<- e];exact((ht p hp).inMg X G).2
theorem JA{α:Type}[BEq α][LawfulBEq α]{l m:List α}(h:(l.all fun x=>m.contains x)=true):∀x∈l,x∈m:=fun x hx=>Qo.mp (Qn.mp h x hx)
section
variable{a b c:PX}{i:Nat}{n:Int}{x:Str}{m:Mt}{f:Str}{g:Bi}{op:Operator}{cp:CmpOp}{is:List Bool}{tgs:List Str}{tg:Tg}{ik:ItK}{y:String}
theorem vrs_var:vrs (.var i)=[i]:=rfl
theorem vrs_acons:vrs (.ng a b)=vrs a++vrs b:=rfl
theorem vrs_anil:vrs .nh=[]:=rfl
end
def optP{α:Type}(o:Option α)(K:α->Prop):Prop:=∃a,o=some a/\K a
theorem optP.mk{α:Type}{o:Option α}{a:α}{K:α->Prop}(e:o=some a)(k:K a):optP o K:=⟨a,e,k⟩
theorem optP_s{α:Type}{a:α}{K:α->Prop}:optP (some a) K=K a:=propext ⟨fun⟨_,e,k⟩=>by cases e;exact k,fun k=>⟨a,rfl,k⟩⟩
theorem optP_e{α:Type}{o:Option α}{a:α}{K:α->Prop}(h:o=some a):optP o K=K a:=by rw[h];exact optP_s
theorem optP_m{α β:Type}{o:Option α}{f:α->β}{K:β->Prop}:optP (o.map f) K=optP o fun a=>K (f a):=by
 cases o with
 |none=>exact propext ⟨fun⟨_,e,_⟩=>(by cases e),fun⟨_,e,_⟩=>(by cases e)⟩
 |some a=>rw[qA,optP_s,optP_s]
def tB(Ψ:PEv)(e:PX)(E:XE)(ρ:yA)(K:TK):Prop:=(pe Ψ e E).e ρ K
def peT(Ψ:PEv)(e:PX)(E:XE)(ρ:yA)(K:Bool->yA->Prop):Prop:=(pe Ψ e E).t ρ K
def peA(Ψ:PEv)(e:PX)(E:XE)(md:List Md)(ρ:yA)(K:List (T×Bool)->yA->Prop):Prop:=(pe Ψ e E).a md ρ K
def mC(p:PSp)(ts:List T)(K:T->List T->Prop)(E:XE):Prop:=p.run ts K E
def sqE(x:T)(n:Bool)(Ψ:PEv)(b:PX)(E:XE)(ρ:yA)(K:TK):Prop:=sq (vA x n) ρ (cu (pe Ψ b E).e) fun y ρ2=>K y.1 y.2 ρ2
def sqA(x:T)(n:Bool)(Ψ:PEv)(b:PX)(E:XE)(md:List Md)(ρ:yA)(K:List (T×Bool)->yA->Prop):Prop:=sq (if n=true then .d .none else x) ρ ((pe Ψ b E).a md) K
def sqM(x:T)(n:Bool)(Ψ:PEv)(b:PX)(E:XE)(ρ:yA)(K:List (T×Bool)->yA->Prop):Prop:=sq (vA x n) ρ ((pe Ψ b E).a []) K
def getK(i:Nat)(σ ρ:yA)(K:TK):Prop:=rdV σ[i]? fun t=>K t false ρ
def retK(i:Nat)(σ:yA)(ρ:yA)(j:Nat)(R:T->yA->Prop):Prop:=rdR ρ j R σ[i]?
def setK(Ψ:PEv)(E:XE)(r:PT)(Z:PEnds)(i:Nat)(x:T)(n:Bool)(ρ:yA):Prop:=esc x n=true/\nA Ψ E r Z (ρ.set i (some (.nj (.d x.er))))
def ownK(Ψ:PEv)(E:XE)(r:PT)(Z:PEnds)(i:Nat)(x:T)(n:Bool)(ρ:yA):Prop:=esc x n=true/\nA Ψ E r Z (ρ.set i (some (.own x)))
def escK(x:T)(n:Bool)(P:Prop):Prop:=esc x n=true/\P
def fC(op:Operator)(x:T)(n:Bool)(y:T)(m:Bool)(Q:T->Bool->Prop):Prop:=binT op (vA x n).vw (vA y m).vw Q
def TC(op:CmpOp)(x y:T)(Q:Bool->Prop):Prop:=cmpD op x.er y.er Q
def truV(x:T)(Q:Bool->Prop):Prop:=truD x.er Q
def asV(x:T)(Q:Bool->Prop):Prop:=asD x.er Q
def isiV(c:PX)(x:T)(Q:Bool->Prop):Prop:=isiD c x.er Q
def biV(f:Bi)(xs:List (T×Bool))(Q:T->Bool->Prop):Prop:=biT f (iB xs) Q
def prmV(Ψ:PEv)(o:Prm)(xs:List (T×Bool))(Q:T->Bool->Prop):Prop:=prmT Ψ o (fzOf xs) Q
def idxV(x:T)(n:Bool)(y:T)(m:Bool)(Q:T->Prop):Prop:=idxT (vA x n).vw (vA y m).vw Q
def slcV(x:T)(n:Bool)(l u:Option Int)(Q:T->Bool->Prop):Prop:=slcT (vA x n).vw l u Q
def lstV(xs:List (T×Bool))(C:List T->Prop):Prop:=escB xs=true/\C (tsOf xs)
def itV(ik:ItK)(xs:List (T×Bool))(R:List T->Prop):Prop:=dC ik (iB xs) R
def mtV(m:Mt)(x:T)(n:Bool)(xs:List (T×Bool))(Q:T->Bool->Prop):Prop:=mtT m (vA x n).vw (iB xs) Q
def nC(md:List Md)(xs:List (T×Bool))(C:List T->Prop):Prop:=optP (GA md xs []) C
noncomputable def compX(Ψ:PEv)(E:XE)(mask:List Bool)(tgs:List Str)(tg:Tg)(cond elt:PX)(ρ:yA):T->(Option T->Prop)->Prop:=compBody tg (entP tgs.length mask (lockA ρ)) (if isNop cond=true then fun ρ R=>R true ρ else(pe Ψ cond E).t) (pe Ψ elt E).e
def bindK(tg:Tg)(x:T)(ρ:yA)(K:yA->Prop):Prop:=bindV tg x ρ K
section
variable{Ψ:PEv}{E:XE}{ρ:yA}{K:TK}{L:Bool->yA->Prop}{M:List (T×Bool)->yA->Prop}{a b c as its elt cond:PX}{Rt:T->yA->Prop}
theorem E_var{i:Nat}:tB Ψ (.var i) E ρ K=getK i ρ ρ K:=rfl
theorem E_int{i:Int}:tB Ψ (.int i) E ρ K=K (.d (.int i)) false ρ:=rfl
theorem E_str{x:Str}:tB Ψ (.str x) E ρ K=K (.d (.str x)) false ρ:=rfl
theorem E_non:tB Ψ .non E ρ K=K (.d .none) false ρ:=rfl
theorem E_glo{x:Str}{d:D}(h:Ψ.va x=some d):tB Ψ (.glo x) E ρ K=K (.d d) false ρ:=by show(match Ψ.va x with|some d=>K (.d d) false ρ|none=>False)=_;rw[h]
theorem E_bin{op:Operator}:tB Ψ (.bin op a b) E ρ K=tB Ψ a E ρ fun x n ρ1=>sqE x n Ψ b E ρ1 fun y m ρ2=>fC op x n y m fun z k=>K z k ρ2:=rfl
theorem T_cmp{op:CmpOp}:peT Ψ (.cmp op a b) E ρ L=tB Ψ a E ρ fun x n ρ1=>sqE x n Ψ b E ρ1 fun y m ρ2=>TC op x y fun k=>L k ρ2:=rfl
theorem E_cmp{op:CmpOp}:tB Ψ (.cmp op a b) E ρ K=peT Ψ (.cmp op a b) E ρ fun k ρ1=>K (.d (.bool k)) false ρ1:=rfl
theorem T_chn{o p:CmpOp}:peT Ψ (.chn o p a b c) E ρ L=tB Ψ a E ρ fun x n ρ1=>sqE x n Ψ b E ρ1 fun y m ρ2=>TC o x y fun k=>if k=true then sqE y m Ψ c E ρ2 fun z l ρ3=>TC p y z fun k=>L k ρ3 else L false ρ2:=rfl
theorem E_chn{o p:CmpOp}:tB Ψ (.chn o p a b c) E ρ K=peT Ψ (.chn o p a b c) E ρ fun k ρ1=>K (.d (.bool k)) false ρ1:=rfl
theorem E_and:tB Ψ (.and a b) E ρ K=tB Ψ a E ρ fun x _ ρ1=>asV x fun c=>if c=true then tB Ψ b E ρ1 K else K (.d (.bool false)) false ρ1:=rfl
theorem T_and:peT Ψ (.and a b) E ρ L=peT Ψ a E ρ fun c ρ1=>if c=true then peT Ψ b E ρ1 L else L false ρ1:=rfl
theorem E_or:tB Ψ (.or a b) E ρ K=tB Ψ a E ρ fun x _ ρ1=>asV x fun c=>if c=true then K (.d (.bool true)) false ρ1 else tB Ψ b E ρ1 K:=rfl
theorem T_or:peT Ψ (.or a b) E ρ L=peT Ψ a E ρ fun c ρ1=>if c=true then L true ρ1 else peT Ψ b E ρ1 L:=rfl
theorem E_not:tB Ψ (.not a) E ρ K=tB Ψ a E ρ fun x _ ρ1=>truV x fun c=>K (.d (.bool (!c))) false ρ1:=rfl
theorem T_not:peT Ψ (.not a) E ρ L=peT Ψ a E ρ fun c ρ1=>L (!c) ρ1:=rfl
theorem oA{f:Str}{p:PSp}{md:List Md}(h:Ψ.sp f=p)(hm:p.md=md)(hn:(md.all fun m=>!m.isMut)=true):tB Ψ (.call f as) E ρ K=peA Ψ as E md ρ fun xs ρ1=>nC md xs fun ts=>mC p ts (fun r os=>os=[]/\K r true ρ1) E:=by
 have mr:∀(md:List Md) (as:PX),(md.all fun m=>!m.isMut)=true->cA md as=[]:=by
  intro md;induction md with
  |nil=>intro as _;cases as<;>rfl
  |cons m md ih =>
   intro as h;rw[Q5,QU]at h;cases m with
   |chg=>cases h.1
   |_=>cases as with
    |ng a as=>exact ih as h.2
    |_=>rfl
 show(∃os,vB (cA (Ψ.sp f).md as) ρ=some os/\(cA (Ψ.sp f).md as).Nodup/\(pe Ψ as E).a (Ψ.sp f).md (clear (cA (Ψ.sp f).md as) ρ) fun xs ρ1=>∃ts,GA (Ψ.sp f).md xs os=some ts/\(Ψ.sp f).run ts (fun r os'=>∃ρ2,LC (cA (Ψ.sp f).md as) os' ρ1=some ρ2/\K r true ρ2) E)=_;rw[h,hm,mr md as hn];have po:∀(r:T) (os:List T) (ρ1:yA),(∃ρ2,LC [] os ρ1=some ρ2/\K r true ρ2)=(os=[]/\K r true ρ1):=by
  intro r os ρ1;cases os with
  |nil=>exact propext ⟨fun⟨_,e,k⟩=>by cases e;exact⟨rfl,k⟩,fun k=>⟨_,rfl,k.2⟩⟩
  |cons _ _=>exact propext ⟨fun⟨_,e,k⟩=>(by cases e),fun k=>(by cases k.1)⟩
 have:=fun(ρ1:yA)=>funext fun r=>funext fun os=>po r os ρ1;simp only[this];exact propext ⟨fun⟨_,e,_,k⟩=>by cases e;exact k,fun k=>⟨_,rfl,QAz,k⟩⟩
theorem T_call{f:Str}:peT Ψ (.call f as) E ρ L=tB Ψ (.call f as) E ρ fun t _ ρ1=>truV t fun b=>L b ρ1:=rfl
theorem T_isi:peT Ψ (.isi a c) E ρ L=tB Ψ a E ρ fun x _ ρ1=>isiV c x fun b=>L b ρ1:=rfl
theorem E_isi:tB Ψ (.isi a c) E ρ K=peT Ψ (.isi a c) E ρ fun k ρ1=>K (.d (.bool k)) false ρ1:=rfl
theorem E_bi{f:Bi}:tB Ψ (.bi f as) E ρ K=peA Ψ as E [] ρ fun xs ρ1=>biV f xs fun z k=>K z k ρ1:=rfl
theorem E_prm{o:Prm}:tB Ψ (.prm o as) E ρ K=peA Ψ as E [] ρ fun xs ρ1=>prmV Ψ o xs fun z k=>K z k ρ1:=rfl
theorem mt_str{m:Mt}{z:Str}{n:Bool}(h:isMut m=false):mtTy m (vA (.d (.str z)) n).vw=true:=by cases n<;>cases m<;>first|rfl|cases h
theorem E_split:tB Ψ (.mt .split a as) E ρ K=tB Ψ a E ρ fun x n ρ1=>mtTy .split (vA x n).vw=true/\sqM x n Ψ as E ρ1 fun xs ρ2=>mtV .split x n xs fun z k=>K z k ρ2:=rfl
theorem E_rstrip:tB Ψ (.mt .rstrip a as) E ρ K=tB Ψ a E ρ fun x n ρ1=>mtTy .rstrip (vA x n).vw=true/\sqM x n Ψ as E ρ1 fun xs ρ2=>mtV .rstrip x n xs fun z k=>K z k ρ2:=rfl
theorem E_append{j:Nat}:tB Ψ (.mt .append (.var j) as) E ρ K=ownV ρ[j]? fun t=>mutTy .append t=true/\peA Ψ as E [] (ρ.set j (some (.nj t))) fun xs ρ2=>escB xs=true/\ρ2[j]?=some (some (.nj t))/\mutT .append t (tsOf xs) fun r s'=>K r true (ρ2.set j (some (.own s'))):=rfl
theorem E_idx:tB Ψ (.idx a b) E ρ K=tB Ψ a E ρ fun x n ρ1=>sqE x n Ψ b E ρ1 fun y m ρ2=>idxV x n y m fun z=>K z false ρ2:=rfl
theorem E_slc_lo{i:Int}:tB Ψ (.slc a (.int i) .nop) E ρ K=tB Ψ a E ρ fun x n ρ1=>slcV x n (some i) none fun z k=>K z k ρ1:=by
 show(pe Ψ a E).e ρ (fun x n ρ1=>sq (vA x n) ρ1 (fun ρ (R:Option Int->yA->Prop)=>R (some i) ρ) fun l ρ2=>sq (vA x n) ρ2 (fun ρ (R:Option Int->yA->Prop)=>R none ρ) fun u ρ3=>slcT (vA x n).vw l u fun z k=>K z k ρ3)=_;have:∀x n ρ1,(sq (vA x n) ρ1 (fun ρ (R:Option Int->yA->Prop)=>R (some i) ρ) fun l ρ2=>sq (vA x n) ρ2 (fun ρ (R:Option Int->yA->Prop)=>R none ρ) fun u ρ3=>slcT (vA x n).vw l u fun z k=>K z k ρ3)=slcT (vA x n).vw (some i) none fun z k=>K z k ρ1:=by intro x n ρ1;unfold sq;split<;>rfl
 simp only[this];rfl
theorem E_lst:tB Ψ (.lst as) E ρ K=peA Ψ as E [] ρ fun xs ρ1=>xs.length<=sizeLine/\lstV xs fun ts=>K (.lst ts) true ρ1:=by have:∀(xs:List (T×Bool)) ρ1,(xs.length<=sizeLine/\lstV xs fun ts=>K (.lst ts) true ρ1)=(escB xs=true/\xs.length<=sizeLine/\K (.lst (tsOf xs)) true ρ1):=fun xs ρ1=>propext ⟨fun h=>⟨h.2.1,h.1,h.2.2⟩,fun h=>⟨h.2.1,h.1,h.2.2⟩⟩;simp only[this];rfl
theorem E_tup:tB Ψ (.tup as) E ρ K=peA Ψ as E [] ρ fun xs ρ1=>xs.length<=sizeLine/\lstV xs fun ts=>K (mkTup ts) true ρ1:=by have:∀(xs:List (T×Bool)) ρ1,(xs.length<=sizeLine/\lstV xs fun ts=>K (mkTup ts) true ρ1)=(escB xs=true/\xs.length<=sizeLine/\K (mkTup (tsOf xs)) true ρ1):=fun xs ρ1=>propext ⟨fun h=>⟨h.2.1,h.1,h.2.2⟩,fun h=>⟨h.2.1,h.1,h.2.2⟩⟩;simp only[this];rfl
theorem E_comp{mask:List Bool}{tgs:List Str}{tg:Tg}{ik:ItK}:tB Ψ (.comp mask tgs tg ik its cond elt) E ρ K=peA Ψ its E [] ρ fun xs ρ1=>itV ik xs fun items =>
   JD (compX Ψ (fun _=>False) mask tgs tg cond elt ρ1) items [] fun ys=>K (.lst ys) true ρ1:=rfl
theorem X_nop{t:Str}{x:T}{R:Option T->Prop}:compX Ψ E [] [t] (.nm 0) .nop elt ρ x R=tB Ψ elt E (some (.nj x)::lockA ρ) fun y n _=>escK y n (R (some y)):=rfl
theorem X_nop2{t u:Str}{x y:D}{R:Option T->Prop}:compX Ψ E [] [t,u] (.tp [0,1]) .nop elt ρ (.d (.tuple [x,y])) R=tB Ψ elt E (some (.nj (.d x))::some (.nj (.d y))::lockA ρ) fun y n _=>escK y n (R (some y)):=optP_s
theorem X_cmp{t:Str}{x:T}{R:Option T->Prop}{op:CmpOp}:compX Ψ E [] [t] (.nm 0) (.cmp op a b) elt ρ x R=peT Ψ (.cmp op a b) E (some (.nj x)::lockA ρ) fun k ρ2=>if k=true then tB Ψ elt E ρ2 fun y n _=>escK y n (R (some y)) else R none:=rfl
theorem A_nil{md:List Md}:peA Ψ .nh E md ρ M=M [] ρ:=rfl
theorem A_cons:peA Ψ (.ng a as) E [] ρ M=tB Ψ a E ρ fun x n ρ1=>sqA x n Ψ as E [] ρ1 fun xs ρ2=>M ((x,n)::xs) ρ2:=rfl
theorem A_cons_s{md:List Md}:peA Ψ (.ng a as) E (.nq::md) ρ M=tB Ψ a E ρ fun x n ρ1=>sqA x n Ψ as E md ρ1 fun xs ρ2=>M ((x,n)::xs) ρ2:=rfl
theorem A_cons_b{md:List Md}:peA Ψ (.ng a as) E (.nj::md) ρ M=tB Ψ a E ρ fun x n ρ1=>sqA x n Ψ as E md ρ1 fun xs ρ2=>M ((x,n)::xs) ρ2:=rfl
theorem R_var{i:Nat}:retP Ψ E Rt (.var i) ρ=retK i ρ ρ i Rt:=rfl
theorem R_ife:retP Ψ E Rt (.ife c a b) ρ=peT Ψ c E ρ fun k ρ1=>if k=true then retP Ψ E Rt a ρ1 else retP Ψ E Rt b ρ1:=rfl
theorem R_non:retP Ψ E Rt .non ρ=Rt (.d .none) ρ:=propext ⟨fun h=>h.2,fun h=>⟨rfl,h⟩⟩
theorem R_bl{x:Bool}:retP Ψ E Rt (.bl x) ρ=Rt (.d (.bool x)) ρ:=propext ⟨fun h=>h.2,fun h=>⟨rfl,h⟩⟩
theorem R_call{f:Str}:retP Ψ E Rt (.call f as) ρ=tB Ψ (.call f as) E ρ fun x n ρ1=>escK x n (Rt x ρ1):=rfl
theorem R_bin{op:Operator}:retP Ψ E Rt (.bin op a b) ρ=tB Ψ (.bin op a b) E ρ fun x n ρ1=>escK x n (Rt x ρ1):=rfl
theorem R_cmp{op:CmpOp}:retP Ψ E Rt (.cmp op a b) ρ=tB Ψ (.cmp op a b) E ρ fun x n ρ1=>escK x n (Rt x ρ1):=rfl
theorem R_and:retP Ψ E Rt (.and a b) ρ=tB Ψ (.and a b) E ρ fun x n ρ1=>escK x n (Rt x ρ1):=rfl
theorem R_or:retP Ψ E Rt (.or a b) ρ=tB Ψ (.or a b) E ρ fun x n ρ1=>escK x n (Rt x ρ1):=rfl
theorem R_bi{f:Bi}:retP Ψ E Rt (.bi f as) ρ=tB Ψ (.bi f as) E ρ fun x n ρ1=>escK x n (Rt x ρ1):=rfl
theorem R_idx:retP Ψ E Rt (.idx a b) ρ=tB Ψ (.idx a b) E ρ fun x n ρ1=>escK x n (Rt x ρ1):=rfl
theorem R_comp{mask:List Bool}{tgs:List Str}{tg:Tg}{ik:ItK}:retP Ψ E Rt (.comp mask tgs tg ik its cond elt) ρ=tB Ψ (.comp mask tgs tg ik its cond elt) E ρ fun x n ρ1=>escK x n (Rt x ρ1):=rfl
theorem G_s{i:Nat}{s:Option Sl}{σ:yA}:getK (i+1) (s::σ) ρ K=getK i σ ρ K:=rfl
theorem G_b{t:T}{σ:yA}:getK 0 (some (.nj t)::σ) ρ K=K t false ρ:=rfl
theorem G_o{t:T}{σ:yA}:getK 0 (some (.own t)::σ) ρ K=K t false ρ:=rfl
theorem G_l{i:Nat}{σ:yA}:getK i (lockA σ) ρ K=getK i σ ρ K:=by
 unfold getK lockA;rw[Qd];cases σ[i]? with
 |none=>rfl
 |some s=>cases s with
  |none=>rfl
  |some s=>cases s<;>rfl
theorem H_s{i j:Nat}{s:Option Sl}{σ:yA}:retK (i+1) (s::σ) ρ j Rt=retK i σ ρ j Rt:=rfl
theorem H_b{x:D}{j:Nat}{σ:yA}:retK 0 (some (.nj (.d x))::σ) ρ j Rt=Rt (.d x) ρ:=propext ⟨fun h=>h.2,fun h=>⟨rfl,h⟩⟩
theorem H_o{t:T}{j:Nat}{σ:yA}:retK 0 (some (.own t)::σ) ρ j Rt=Rt t (ρ.set j none):=rfl
theorem Q_d{x:D}{n:Bool}:sqE (.d x) n Ψ b E ρ K=tB Ψ b E ρ K:=by cases n<;>rfl
theorem Q_n{x:T}:sqE x true Ψ b E ρ K=tB Ψ b E ρ K:=rfl
theorem Q_l{ts:List T}:sqE (.lst ts) false Ψ b E ρ K=tB Ψ b E (lockA ρ) fun y m _=>K y m ρ:=rfl
theorem J_d{x:D}{n:Bool}{md:List Md}:sqA (.d x) n Ψ b E md ρ M=peA Ψ b E md ρ M:=by cases n<;>rfl
theorem J_n{x:T}{md:List Md}:sqA x true Ψ b E md ρ M=peA Ψ b E md ρ M:=rfl
theorem J_l{ts:List T}{md:List Md}:sqA (.lst ts) false Ψ b E md ρ M=peA Ψ b E md (lockA ρ) fun xs _=>M xs ρ:=rfl
theorem M_d{x:D}{n:Bool}:sqM (.d x) n Ψ b E ρ M=peA Ψ b E [] ρ M:=by cases n<;>rfl
end
section
variable{Ψ:PEv}{E:XE}{ρ σ:yA}{Z:PEnds}{s r q:PT}{i:Nat}{e c its:PX}{o:Option Sl}{n:Bool}{v:D}{P:Prop}{ds:List D}{x:T}
theorem lA:nA Ψ E .nil Z ρ=Z.nx ρ:=rfl
theorem S_set:nA Ψ E (.seq (.set i e) r) Z (o::σ)=tB Ψ e E (o::σ) fun x n ρ1=>setK Ψ E r Z i x n ρ1:=rfl
theorem S_own:nA Ψ E (.seq (.own i e) r) Z (o::σ)=tB Ψ e E (o::σ) fun x n ρ1=>ownK Ψ E r Z i x n ρ1:=rfl
theorem S_expr:nA Ψ E (.seq (.expr e) r) Z (o::σ)=tB Ψ e E (o::σ) fun _ _ ρ1=>nA Ψ E r Z ρ1:=rfl
theorem S_ret:nA Ψ E (.seq (.ret e) r) Z (o::σ)=retP Ψ E Z.rt e (o::σ):=rfl
theorem S_rse:nA Ψ E (.seq .rse r) Z ρ=False:=rfl
theorem S_ife:nA Ψ E (.seq (.ife c s .nil) r) Z (o::σ)=peT Ψ c E (o::σ) fun k ρ1=>if k=true then nA Ψ E s { Z with nx:=fun ρ'=>nA Ψ E r Z ρ' } ρ1 else nA Ψ E r Z ρ1:=rfl
theorem S_for{tg:Tg}{ik:ItK}:nA Ψ E (.seq (.for_ tg ik its q) r) Z (o::σ)=peA Ψ its E [] (o::σ) fun xs ρ1=>itV ik xs fun items =>
   if allD xs=true then forV (nA Ψ E q) tg { Z with nx:=fun ρ2=>nA Ψ E r Z (kill tg.ix ρ2) } items ρ1
   else forV (nA Ψ E q) tg { Z with nx:=fun ρ2=>unlock tg.ix (jD ρ1 (vrs its)) ρ1 (fun ρ'=>nA Ψ E r Z ρ') (kill tg.ix ρ2) } items (lock (jD ρ1 (vrs its)) ρ1):=rfl
theorem K_d:setK Ψ E r Z i (.d v) n ρ=nA Ψ E r Z (ρ.set i (some (.nj (.d v)))):=propext ⟨fun h=>h.2,fun h=>⟨by cases n<;>rfl,h⟩⟩
theorem K_l:setK Ψ E r Z i (.lst (ds.map T.d)) true ρ=nA Ψ E r Z (ρ.set i (some (.nj (.d (.list ds))))):=by unfold setK T.er;rw[oC];exact propext ⟨fun h=>h.2,fun h=>⟨rfl,h⟩⟩
theorem O_n:ownK Ψ E r Z i x true ρ=nA Ψ E r Z (ρ.set i (some (.own x))):=propext ⟨fun h=>h.2,fun h=>⟨rfl,h⟩⟩
theorem C_d:escK (.d v) n P=P:=propext ⟨fun h=>h.2,fun h=>⟨by cases n<;>rfl,h⟩⟩
theorem C_n:escK x true P=P:=propext ⟨fun h=>h.2,fun h=>⟨rfl,h⟩⟩
theorem nil_and:(([]:List T)=[]/\P)=P:=propext ⟨fun h=>h.2,fun h=>⟨rfl,h⟩⟩
theorem if_t{A B:Prop}:(if(true:Bool)=true then A else B)=A:=rfl
theorem if_f{A B:Prop}:(if(false:Bool)=true then A else B)=B:=rfl
theorem N_0{v a0:Option Sl}:nA Ψ E r Z (Wk (a0::σ) 0 v)=nA Ψ E r Z (v::σ):=rfl
theorem N_1{v a0 a1:Option Sl}:nA Ψ E r Z (Wk (a0::a1::σ) 1 v)=nA Ψ E r Z (a0::v::σ):=rfl
theorem N_2{v a0 a1 a2:Option Sl}:nA Ψ E r Z (Wk (a0::a1::a2::σ) 2 v)=nA Ψ E r Z (a0::a1::v::σ):=rfl
theorem N_3{v a0 a1 a2 a3:Option Sl}:nA Ψ E r Z (Wk (a0::a1::a2::a3::σ) 3 v)=nA Ψ E r Z (a0::a1::a2::v::σ):=rfl
theorem N_4{v a0 a1 a2 a3 a4:Option Sl}:nA Ψ E r Z (Wk (a0::a1::a2::a3::a4::σ) 4 v)=nA Ψ E r Z (a0::a1::a2::a3::v::σ):=rfl
theorem N_5{v a0 a1 a2 a3 a4 a5:Option Sl}:nA Ψ E r Z (Wk (a0::a1::a2::a3::a4::a5::σ) 5 v)=nA Ψ E r Z (a0::a1::a2::a3::a4::v::σ):=rfl
theorem N_6{v a0 a1 a2 a3 a4 a5 a6:Option Sl}:nA Ψ E r Z (Wk (a0::a1::a2::a3::a4::a5::a6::σ) 6 v)=nA Ψ E r Z (a0::a1::a2::a3::a4::a5::v::σ):=rfl
theorem N_7{v a0 a1 a2 a3 a4 a5 a6 a7:Option Sl}:nA Ψ E r Z (Wk (a0::a1::a2::a3::a4::a5::a6::a7::σ) 7 v)=nA Ψ E r Z (a0::a1::a2::a3::a4::a5::a6::v::σ):=rfl
theorem N_8{v a0 a1 a2 a3 a4 a5 a6 a7 a8:Option Sl}:nA Ψ E r Z (Wk (a0::a1::a2::a3::a4::a5::a6::a7::a8::σ) 8 v)=nA Ψ E r Z (a0::a1::a2::a3::a4::a5::a6::a7::v::σ):=rfl
theorem N_9{v a0 a1 a2 a3 a4 a5 a6 a7 a8 a9:Option Sl}:nA Ψ E r Z (Wk (a0::a1::a2::a3::a4::a5::a6::a7::a8::a9::σ) 9 v)=nA Ψ E r Z (a0::a1::a2::a3::a4::a5::a6::a7::a8::v::σ):=rfl
end
section
variable{d:D}{n m:Bool}{i j:Int}{z y:Str}{b:Bool}{xs:List (T×Bool)}{ts:List T}{ds es:List D}{md:List Md}{t:T}{C:List T->Prop}{Q:T->Bool->Prop}{L:Bool->Prop}{R:T->Prop}{W:List T->Prop}
theorem map_d{α:Type}(f:α->D)(l:List α):l.map (fun c=>T.d (f c))=(l.map f).map T.d:=by rw[wW];rfl
theorem BD:(vA (.lst (ds.map T.d)) n).vw=.ls (ds.map T.d):=by cases n;rfl;show Vw.ls ((ersT (ds.map T.d)).map T.d)=_;rw[oC]
theorem P_nil:nC md [] C=C []:=optP_s
theorem P_d:nC [] ((.d d,n)::xs) C=nC [] xs fun ts=>C (.d d::ts):=by
 have e:GA [] ((.d d,n)::xs) []=(GA [] xs []).map (.d d::·):=by cases n<;>rfl
 unfold nC;rw[e,optP_m]
theorem P_b:nC (.nj::md) ((t,false)::xs) C=nC md xs fun ts=>C (t::ts):=by have e:GA (.nj::md) ((t,false)::xs) []=(GA md xs []).map (t::·):=rfl;unfold nC;rw[e,optP_m]
theorem shal_l:AC (.lst (ds.map T.d))=some (.lst (ds.map T.d)):=by simp only[AC,T.vw,dA,qA]
theorem P_s{u:T}(h:AC (vA t n)=some u):nC (.nq::md) ((t,n)::xs) C=nC md xs fun ts=>C (u::ts):=by
 have e:GA (.nq::md) ((t,n)::xs) []=(GA md xs []).map (u::·):=by show(match AC (vA t n) with|some t=>(GA md xs []).map (t::·)|none=>none)=_;rw[h]
 unfold nC;rw[e,optP_m]
theorem P_sl:nC (.nq::md) ((.lst (ds.map T.d),n)::xs) C=nC md xs fun ts=>C (.lst (ds.map T.d)::ts):=P_s (by cases n;exact shal_l;show AC (.d (.list (ersT (ds.map T.d))))=_;rw[oC];simp only[AC,T.vw,dA,qA])
theorem L_nil:lstV [] C=C []:=propext ⟨fun h=>h.2,fun h=>⟨rfl,h⟩⟩
theorem L_d:lstV ((.d d,n)::xs) C=lstV xs fun ts=>C (.d d::ts):=by show((esc (.d d) n&&escB xs)=true/\C (.d d::tsOf xs))=(escB xs=true/\C (.d d::tsOf xs));rw[show esc (.d d) n=true by cases n<;>rfl,QBF]
theorem B_tp2{i j:Nat}{x y:D}{ρ:yA}{P:yA->Prop}:bindK (.tp [i,j]) (.d (.tuple [x,y])) ρ P=P ((ρ.set i (some (.nj (.d x)))).set j (some (.nj (.d y)))):=optP_s
theorem bv_k{tg:Tg}{ρ:yA}{P:yA->Prop}:bindV tg t ρ P=bindK tg t ρ P:=rfl
theorem V_add:fC .Add (.d (.int i)) n (.d (.int j)) m Q=Q (.d (.int (i+j))) false:=by unfold fC;rw[zA,zA];exact binT_1 i j
theorem V_cat:fC .Add (.d (.str z)) n (.d (.str y)) m Q=(z.length+y.length<=sizeLine/\Q (.d (.str (z++y))) false):=by unfold fC;rw[zA,zA];exact binT_2 z y
theorem V_sub:fC .Sub (.d (.int i)) n (.d (.int j)) m Q=Q (.d (.int (i - j))) false:=by unfold fC;rw[zA,zA];exact binT_5 i j
theorem V_mul:fC .Mult (.d (.int i)) n (.d (.int j)) m Q=(IntMulOk i j/\Q (.d (.int (i * j))) false):=by unfold fC;rw[zA,zA];exact binT_6 i j
theorem V_rep:fC .Mult (.d (.str z)) n (.d (.int j)) m Q=((-(2 ^ 31)<=j/\j<2 ^ 31/\z.length * j.toNat<=sizeLine)/\Q (.d (.str (repS z j))) false):=by unfold fC;rw[zA,zA];exact binT_7 z j
theorem V_div:fC .FloorDiv (.d (.int i)) n (.d (.int j)) m Q=((0<j/\j<2 ^ 200)/\Q (.d (.int (i / j))) false):=by unfold fC;rw[zA,zA];exact binT_8 i j
theorem V_mod:fC .Mod (.d (.int i)) n (.d (.int j)) m Q=(0<j/\Q (.d (.int (i % j))) false):=by unfold fC;rw[zA,zA];exact binT_9 i j
theorem V_pow:fC .Pow (.d (.int i)) n (.d (.int j)) m Q=(CPow i j/\Q (.d (.int (i ^ j.toNat))) false):=by unfold fC;rw[zA,zA];exact binT_10 i j
theorem V_ls:fC .Add (.lst (ds.map T.d)) n (.lst (es.map T.d)) m Q=(ds.length+es.length<=sizeLine/\Q (.lst ((ds++es).map T.d)) true):=by unfold fC;rw[BD,BD,binT_3,dA,dA];exact propext ⟨fun⟨_,_,e1,e2,k⟩=>by cases e1;cases e2;exact k,fun k=>⟨_,_,rfl,rfl,k⟩⟩
theorem V_tp:fC .Add (.d (.tuple ds)) n (.d (.tuple es)) m Q=((ds≠[]/\es≠[]/\ds.length+es.length<=sizeLine)/\Q (.d (.tuple (ds++es))) false):=by unfold fC;rw[zA,zA];show binT .Add (.tp (ds.map T.d)) (.tp (es.map T.d)) Q=_;rw[binT_4,dA,dA];exact propext ⟨fun⟨_,_,e1,e2,k1,k2,k3,k⟩=>by cases e1;cases e2;exact⟨⟨k1,k2,k3⟩,k⟩,fun⟨⟨k1,k2,k3⟩,k⟩=>⟨_,_,rfl,rfl,k1,k2,k3,k⟩⟩
theorem V_l1:fC .Add t n (.lst [.d d]) m Q=fC .Add t n (.lst ([d].map T.d)) m Q:=rfl
theorem V_l1':fC .Add (.lst [.d d]) n t m Q=fC .Add (.lst ([d].map T.d)) n t m Q:=rfl
theorem V_l2{e:D}:fC .Add t n (.lst [.d d,.d e]) m Q=fC .Add t n (.lst ([d,e].map T.d)) m Q:=rfl
theorem mk_1:mkTup [.d d]=.d (.tuple [d]):=rfl
theorem c_eqi:TC .Eq (.d (.int i)) (.d (.int j)) L=L (decide (i=j)):=rfl
theorem c_eqs:TC .Eq (.d (.str z)) (.d (.str y)) L=L (decide (z=y)):=rfl
theorem c_nei:TC .NotEq (.d (.int i)) (.d (.int j)) L=L (!decide (i=j)):=rfl
theorem c_nes:TC .NotEq (.d (.str z)) (.d (.str y)) L=L (!decide (z=y)):=rfl
theorem c_neb{c:Bool}:TC .NotEq (.d (.bool b)) (.d (.bool c)) L=L (!decide (b=c)):=rfl
theorem c_le:TC .LtE (.d (.int i)) (.d (.int j)) L=L (decide (i<=j)):=rfl
theorem c_isn:TC .Is (.d .none) (.d .none) L=L true:=rfl
theorem c_isi:TC .Is (.d (.int i)) (.d .none) L=L false:=rfl
theorem c_iss:TC .Is (.d (.str z)) (.d .none) L=L false:=rfl
theorem c_ist:TC .Is (.d (.tuple ds)) (.d .none) L=L false:=rfl
theorem c_isl:TC .Is (.lst ts) (.d .none) L=L false:=rfl
theorem c_nin:TC .IsNot (.d .none) (.d .none) L=L false:=rfl
theorem c_nil:TC .IsNot (.d (.list ds)) (.d .none) L=L true:=rfl
theorem c_inc:TC .In (.d (.str z)) (.d (.str y)) L=L (inStr y z):=rfl
theorem c_int:TC .In (.d (.str z)) (.d (.tuple ds)) L=(((DB (.str z)=true/\ds.all DB=true)∨(okD (.str z)/\okD (.list ds)))/\L (ds.any fun y=>Qy y (.str z))):=rfl
theorem c_nint:TC .NotIn (.d (.str z)) (.d (.tuple ds)) L=(((DB (.str z)=true/\ds.all DB=true)∨(okD (.str z)/\okD (.list ds)))/\L (!(ds.any fun y=>Qy y (.str z)))):=rfl
theorem c_inl:TC .In (.d (.str z)) (.lst (ds.map T.d)) L=(((DB (.str z)=true/\ds.all DB=true)∨(okD (.str z)/\okD (.list ds)))/\L (ds.any fun y=>Qy y (.str z))):=by unfold TC T.er;rw[oC];rfl
theorem c_innl:TC .In (.d .none) (.lst (ds.map T.d)) L=(((DB .none=true/\ds.all DB=true)∨(okD .none/\okD (.list ds)))/\L (ds.any fun y=>Qy y .none)):=by unfold TC T.er;rw[oC];rfl
theorem t_b:truV (.d (.bool b)) L=L b:=rfl
theorem a_b:asV (.d (.bool b)) L=L b:=rfl
theorem i_of{x:Str}{k:String}(h:isD k d=some b)(hk:isTyN k=true):isiV (.bty x k) (.d d) L=L b:=by show(∃b,isD k d=some b/\isTyN k=true/\L b)=_;exact propext ⟨fun⟨_,e,_,q⟩=>by rw[h]at e;cases e;exact q,fun q=>⟨_,h,hk,q⟩⟩
theorem i_si{x:Str}:isiV (.bty x "str") (.d (.int i)) L=L false:=i_of rfl rfl
theorem i_ss{x:Str}:isiV (.bty x "str") (.d (.str z)) L=L true:=i_of rfl rfl
theorem i_ii{x:Str}:isiV (.bty x "int") (.d (.int i)) L=L true:=i_of rfl rfl
theorem i_bi{x:Str}:isiV (.bty x "bool") (.d (.int i)) L=L false:=i_of rfl rfl
theorem i_lt{x:Str}:isiV (.bty x "list") (.d (.tuple ds)) L=L false:=i_of rfl rfl
theorem i_tt{x:Str}:isiV (.bty x "tuple") (.d (.tuple ds)) L=L true:=i_of rfl rfl
theorem n_lst:biV .len [(.d (.str z),n)] Q=(z.length<=sizeLine/\Q (.d (.int z.length)) false):=by unfold biV iB;rw[zA];exact biT_1 z
theorem n_ld:biV .len [(.d (.list ds),n)] Q=Q (.d (.int ds.length)) false:=by unfold biV iB;rw[zA];refine(biT_2 _).trans ?_;rw[QG]
theorem n_td:biV .len [(.d (.tuple ds),n)] Q=Q (.d (.int ds.length)) false:=by unfold biV iB;rw[zA];refine(biT_3 _).trans ?_;rw[QG]
theorem n_ll:biV .len [(.lst (ds.map T.d),n)] Q=Q (.d (.int ds.length)) false:=by unfold biV iB;rw[BD];refine(biT_2 _).trans ?_;rw[QG]
theorem n_all:biV .all [(.lst (ds.map T.d),n)] Q=∃bs:List Bool,ds=bs.map PyData.bool/\Q (.d (.bool (bs.all id))) false:=by unfold biV iB;rw[BD];refine(biT_4 _).trans ?_;simp only[dA,Qr]
theorem n_ib:biV .int [(.d (.bool b),n)] Q=Q (.d (.int (if b then 1 else 0))) false:=by unfold biV iB;rw[zA];exact biT_6 b
theorem n_is:biV .int [(.d (.str z),n)] Q=(z.length<=640/\optP (intText? z) fun i=>Q (.d (.int i)) false):=by unfold biV iB;rw[zA];exact biT_7 z
theorem n_si:biV .str [(.d (.int i),n)] Q=(i.natAbs.log2<1920/\Q (.d (.str (toString i))) false):=by unfold biV iB;rw[zA];exact biT_8 i
theorem n_ss:biV .str [(.d (.str z),n)] Q=Q (.d (.str z)) false:=by unfold biV iB;rw[zA];exact biT_9 z
theorem x_l:idxV (.lst (ds.map T.d)) n (.d (.int i)) m R=optP (uC ds i) fun d=>R (.d d):=by unfold idxV;rw[BD,zA];refine(idxT_2 _ _).trans ?_;show optP (uC (ds.map T.d) i) R=_;rw[atI_map,optP_m]
theorem x_ld:idxV (.d (.list ds)) n (.d (.int i)) m R=optP (uC ds i) fun d=>R (.d d):=by unfold idxV;rw[zA,zA];refine(idxT_2 _ _).trans ?_;show optP (uC (ds.map T.d) i) R=_;rw[atI_map,optP_m]
theorem x_td:idxV (.d (.tuple ds)) n (.d (.int i)) m R=optP (uC ds i) fun d=>R (.d d):=by unfold idxV;rw[zA,zA];refine(idxT_3 _ _).trans ?_;show optP (uC (ds.map T.d) i) R=_;rw[atI_map,optP_m]
theorem x_l2{e:D}:idxV (.lst [.d d,.d e]) n t m R=idxV (.lst ([d,e].map T.d)) n t m R:=rfl
theorem x_s:idxV (.d (.str z)) n (.d (.int i)) m R=(z.length<=sizeLine/\optP (uC z.cps.toList i) fun c=>R (.d (.str ⟨#[c]⟩))):=by unfold idxV;rw[zA,zA];exact idxT_1 _ _
theorem s_s{l u:Option Int}:slcV (.d (.str z)) n l u Q=(z.length<=sizeLine/\Q (.d (.str (WY z l u))) false):=by unfold slcV;rw[zA];exact slcT_1 z
theorem s_l{l u:Option Int}:slcV (.d (.list ds)) n l u Q=Q (.lst ((cutD ds l u).map T.d)) true:=by unfold slcV;rw[zA];refine(slcT_2 _).trans ?_;rw[dA];exact optP_s
theorem s_lc{l u:Option Int}(h:cutD ds l u=es):slcV (.d (.list ds)) n l u Q=Q (.lst (es.map T.d)) true:=by rw[<- h];exact s_l
theorem m_sp:mtV .split (.d (.str z)) n [(.d (.str y),m)] Q=((z.length<=sizeLine/\0<y.length/\(qJ z y).length<=sizeLine)/\Q (.lst (((qJ z y).map PyData.str).map T.d)) true):=by unfold mtV iB;rw[zA,zA];refine(mtT_1 z y).trans ?_;rw[and_assoc,and_assoc]
theorem m_rs:mtV .rstrip (.d (.str z)) n [] Q=(z.length<=sizeLine/\Q (.d (.str (WB z))) false):=by unfold mtV;rw[zA];exact mtT_2 z
theorem m_ty{P:Prop}:(mtTy .split (vA (.d (.str z)) n).vw=true/\P)=P:=propext ⟨fun h=>h.2,fun h=>⟨mt_str rfl,h⟩⟩
theorem m_tr{P:Prop}:(mtTy .rstrip (vA (.d (.str z)) n).vw=true/\P)=P:=propext ⟨fun h=>h.2,fun h=>⟨mt_str rfl,h⟩⟩
theorem w_s:itV .val [(.d (.str z),n)] W=W (z.cps.toList.map fun c=>.d (.str ⟨#[c]⟩)):=by unfold itV iB;rw[zA];exact itemsT_1 z
theorem w_l:itV .val [(.d (.list ds),n)] W=W (ds.map T.d):=by unfold itV iB;rw[zA];exact itemsT_2 _
theorem w_ll:itV .val [(.lst (ds.map T.d),n)] W=W (ds.map T.d):=by unfold itV iB;rw[BD];exact itemsT_2 _
theorem w_r1:itV .rng1 [(.d (.int j),n)] W=((-(2 ^ 62)<=j/\j<2 ^ 62)/\W ((Qc j.toNat).map fun(i:Nat)=>.d (.int (i:Int)))):=by unfold itV iB;rw[zA];exact itemsT_4 j
theorem zip_of{x y:Vw}(h1:x.seq=some (ds.map T.d))(h2:y.seq=some (es.map T.d)):dC .zip2 [x,y] W=W ((ds.zip es).map fun p=>.d (.tuple [p.1,p.2])):=by rw[itemsT_6];exact propext ⟨fun⟨_,_,_,_,e1,e2,e3,e4,k⟩=>by rw[h1]at e1;rw[h2]at e2;cases e1;cases e2;rw[dA]at e3 e4;cases e3;cases e4;exact k,fun k=>⟨_,_,_,_,h1,h2,dA _,dA _,k⟩⟩
theorem w_zt:itV .zip2 [(.d (.tuple ds),n),(.d (.tuple es),m)] W=W ((ds.zip es).map fun p=>.d (.tuple [p.1,p.2])):=by unfold itV iB iB;rw[zA,zA];exact zip_of rfl rfl
theorem w_ztl:itV .zip2 [(.d (.tuple ds),n),(.lst (es.map T.d),m)] W=W ((ds.zip es).map fun p=>.d (.tuple [p.1,p.2])):=by unfold itV iB iB;rw[zA,BD];exact zip_of rfl rfl
theorem w_en:itV .enumA [(.d (.list ds),n),(.d (.int i),m)] W=((0<=i/\i<2 ^ 62)/\W (ds.zipIdx.map fun p=>.d (.tuple [.int ((i.toNat+p.2:Nat):Int),p.1]))):=by unfold itV iB iB;rw[zA,zA];refine(itemsT_8 _ _).trans ?_;exact propext ⟨fun⟨_,_,e1,e2,k⟩=>by cases e1;rw[dA]at e2;cases e2;exact k,fun k=>⟨_,_,rfl,dA _,k⟩⟩
theorem p_get{Ψ:PEv}{x:Str}{kds:List (Str×D)}(h:Ψ.dc x=some kds):prmV Ψ (.dget x) [(.d (.str z),n)] Q=Q (.d ((kds.lookup z).getD .none)) false:=by unfold prmV fzOf;rw[zA];refine(prmT_1 x z).trans ?_;rw[h];exact optP_s
theorem p_gete{Ψ:PEv}{x:Str}{kds:List (Str×D)}(h:Ψ.dc x=some kds)(e:(kds.lookup z).getD .none=d):prmV Ψ (.dget x) [(.d (.str z),n)] Q=Q (.d d) false:=by rw[<- e];exact p_get h
theorem p_ix{Ψ:PEv}{x:Str}{kds:List (Str×D)}(h:Ψ.dc x=some kds)(e:kds.lookup z=some d):prmV Ψ (.dix x) [(.d (.str z),n)] Q=Q (.d d) false:=by unfold prmV fzOf;rw[zA];refine(prmT_2 x z).trans ?_;rw[h];exact propext ⟨fun⟨_,_,e1,e2,k⟩=>by cases e1;rw[e]at e2;cases e2;exact k,fun k=>⟨_,_,rfl,e,k⟩⟩
theorem p_tm{Ψ:PEv}:prmV Ψ .tmul [(.d (.tuple ds),n),(.d (.int i),m)] Q=((ds≠[]/\1<=i/\i<2 ^ 31/\ds.length * i.toNat<=sizeLine)/\Q (.d (.tuple (QH i.toNat ds).flatten)) false):=by unfold prmV fzOf fzOf;rw[zA,zA];refine(prmT_3 ds i).trans ?_;exact propext ⟨fun⟨h1,h2,h3⟩=>⟨⟨h1,h2⟩,h3⟩,fun⟨⟨h1,h2⟩,h3⟩=>⟨h1,h2,h3⟩⟩
noncomputable def eZ(Q:T->List T->Prop):PEnds:={ nx:=fun _=>Q (.d .none) [],rt:=fun t _=>Q t [] }
theorem eZ_rt{Q:T->List T->Prop}{t:T}{ρ:yA}:(eZ Q).rt t ρ=Q t []:=rfl
theorem eZ_nx{Q:T->List T->Prop}{ρ:yA}:(eZ Q).nx ρ=Q (.d .none) []:=rfl
theorem kA{Ψ:PEv}{b:PT}{p:PSp}{N ps:List Str}{ds:List T}{Q:T->List T->Prop}(ρ:yA)(hl:ds.length=ps.length)(hc:cC 0 p.md ps.length=[])(hs:uA N p.md ds=ρ)(h:nA Ψ (fun _=>False) b (eZ Q) ρ):ds.length=ps.length/\nA Ψ (fun _=>False) b (DA p ps.length Q) (uA N p.md ds):=by
 have e:DA p ps.length Q=eZ Q:=by unfold DA;rw[hc];rfl
 rw[e,hs];exact⟨hl,h⟩
end
noncomputable def scT:T->Bool
 | .d .none=>true
 | .d (.bool _)=>true
 | .d (.int _)=>true
 | .d (.str _)=>true
 |_=>false
noncomputable def tmpP(P:PSp)(md:List Md):PSp where
 md:=md
 run:=fun ts Q _=>P.run (ts.map fun(t:T)=>T.d t.er) (fun r os=>scT r=true/\Q r []) (fun _=>False)
 mono:=fun {ts Q Q' _ _} h _ q=>P.mono (Q:=fun r _=>scT r=true/\Q r []) (Q':=fun r _=>scT r=true/\Q' r []) (E:=fun _=>False) (E':=fun _=>False) (fun _ _ q=>⟨q.1,h _ _ q.2⟩) (fun _ z=>z) q
section
variable{K:QA}{F H:Hp}
theorem args_tmp{Y:KA}{F2:Hp}(ff:Same F F2)(hy:∀b,Y b->F b=none->F2 b=H b):∀{md:List Md}{vs:List V}{ts:List T},(md.all fun m=>!m.isMut)=true->ArgsR K F H Y md vs ts->ArgsR K F2 H (fun _=>False) [] vs (ts.map fun(t:T)=>T.d t.er):=by
 intro md vs ts hm h;induction h with
 |nil=>exact .nil
 |@chg md v vs t ts e _ _ =>
  exfalso;cases md with
  |nil=>cases e
  |cons m md=>have e:m=.chg:=e;subst e;cases hm
 |@rd md v vs t ts Z e r z _ ih =>
  rw[QS];refine .rd (Z:=fun _=>False) (by simp) (.d (r.kept ff fun b u hb e=>?_) fun _ z=>z) (fun _ z=>z) (ih ?_);rw[hy b (z b hb) (r.dom b hb).2];exact e;cases md with
  |nil=>rfl
  |cons m md=>exact(jA hm).2
theorem mutVs_no:∀{md:List Md}(vs:List V),(md.all fun m=>!m.isMut)=true->xB md vs=[]
 |md,[],_=>by cases md<;>rfl
 |[],v::vs,h=>by rw[xB];exact mutVs_no vs rfl
 |m::md,v::vs,h=>by
  obtain⟨h1,h2⟩:=jA h;rw[xB];cases m with
  |chg=>cases h1
  |_=>exact mutVs_no vs h2
theorem mutTs_no:∀{md:List Md}(vs:List T),(md.all fun m=>!m.isMut)=true->CB md vs=[]
 |md,[],_=>by cases md<;>rfl
 |[],v::vs,h=>by rw[CB];exact mutTs_no vs rfl
 |m::md,v::vs,h=>by
  obtain⟨h1,h2⟩:=jA h;rw[CB];cases m with
  |chg=>cases h1
  |_=>exact mutTs_no vs h2
theorem lift_tmp{P:PSp}{md:List Md}(hP:P.md=[])(hm:(md.all fun m=>!m.isMut)=true){vs:List V}{Q:VK}{E:XK}(h:lift K (tmpP P md) vs H Q E):lift K P vs H Q E:=by
 obtain⟨F,ts,M,Y,fh,ar,mt,dj,run⟩:=h;have ff:Same F (frzH F H fun b=>Y b/\F b=none):=frzH_ff fun b hb=>hb.2;refine⟨frzH F H (fun b=>Y b/\F b=none),ts.map fun(t:T)=>T.d t.er,fun _=>False,fun _=>False,frzH_fh fh,?_,?_,fun _ z=>z.elim,?_⟩;rw[hP];exact args_tmp ff (fun b hb hf=>frzH_in ⟨hb,hf⟩) hm ar;rw[hP,mutVs_no _ rfl,mutTs_no _ rfl];exact .nil fun _ z=>z;have run:P.run (ts.map fun(t:T)=>T.d t.er) (fun r _=>scT r=true/\∀v F' H' Z M',Frm M F H F' H'->Tr K F' H' true v r Z->Trs K F' H' true (xB md vs) [] M'->(∀b,Z b->¬ M' b)->(∀b,Z b∨M' b->M b∨H b=none)->Q v H') (fun _=>False):=run;refine P.mono (fun r os ⟨sc,q⟩ v F' H' Z M' fm tr _ _ _=>?_) (fun _ z=>z.elim) run;have fm2:Frm M F H F H':=⟨.refl _,(ff.trans fm.ff).trans fm.fh,fun b u e _=>fm.hh b u e fun z=>z,fm.dm,fun b e z=>absurd e z⟩
 refine q v F H' (fun _=>False) (fun _=>False) fm2 ?_ (by rw[mutVs_no _ hm];exact .nil fun _ z=>z) (fun _ z=>z.elim) (fun _ z=>z.elim (fun z=>z.elim) fun z=>z.elim);cases tr with
 |d r n =>
  cases r with
  |non=>exact .d .non fun _ z=>z
  |bl b=>exact .d (.bl b) fun _ z=>z
  |int i=>exact .d (.int i) fun _ z=>z
  |str x=>exact .d (.str x) fun _ z=>z
  |_=>cases sc
 |_=>cases sc
theorem NA.tmp{P:Program}{w:World}{mg:Str->Option Value}{base:Heap}{Ψ Ψ':PEv}{x:Str}{k:Nat}{md:List Md}(h:NA P w K mg base Ψ k x)(hP:(Ψ.sp x).md=[])(hm:(md.all fun m=>!m.isMut)=true)(e:Ψ'.sp x=tmpP (Ψ.sp x) md):NA P w K mg base Ψ' k x:=by obtain⟨f,fd,ps,h1,h2⟩:=h;refine⟨f,fd,ps,?_,h2⟩;rw[e];exact h1.imp fun vs H Q E q=>lift_tmp hP hm q
end
section
variable{Ψ:PEv}{E:XE}{ρ σ:yA}{o:Option Sl}{K:TK}{L:Bool->yA->Prop}{M:List (T×Bool)->yA->Prop}{a b c e as its elt cond:PX}{Rt:T->yA->Prop}{r s:PT}{Z:PEnds}{j:Nat}
theorem S_frz{is:List Nat}:nA Ψ E (.seq (.frz is s) r) Z (o::σ)=nA Ψ E (.seq s r) Z (frzAt is (o::σ)):=rfl
theorem S_six:nA Ψ E (.seq (.six j a e) r) Z (o::σ)=ownV (o::σ)[j]? fun t=>tB Ψ e E ((o::σ).set j (some (.nj t))) fun x n ρ1=>escK x n (tB Ψ a E ρ1 fun y m ρ2=>escK y m (ρ2[j]?=some (some (.nj t))/\stT t y.er x.er fun t'=>nA Ψ E r Z (ρ2.set j (some (.own t'))))):=rfl
theorem S_pap:nA Ψ E (.seq (.pap j a e) r) Z (o::σ)=ownV (o::σ)[j]? fun t=>tB Ψ a E ((o::σ).set j (some (.nj t))) fun y m ρ1=>escK y m (papT t y.er fun us n ts=>tB Ψ e E ρ1 fun x l ρ2=>escK x l (ρ2[j]?=some (some (.nj t))/\ts.length<sizeLine/\nA Ψ E r Z (ρ2.set j (some (.own (.tup (us.set n (.lst (ts++[x]))))))))):=rfl
theorem E_join:tB Ψ (.mt .join a as) E ρ K=tB Ψ a E ρ fun x n ρ1=>mtTy .join (vA x n).vw=true/\sqM x n Ψ as E ρ1 fun xs ρ2=>mtV .join x n xs fun z k=>K z k ρ2:=rfl
theorem E_extend:tB Ψ (.mt .extend (.var j) as) E ρ K=ownV ρ[j]? fun t=>mutTy .extend t=true/\peA Ψ as E [] (ρ.set j (some (.nj t))) fun xs ρ2=>escB xs=true/\ρ2[j]?=some (some (.nj t))/\mutT .extend t (tsOf xs) fun r s'=>K r true (ρ2.set j (some (.own s'))):=rfl
theorem E_insert:tB Ψ (.mt .insert (.var j) as) E ρ K=ownV ρ[j]? fun t=>mutTy .insert t=true/\peA Ψ as E [] (ρ.set j (some (.nj t))) fun xs ρ2=>escB xs=true/\ρ2[j]?=some (some (.nj t))/\mutT .insert t (tsOf xs) fun r s'=>K r true (ρ2.set j (some (.own s'))):=rfl
theorem E_eff{mask:List Bool}{tgs:List Str}{tg:Tg}{ik:ItK}:tB Ψ (.eff (.comp mask tgs tg ik its cond elt)) E ρ K=((isNop cond=true/\(mask.all fun b=>!b)=true/\(tg.ix.all fun j=>decide (j<tgs.length))=true)/\peA Ψ its E [] ρ fun xs ρ1=>allD xs=true/\itV ik xs fun items=>compE tg tgs.length (pe Ψ elt (fun _=>False)).e items [] ρ1 fun ds ρ2=>K (.lst (ds.map T.d)) true ρ2):=rfl
theorem R_tup:retP Ψ E Rt (.tup as) ρ=tB Ψ (.tup as) E ρ fun x n ρ1=>escK x n (Rt x ρ1):=rfl
theorem R_join:retP Ψ E Rt (.mt .join a as) ρ=tB Ψ (.mt .join a as) E ρ fun x n ρ1=>escK x n (Rt x ρ1):=rfl
theorem R_slc:retP Ψ E Rt (.slc a b c) ρ=tB Ψ (.slc a b c) E ρ fun x n ρ1=>escK x n (Rt x ρ1):=rfl
theorem X_m1{b:Bool}{m:List Bool}{t:Str}{x:T}{R:Option T->Prop}:compX Ψ E (b::m) [t] (.nm 0) .nop elt ρ x R=tB Ψ elt E (some (.nj x)::maskP (b::m) (lockA ρ)) fun y n _=>escK y n (R (some y)):=rfl
theorem G_m{i:Nat}{b:Bool}{m:List Bool}{s:Option Sl}{σ:yA}:getK (i+1) (maskP (b::m) (lockA (s::σ))) ρ K=getK i (maskP m (lockA σ)) ρ K:=rfl
theorem G_m0{m:List Bool}{s:Option Sl}{σ:yA}:getK 0 (maskP (false::m) (lockA (s::σ))) ρ K=getK 0 (lockA (s::σ)) ρ K:=rfl
end
section
variable{d:D}{ds es:List D}{n m:Bool}{xs:List (T×Bool)}{C:List T->Prop}{Q:T->Bool->Prop}{R:T->Prop}{L:Bool->Prop}{t u:T}{z y:Str}{i k:Int}
theorem L_o{ts:List T}:lstV ((.lst ts,true)::xs) C=lstV xs fun us=>C (.lst ts::us):=by show((esc (.lst ts) true&&escB xs)=true/\C (.lst ts::tsOf xs))=(escB xs=true/\C (.lst ts::tsOf xs));rw[show esc (.lst ts) true=true from rfl,QBF]
theorem mk_2{e:D}:mkTup [.d d,.d e]=.d (.tuple [d,e]):=rfl
theorem c_gt:TC .Gt (.d (.int i)) (.d (.int k)) L=L (decide (k<i)):=rfl
theorem c_ge:TC .GtE (.d (.int i)) (.d (.int k)) L=L (decide (k<=i)):=rfl
theorem c_ink:TC .In (.d (.str z)) (.d (.list ds)) L=(((DB (.str z)=true/\ds.all DB=true)∨(okD (.str z)/\okD (.list ds)))/\L (ds.any fun y=>Qy y (.str z))):=rfl
theorem c_nink:TC .NotIn (.d (.str z)) (.d (.list ds)) L=(((DB (.str z)=true/\ds.all DB=true)∨(okD (.str z)/\okD (.list ds)))/\L (!(ds.any fun y=>Qy y (.str z)))):=rfl
theorem c_itk{ws:List D}:TC .In (.d (.tuple ws)) (.d (.list ds)) L=(((DB (.tuple ws)=true/\ds.all DB=true)∨(okD (.tuple ws)/\okD (.list ds)))/\L (ds.any fun y=>Qy y (.tuple ws))):=rfl
theorem n_any:biV .any [(.lst (ds.map T.d),n)] Q=∃bs:List Bool,ds=bs.map PyData.bool/\Q (.d (.bool (bs.any id))) false:=by unfold biV iB;rw[BD];show(∃ts,∃bs:List Bool,[Vw.ls (ds.map T.d)]=[.ls ts]/\unD ts=some (bs.map PyData.bool)/\_)=_;exact propext ⟨fun⟨_,bs,e,h,q⟩=>by cases e;rw[dA]at h;cases h;exact⟨bs,rfl,q⟩,fun⟨bs,e,q⟩=>⟨_,bs,rfl,by rw[e,dA],q⟩⟩
theorem n_lot:biV .list [(.d (.tuple ds),n)] Q=Q (.lst (ds.map T.d)) true:=by unfold biV iB;rw[zA];exact propext ⟨fun h=>h.elim (fun⟨_,_,e,_⟩=>(by cases e)) fun⟨_,_,e,h,q⟩=>by cases e;rw[dA]at h;cases h;exact q,fun q=>.inr ⟨_,_,rfl,dA _,q⟩⟩
theorem n_tol:biV .tuple [(.lst (ds.map T.d),n)] Q=Q (.d (.tuple ds)) false:=by unfold biV iB;rw[BD];exact propext ⟨fun⟨_,_,e,h,q⟩=>by cases e;rw[dA]at h;cases h;exact q,fun q=>⟨_,_,rfl,dA _,q⟩⟩
theorem n_tod:biV .tuple [(.d (.list ds),n)] Q=Q (.d (.tuple ds)) false:=by unfold biV iB;rw[zA];exact propext ⟨fun⟨_,_,e,h,q⟩=>by cases e;rw[dA]at h;cases h;exact q,fun q=>⟨_,_,rfl,dA _,q⟩⟩
theorem m_jn{ys:List Str}:mtV .join (.d (.str z)) n [(.lst ((ys.map PyData.str).map T.d),m)] Q=((ys.map (·.length)).sum+ys.length * z.length<=16777216/\Q (.d (.str (WL z ys))) false):=by unfold mtV iB;rw[zA,BD];exact propext ⟨fun⟨_,_,_,e1,e2,h,l,q⟩=>by cases e1;cases e2;rw[dA]at h;injection h with h;rw[List.map_inj_right fun a b e=>by injection e]at h;subst h;exact⟨l,q⟩,fun⟨l,q⟩=>⟨_,_,ys,rfl,rfl,dA _,l,q⟩⟩
theorem m_tj{P:Prop}:(mtTy .join (vA (.d (.str z)) n).vw=true/\P)=P:=propext ⟨fun h=>h.2,fun h=>⟨mt_str rfl,h⟩⟩
theorem x_l3{e f:D}:idxV (.lst [.d d,.d e,.d f]) n t m R=idxV (.lst ([d,e,f].map T.d)) n t m R:=rfl
theorem x_l4{e f g:D}:idxV (.lst [.d d,.d e,.d f,.d g]) n t m R=idxV (.lst ([d,e,f,g].map T.d)) n t m R:=rfl
theorem x_l6{e f g h k:D}:idxV (.lst [.d d,.d e,.d f,.d g,.d h,.d k]) n t m R=idxV (.lst ([d,e,f,g,h,k].map T.d)) n t m R:=rfl
theorem s_td{l u:Option Int}(h:¬ (HT.sIx ds.length 0 l=0/\HT.sIx ds.length ds.length u=ds.length)):slcV (.d (.tuple ds)) n l u Q=Q (.d (.tuple (cutD ds l u))) false:=by unfold slcV;rw[zA];exact(slcT_3 _).trans (propext ⟨fun⟨_,e,_,q⟩=>by rw[dA]at e;cases e;exact q,fun q=>⟨_,dA _,h,q⟩⟩)
theorem w_td{W:List T->Prop}:itV .val [(.d (.tuple ds),n)] W=W (ds.map T.d):=by unfold itV iB;rw[zA];exact itemsT_3 _
theorem p_getD{Ψ:PEv}{x:Str}{kds:List (Str×D)}(h:Ψ.dc x=some kds){e:D}(he:(kds.lookup z).getD d=e):prmV Ψ (.dgetD x) [(.d (.str z),n),(.d d,m)] Q=Q (.d e) false:=by subst he;unfold prmV fzOf fzOf;rw[zA,zA];exact propext ⟨fun⟨_,_,_,e1,e2,q⟩=>by cases e1;rw[h]at e2;cases e2;exact q,fun q=>⟨_,_,_,rfl,h,q⟩⟩
end
end L2.L3
namespace L2.L3.Lib
open PySem PySem.Spec PyProof.Rows L2 L2.L3
noncomputable def N_is_made_of:List Str:=["word","allowed"]
noncomputable def ps_is_made_of:List Str:=["word","allowed"]
noncomputable def n_is_made_of:Need:=⟨[],[],["all"],[]⟩
noncomputable def b_is_made_of:PT :=
  (.seq (.ret (.bi .all (.ng (.comp [] ["sign"] (.nm 0) .val (.ng (.var 0) .nh) .nop (.cmp .In (.var 0) (.var 2))) .nh)))
  .nil)
noncomputable def N_is_word:List Str:=["word"]
noncomputable def ps_is_word:List Str:=["word"]
noncomputable def n_is_word:Need:=⟨["is_made_of"],["LETTERS","MOST_LETTERS"],["len"],[]⟩
noncomputable def b_is_word:PT :=
  (.seq (.ret (.and (.chn .LtE .LtE (.int 1) (.bi .len (.ng (.var 0) .nh)) (.glo "MOST_LETTERS")) (.call "is_made_of" (.ng (.var 0) (.ng (.glo "LETTERS") .nh)))))
  .nil)
noncomputable def N_is_name:List Str:=["word"]
noncomputable def ps_is_name:List Str:=["word"]
noncomputable def n_is_name:Need:=⟨["is_word"],["KEYWORDS"],[],[]⟩
noncomputable def b_is_name:PT :=
  (.seq (.ret (.and (.call "is_word" (.ng (.var 0) .nh)) (.cmp .NotIn (.var 0) (.glo "KEYWORDS"))))
  .nil)
noncomputable def N_l_keywords:List Str:=["_law_heads"]
noncomputable def ps_l_keywords:List Str:=[]
noncomputable def n_l_keywords:Need:=⟨[],[],[],[]⟩
noncomputable def b_l_keywords:PT :=
  (.seq (.set 0 (.str "person matter against see tell by at who what since tellers wordings apart leans hidden strike quote"))
  (.seq (.ret (.bin .Add (.mt .split (.var 0) (.ng (.str " ") .nh)) (.lst (.ng (.str "ground") (.ng (.str "cut") .nh)))))
  .nil))
noncomputable def N_number_in:List Str:=["word"]
noncomputable def ps_number_in:List Str:=["word"]
noncomputable def n_number_in:Need:=⟨["is_made_of"],["FIGURES","MOST_FIGURES"],["len","int"],[]⟩
noncomputable def b_number_in:PT :=
  (.seq (.ife (.or (.not (.chn .LtE .LtE (.int 1) (.bi .len (.ng (.var 0) .nh)) (.glo "MOST_FIGURES"))) (.not (.call "is_made_of" (.ng (.var 0) (.ng (.glo "FIGURES") .nh))))) (.seq (.ret .non)
  .nil) .nil)
  (.seq (.ife (.and (.cmp .Eq (.idx (.var 0) (.int 0)) (.str "0")) (.cmp .NotEq (.var 0) (.str "0"))) (.seq (.ret .non)
  .nil) .nil)
  (.seq (.ret (.bi .int (.ng (.var 0) .nh)))
  .nil)))
noncomputable def madeOf(w a:Str):Bool:=w.cps.toList.all fun c=>decide (c∈a.cps.toList)
noncomputable def JC:Str:="abcdefghijklmnopqrstuvwxyz"
noncomputable def gB(w:Str):Bool:=decide (1<=w.length)&&(decide (w.length<=8)&&madeOf w JC)
noncomputable def keys:List Str:=["person","matter","against","see","tell","by","at","who","what","since","tellers","wordings","apart","leans","hidden","strike","quote","ground","cut"]
noncomputable def VA(w:Str):Bool:=gB w&&!((keys.map PyData.str).any fun y=>Qy y (.str w))
noncomputable def zB:PSp where
 md:=[]
 run:=fun ds Q _=>∃w a:Str,ds=[.d (.str w),.d (.str a)]/\w.length<=sizeLine/\Q (.d (.bool (madeOf w a))) []
 mono:=fun h _ z=>by obtain⟨w,a,e,l,q⟩:=z;exact⟨w,a,e,l,h _ _ q⟩
noncomputable def HB:PSp where
 md:=[]
 run:=fun ds Q _=>∃w:Str,ds=[.d (.str w)]/\w.length<=sizeLine/\Q (.d (.bool (gB w))) []
 mono:=fun h _ z=>by obtain⟨w,e,l,q⟩:=z;exact⟨w,e,l,h _ _ q⟩
noncomputable def kC:PSp where
 md:=[]
 run:=fun ds Q _=>∃w:Str,ds=[.d (.str w)]/\w.length<=sizeLine/\Q (.d (.bool (VA w))) []
 mono:=fun h _ z=>by obtain⟨w,e,l,q⟩:=z;exact⟨w,e,l,h _ _ q⟩
noncomputable def sB:PSp where
 md:=[]
 run:=fun ds Q _=>ds=[]/\Q (.lst ((keys.map PyData.str).map T.d)) []
 mono:=fun h _ z=>by obtain⟨e,q⟩:=z;exact⟨e,h _ _ q⟩
theorem run_is_made_of{w a:Str}{K:T->List T->Prop}{E:XE}(hl:w.length<=sizeLine):mC zB [.d (.str w),.d (.str a)] K E=K (.d (.bool (madeOf w a))) []:=propext ⟨fun⟨_,_,e,_,q⟩=>by cases e;exact q,fun q=>⟨w,a,rfl,hl,q⟩⟩
theorem ok_is_made_of{Ψ:PEv}(ds Q E)(h:zB.run ds Q E):ds.length=ps_is_made_of.length/\nA Ψ (fun _=>False) b_is_made_of (DA zB ps_is_made_of.length Q) (uA N_is_made_of zB.md ds):=by obtain⟨w,a,rfl,hl,q⟩:=h;refine kA [some (.nj (.d (.str w))),some (.nj (.d (.str a)))] rfl rfl rfl ?_;delta b_is_made_of;simp?[↓lA];refine kD (fun c=>.d (.str ⟨#[c]⟩)) (fun c=>.d (.bool (decide (c∈a.cps.toList)))) _ _ _ (fun c _ R hR=>?_) (by simpa[QBZ]using hl) ?_;simp?[↓lA];exact hR;rw[Q3,map_d];simp?[↓lA];refine⟨w.cps.toList.map fun c=>decide (c∈a.cps.toList),by rw[wW];rfl,?_⟩;rw[QAl];exact q
theorem run_is_word{w:Str}{K:T->List T->Prop}{E:XE}(hl:w.length<=sizeLine):mC HB [.d (.str w)] K E=K (.d (.bool (gB w))) []:=propext ⟨fun⟨_,e,_,q⟩=>by cases e;exact q,fun q=>⟨w,rfl,hl,q⟩⟩
theorem ok_is_word{Ψ:PEv}(h1:Ψ.sp "is_made_of"=zB)(v1:Ψ.va "LETTERS"=some (.str JC))(v2:Ψ.va "MOST_LETTERS"=some (.int 8))(ds Q E)(h:HB.run ds Q E) :
  ds.length=ps_is_word.length/\nA Ψ (fun _=>False) b_is_word (DA HB ps_is_word.length Q) (uA N_is_word HB.md ds):=by
 obtain⟨w,rfl,hl,q⟩:=h;refine kA [some (.nj (.d (.str w)))] rfl rfl rfl ?_;delta b_is_word;simp?[↓oA (md:=[]) h1 rfl rfl,↓E_glo v1,↓E_glo v2,↓run_is_made_of hl];refine⟨hl,?_⟩;unfold gB at q;split;rename_i h1;have h1':decide (1<=w.length)=true:=by simp at h1 ⊢;omega
 rw[h1']at q;split;rename_i h2;have h2':decide (w.length<=8)=true:=by simp at h2 ⊢;omega
 rw[h2']at q;exact q;rename_i h2;have h2':decide (w.length<=8)=false:=by simp at h2 ⊢;omega
 rw[h2']at q;exact q;rename_i h1;have h1':decide (1<=w.length)=false:=by simp at h1 ⊢;omega
 rw[h1']at q;exact q
theorem keys_flat:(keys.map PyData.str).all DB=true:=by rfl
theorem run_is_name{w:Str}{K:T->List T->Prop}{E:XE}(hl:w.length<=sizeLine):mC kC [.d (.str w)] K E=K (.d (.bool (VA w))) []:=propext ⟨fun⟨_,e,_,q⟩=>by cases e;exact q,fun q=>⟨w,rfl,hl,q⟩⟩
theorem ok_is_name{Ψ:PEv}(h1:Ψ.sp "is_word"=HB)(v1:Ψ.va "KEYWORDS"=some (.tuple (keys.map PyData.str)))(ds Q E)(h:kC.run ds Q E) :
  ds.length=ps_is_name.length/\nA Ψ (fun _=>False) b_is_name (DA kC ps_is_name.length Q) (uA N_is_name kC.md ds):=by
 obtain⟨w,rfl,hl,q⟩:=h;refine kA [some (.nj (.d (.str w)))] rfl rfl rfl ?_;delta b_is_name;simp?[↓oA (md:=[]) h1 rfl rfl,↓E_glo v1,↓run_is_word hl];unfold VA at q;cases hw:gB w with
 |true=>rw[hw]at q;exact⟨.inl ⟨rfl,keys_flat⟩,q⟩
 |false=>rw[hw]at q;exact q
theorem split_heads:qJ (QD "person matter against see tell by at who what since tellers wordings apart leans hidden strike quote") (QD " ")=keys.take 17:=by decide +kernel
theorem run_keywords{K:T->List T->Prop}{E:XE}:mC sB [] K E=K (.lst ((keys.map PyData.str).map T.d)) []:=propext ⟨fun⟨_,q⟩=>q,fun q=>⟨rfl,q⟩⟩
theorem ok_keywords{Ψ:PEv}(ds Q E)(h:sB.run ds Q E):ds.length=ps_l_keywords.length/\nA Ψ (fun _=>False) b_l_keywords (DA sB ps_l_keywords.length Q) (uA N_l_keywords sB.md ds):=by obtain⟨rfl,q⟩:=h;refine kA [none] rfl rfl rfl ?_;delta b_l_keywords;simp?[split_heads];exact⟨by decide +kernel,by decide +kernel,by decide +kernel,by decide,by decide +kernel,q⟩
theorem foldl_app(xs:List (Array Nat)):∀(acc:Array Nat),(xs.foldl (·++·) acc).toList=acc.toList++(xs.map QBn).flatten:=by
 induction xs with
 |nil=>intro acc;simp
 |cons a xs ih=>intro acc;rw[wk,ih];simp
theorem repS_codes(x:Str)(k:Int):(repS x k).cps.toList=(QH k.toNat x.cps.toList).flatten:=by
 unfold repS Txt.mul;split;rename_i h;have:k.toNat=0:=by omega
 rw[this];rfl;rename_i h;split;rename_i h2;rw[qi]at h2;rcases h2 with h2|h2;have:k=1:=by simpa using h2
 subst this;simp;have h3:x.length=0:=by simpa using h2
 have:x.cps.toList=[]:=by
  have:x.cps.toList.length=0:=by rw[Qg];exact h3
  exact WM.mp this
 rw[this];simp;show((QH k.toNat x.cps).foldl (·++·) #[]).toList=_;rw[foldl_app];simp
theorem repS_len(x:Str)(k:Int):(repS x k).length=k.toNat * x.length:=by have h:=congrArg w6 (repS_codes x k);rw[Qg,len_rep,Qg]at h;exact h
noncomputable def dD:Str:="0123456789"
noncomputable def isNum(w:Str):Bool:=decide (1<=w.length)&&(decide (w.length<=9)&&(madeOf w dD&&(w.cps.toList.head? != some 48||decide (w.length=1))))
noncomputable def yD(w:Str):Int:=((QBg w.cps.toList:Nat):Int)
noncomputable def numIn(w:Str):D:=if isNum w=true then .int (yD w) else .none
noncomputable def GB:PSp where
 md:=[]
 run:=fun ds Q _=>∃w:Str,ds=[.d (.str w)]/\w.length<=sizeLine/\Q (.d (numIn w)) []
 mono:=fun h _ z=>by obtain⟨w,e,l,q⟩:=z;exact⟨w,e,l,h _ _ q⟩
theorem fig_codes:dD.cps.toList=(Qc 10).map (·+48):=by decide +kernel
theorem fig_mem(c:Nat):decide (c∈dD.cps.toList)=(decide (48<=c)&&decide (c<=57)):=by rw[fig_codes,<- Bool.decide_and];refine decide_eq_decide.mpr ⟨fun h=>?_,fun h=>Q8.mpr ⟨c - 48,qQ.mpr (by omega),by omega⟩⟩;obtain⟨i,hi,rfl⟩:=Q8.mp h;have:=qQ.mp hi;omega
theorem all_digits{w:Str}(h:madeOf w dD=true):QBh w.cps.toList:=by intro c hc;have:=Qn.mp h c hc;rw[fig_mem,QU]at this;exact⟨of_decide_eq_true this.1,of_decide_eq_true this.2⟩
theorem zero_str:QD "0"=⟨#[48]⟩:=by decide +kernel
theorem str_ext{a b:Str}(h:a.cps.toList=b.cps.toList):a=b:=by obtain⟨a⟩:=a;obtain⟨b⟩:=b;exact congrArg Str.mk (QB1.mp h)
theorem run_number_in{w:Str}{d:D}{K:T->List T->Prop}{E:XE}(hl:w.length<=sizeLine)(h:numIn w=d):mC GB [.d (.str w)] K E=K (.d d) []:=by subst h;exact propext ⟨fun⟨_,e,_,q⟩=>by cases e;exact q,fun q=>⟨w,rfl,hl,q⟩⟩
theorem ok_number_in{Ψ:PEv}(h1:Ψ.sp "is_made_of"=zB)(v1:Ψ.va "FIGURES"=some (.str dD))(v2:Ψ.va "MOST_FIGURES"=some (.int 9))(ds Q E)(h:GB.run ds Q E) :
  ds.length=ps_number_in.length/\nA Ψ (fun _=>False) b_number_in (DA GB ps_number_in.length Q) (uA N_number_in GB.md ds):=by
 obtain⟨w,rfl,hl,q⟩:=h;refine kA [some (.nj (.d (.str w)))] rfl rfl rfl ?_;delta b_number_in;simp?[↓oA (md:=[]) h1 rfl rfl,↓E_glo v1,↓E_glo v2,↓run_is_made_of hl];refine⟨hl,?_⟩;unfold numIn isNum at q;by_cases c1:1<=w.length;have e1:decide ((1:Int)<=(w.length:Int))=true:=by simp;omega
 rw[dT c1]at q;simp only[e1,wt,Qk,if_false,if_true];by_cases c2:w.length<=9;have e2:decide ((w.length:Int)<=9)=true:=by simp;omega
 rw[dT c2]at q;simp only[e2,wt,Qk,if_false];cases hm:madeOf w dD with
 |false=>rw[hm]at q;exact q
 |true =>
  rw[hm]at q;simp only[wt,Qk,if_false];refine⟨hl,?_⟩;have hlen:w.cps.toList.length=w.length:=Qg;cases hc:w.cps.toList with
  |nil=>rw[hc]at hlen;simp at hlen;omega
  |cons c cs =>
   refine optP.mk (a:=c) (ZB (j:=0) rfl) ?_;rw[hc]at q hlen;rw[zero_str];have ec:decide ((⟨#[c]⟩:Str)=⟨#[48]⟩)=decide (c=48):=by by_cases z:c=48;subst z;simp;have:¬ (⟨#[c]⟩:Str)=⟨#[48]⟩:=fun e=>z (by injection e with e;injection e with e;injection e);rw[dF this,dF z]
   rw[ec];have ew:decide (w=⟨#[48]⟩)=(decide (c=48)&&decide (w.length=1)):=by
    by_cases z:w=⟨#[48]⟩;rw[dT z];rw[z]at hc;injection hc with hc1 hc2;subst hc1;rw[z];rfl;rw[dF z];symm;rw[Bool.and_eq_false_iff];by_cases y:c=48;refine .inr (dF fun y2=>z ?_);subst y;apply str_ext;rw[hc];have:cs=[]:=by
     cases cs with
     |nil=>rfl
     |cons _ _=>simp at hlen;omega
    rw[this];exact .inl (dF y)
   rw[ew];have fin:(w.length<=640/\∃n,intText? w=some n/\Q (.d (.int n)) [])↔Q (.d (.int (yD w))) []:=by have e:intText? w=some (yD w):=PySem.intText_digits (all_digits hm) (by rw[hc];simp) (by omega);constructor;rintro⟨_,n,e1,q⟩;rw[e]at e1;cases e1;exact q;intro q;exact⟨by omega,_,e,q⟩
   by_cases z:c=48;subst z;by_cases y:w.length=1;rw[dT y]at q ⊢;simp only[decide_true,Bool.and_self,wt,Qk,if_false,if_true];refine fin.mpr ?_;simpa using q;rw[dF y]at q ⊢;simp only[decide_true,QAv,WU,if_true];simpa using q;rw[dF z];simp only[Qk,if_false];refine fin.mpr ?_;have:((some c:Option Nat) != some 48)=true:=by simp[z]
   have q2:(if(true&&(true&&(true&&(((some c:Option Nat) != some 48)||decide (w.length=1)))))=true then PyData.int (yD w) else PyData.none)=PyData.int (yD w):=by rw[this];rfl
   have q3:Q (.d (if(true&&(true&&(true&&(((some c:Option Nat) != some 48)||decide (w.length=1)))))=true then PyData.int (yD w) else PyData.none)) []:=q;rw[q2]at q3;exact q3
 have e2:decide ((w.length:Int)<=9)=false:=by simp;omega
 rw[dF c2]at q;simp only[e2,WU,if_true];exact q;have e1:decide ((1:Int)<=(w.length:Int))=false:=by simp;omega
 rw[dF c1]at q;simp only[e1,WU,if_true];exact q
noncomputable def wc:List Nat->List Nat->List (List Nat)
 |[],cur=>if cur.isEmpty then[] else[cur]
 |c::cs,cur=>if c=32 then(if cur.isEmpty then wc cs [] else cur::wc cs []) else wc cs (cur++[c])
theorem wc_free:∀(w r cur:List Nat),32∉w->wc (w++r) cur=wc r (cur++w)
 |[],r,cur,_=>by simp
 |c::w,r,cur,h=>by have hc:¬ c=32:=fun e=>h (by simp[e]);rw[wD,wc,if_neg hc,wc_free w r _ fun z=>h (QJ _ z)];simp
theorem wc_blank(r cur:List Nat):wc (32::r) cur=(if cur.isEmpty then[] else[cur])++wc r []:=by rw[wc,if_pos rfl];split<;>simp
theorem wc_blanks:∀(n:Nat) (r:List Nat),wc (QH n 32++r) []=wc r []
 |0,r=>rfl
 |n+1,r=>by rw[Qe,wD,wc_blank,wc_blanks n r];rfl
theorem wc_word(w r:List Nat)(n:Nat)(h:32∉w)(h0:w≠[]):wc (w++(QH (n+1) 32++r)) []=w::wc r []:=by
 rw[wc_free _ _ _ h,Qe,wD,wc_blank,wc_blanks];have:([]++w:List Nat).isEmpty=false:=by cases w with|nil=>exact absurd rfl h0|cons _ _=>rfl
 rw[this];rfl
theorem wc_end:∀(r cur:List Nat) (n:Nat),wc (r++QH n 32) cur=wc r cur
 |[],cur,0=>by simp
 |[],cur,n+1=>by
  rw[Q3,Qe,wc_blank];have e:wc (QH n 32) []=[]:=by have:=wc_blanks n [];rw[Qi]at this;rw[this];rfl
  rw[e,Qi];rfl
 |c::r,cur,n=>by rw[wD,wc,wc];split;rw[wc_end r [] n];exact wc_end r _ n
noncomputable def joinC:List (List Nat)->List Nat
 |[]=>[]
 |[x]=>x
 |x::y::r=>x++32::joinC (y::r)
theorem wc_join:∀(ps:List (List Nat)),(∀p∈ps,32∉p)->wc (joinC ps) []=ps.filter fun p=>!p.isEmpty
 |[],_=>rfl
 |[x],h=>by
  have:=wc_free x [] [] (h x (by simp));rw[Qi]at this;rw[joinC,this];cases x with
  |nil=>rfl
  |cons _ _=>rfl
 |x::y::r,h=>by
  rw[joinC,wc_free _ _ _ (h x (by simp)),wc_blank,wc_join (y::r) fun p hp=>h p (QJ _ hp)];cases x with
  |nil=>rfl
  |cons _ _=>rfl
theorem join_codes:∀(ps:List Str),(Wy ⟨#[32]⟩ ps).cps.toList=joinC (ps.map fun p=>p.cps.toList)
 |[]=>rfl
 |[x]=>rfl
 |x::y::r=>by show((x.cps++#[32])++(Wy ⟨#[32]⟩ (y::r)).cps).toList=_;have ih:=join_codes (y::r);rw[QS]at ih;rw[QS,QS,joinC,<- ih];simp
noncomputable def wordsOf(r:Str):List Str:=(qJ r ⟨#[32]⟩).filter fun w=>decide (w≠⟨#[]⟩)
theorem wordsOf_codes(r:Str):(wordsOf r).map (fun w=>w.cps.toList)=wc r.cps.toList []:=by
 have h1:=join_codes (qJ r ⟨#[32]⟩);rw[QBS]at h1;rw[h1,wc_join _ fun p hp=>by obtain⟨q,hq,rfl⟩:=Q8.mp hp;exact QBT r 32 q hq];unfold wordsOf;rw[List.filter_map];congr 1;apply List.filter_congr;intro w _;obtain⟨⟨l⟩⟩:=w;cases l with
 |nil=>rfl
 |cons a l=>simp[Function.comp]
theorem codes_inj{a:List Str}:∀{ws:List Str},a.map (fun w=>w.cps.toList)=ws.map (fun w=>w.cps.toList)->a=ws:=by
 induction a with
 |nil =>
  intro ws e;cases ws with
  |nil=>rfl
  |cons _ _=>simp at e
 |cons x a ih =>
  intro ws e;cases ws with
  |nil=>simp at e
  |cons y ws=>simp only[QS,qj]at e;rw[str_ext e.1,ih e.2]
theorem wordsOf_of{r:Str}{ws:List Str}(h:wc r.cps.toList []=ws.map fun w=>w.cps.toList):wordsOf r=ws:=codes_inj ((wordsOf_codes r).trans h)
theorem takeWhile_drop{α:Type}(p:α->Bool):∀l:List α,∃a b,l=a++b/\a=l.takeWhile p/\(∀x∈a,p x=true)
 |[]=>⟨[],[],rfl,rfl,fun _ z=>by cases z⟩
 |x::r=>by obtain⟨a,b,h1,h2,h3⟩:=takeWhile_drop p r;by_cases hx:p x=true;refine⟨x::a,b,by rw[wD,<- h1],by rw[QBC,hx,h2];rfl,fun y hy=>?_⟩;rcases QI.mp hy with rfl|hy;exact hx;exact h3 y hy;exact⟨[],x::r,rfl,by rw[QBC];simp[hx],fun _ z=>by cases z⟩
theorem rstrip_codes(x:Str)(h:∀c∈x.cps.toList,wV c=true->c=32):∃n,x.cps.toList=(WB x).cps.toList++QH n 32:=by
 unfold WB Txt.stripBy;split;exact⟨0,by simp⟩;obtain⟨a,b,h1,h2,h3⟩:=takeWhile_drop wV x.cps.toList.reverse;have e:x.cps.toList=b.reverse++a.reverse:=by have:=congrArg List.reverse h1;rw[List.reverse_reverse,List.reverse_append]at this;exact this
 have e2:(PySem.stripped wV false true x).cps.toList=b.reverse:=by
  unfold PySem.stripped PySem.stripLo PySem.stripHi;rw[StrLaws.strSub_toList];simp only[Qk,if_false,if_true,QA0,<- h2,Nat.sub_zero];have hl:x.length=b.length+a.length:=by have:=congrArg w6 e;rw[Qg]at this;show x.cps.size=_;simpa using this
  rw[hl,e];have:b.length+a.length - a.length=b.reverse.length:=by simp
  rw[this,List.take_left]
 refine⟨a.length,?_⟩;rw[e2];have:a.reverse=QH a.length 32:=by rw[List.eq_replicate_iff];refine⟨by simp,fun c hc=>?_⟩;have hc':c∈a:=List.mem_reverse.mp hc;exact h c (by rw[e];exact Qb _ hc) (h3 c hc')
 rw[<- this];exact e
theorem wc_rstrip{x:Str}(h:∀c∈x.cps.toList,wV c=true->c=32):wc (WB x).cps.toList []=wc x.cps.toList []:=by obtain⟨n,e⟩:=rstrip_codes x h;rw[e,wc_end]
noncomputable def UD(n:Int):Str:=QD (toString n)
theorem numT_digits(m:Nat):QBh (UD (m:Int)).cps.toList:=by intro c hc;unfold UD at hc;rw[wq]at hc;obtain⟨ch,hch,e⟩:=Q8.mp hc;rw[<- e];exact digit_range (Nat.isDigit_of_mem_toDigits (by decide) (by decide) hch)
theorem numT_val(m:Nat):QBg (UD (m:Int)).cps.toList=m:=by unfold UD;rw[wq];exact PySem.W.KIN.val_back m
theorem drop48_len:∀(cs:List Nat),(cs.dropWhile (·==48)).length<=cs.length
 |[]=>QX _
 |c::cs=>by rw[QBD];split;exact Nat.le_succ_of_le (drop48_len cs);exact QX _
theorem numT_head(m:Nat):((UD (m:Int)).cps.toList.head? != some 48||decide ((UD (m:Int)).length=1))=true:=by
 have hd:=numT_digits m;have hv:=numT_val m;have hs:(UD (m:Int)).cps.toList=(QBt 10 m).map Char.toNat:=wq m;have hl:(UD (m:Int)).cps.toList.length=(UD (m:Int)).length:=Qg;generalize (UD (m:Int)).cps.toList=cs at hd hv hs hl;have ta:=NumText.toDigits_all cs hd;rw[hv]at ta;cases cs with
 |nil=>rfl
 |cons c r =>
  by_cases e:c=48;subst e;have hlen:(QBt 10 m).length=r.length+1:=by have:=congrArg w6 hs;rw[QG]at this;rw[<- this];rfl
  rw[ta,QBD]at hlen;have hle:=drop48_len r;simp only[beq_self_eq_true,if_true]at hlen;have:r.length=0:=by revert hlen;split;rename_i h0;intro hlen;simp at hlen;exact hlen.symm▸rfl;rename_i c2 r2 h0;intro hlen;rw[h0]at hle;rw[QG]at hlen;omega
  rw[<- hl,QL,this];rfl;have:((some c:Option Nat) != some 48)=true:=by simp[e]
  show((some c:Option Nat) != some 48||_)=true;rw[this];rfl
theorem numT_len{n:Int}(h0:0<=n)(h1:n<=999999999):1<=(UD n).length/\(UD n).length<=9:=by refine⟨?_,toString_length_le h0 (by decide) (by rw[show(10:Int) ^ 9=1000000000 from rfl];omega)⟩;obtain⟨m,rfl⟩:=WO h0;have hs:(UD (m:Int)).cps.toList=(QBt 10 m).map Char.toNat:=wq m;have hl:(UD (m:Int)).cps.toList.length=(UD (m:Int)).length:=Qg;rw[hs,QG]at hl;rw[<- hl];exact Nat.length_toDigits_pos
theorem numIn_text{n:Int}(h0:0<=n)(h1:n<=999999999):numIn (UD n)=.int n:=by
 obtain⟨l1,l2⟩:=numT_len h0 h1;obtain⟨m,rfl⟩:=WO h0;have hm:madeOf (UD (m:Int)) dD=true:=by unfold madeOf;rw[Qn];intro c hc;have:=numT_digits m c hc;rw[fig_mem,dT this.1,dT this.2];rfl
 have hn:isNum (UD (m:Int))=true:=by unfold isNum;rw[dT l1,dT l2,hm,numT_head m];rfl
 unfold numIn;rw[if_pos hn];unfold yD;rw[numT_val]
noncomputable def N_words_in:List Str:=["row"]
noncomputable def ps_words_in:List Str:=["row"]
noncomputable def n_words_in:Need:=⟨[],[],[],[]⟩
noncomputable def b_words_in:PT :=
  (.seq (.ret (.comp [] ["word"] (.nm 0) .val (.ng (.mt .split (.var 0) (.ng (.str " ") .nh)) .nh) (.cmp .NotEq (.var 0) (.str "")) (.var 0)))
  .nil)
noncomputable def N_form_for:List Str:=["words","form","quoted"]
noncomputable def ps_form_for:List Str:=["words"]
noncomputable def n_form_for:Need:=⟨[],["MOST_QUOTED"],["len"],["FORMS"]⟩
noncomputable def b_form_for_c:PT :=
  (.seq (.ret (.bin .Add (.bin .Add (.var 1) (.tup (.ng (.str "by") .nh))) (.prm .tmul (.ng (.tup (.ng (.str "name") .nh)) (.ng (.var 2) .nh)))))
  .nil)
noncomputable def b_form_for_b:PT :=
  (.seq (.ife (.chn .LtE .LtE (.int 1) (.var 2) (.glo "MOST_QUOTED")) b_form_for_c .nil)
  (.seq (.ret (.var 1))
  .nil))
noncomputable def b_form_for:PT :=
  (.seq (.set 1 (.prm (.dget "FORMS") (.ng (.idx (.var 0) (.int 0)) .nh)))
  (.seq (.ife (.cmp .NotEq (.idx (.var 0) (.int 0)) (.str "tell")) (.seq (.ret (.var 1))
  .nil) .nil)
  (.seq (.set 2 (.bin .Sub (.bin .Sub (.bi .len (.ng (.var 0) .nh)) (.bi .len (.ng (.var 1) .nh))) (.int 2)))
  b_form_for_b)))
noncomputable def N_number_within:List Str:=["bounds","word","number"]
noncomputable def IC:List Str:=["bounds","word"]
noncomputable def n_number_within:Need:=⟨["number_in"],[],[],[]⟩
noncomputable def YC:PT :=
  (.seq (.set 2 (.call "number_in" (.ng (.var 1) .nh)))
  (.seq (.ife (.or (.cmp .Is (.var 2) .non) (.not (.chn .LtE .LtE (.idx (.var 0) (.int 0)) (.var 2) (.idx (.var 0) (.int 1))))) (.seq (.ret .non)
  .nil) .nil)
  (.seq (.ret (.var 2))
  .nil)))
noncomputable def N_are_unlike:List Str:=["values","pair"]
noncomputable def ps_are_unlike:List Str:=["values"]
noncomputable def n_are_unlike:Need:=⟨[],[],[],["UNLIKE"]⟩
noncomputable def b_are_unlike:PT :=
  (.seq (.set 1 (.prm (.dget "UNLIKE") (.ng (.idx (.var 0) (.int 0)) .nh)))
  (.seq (.ret (.or (.cmp .Is (.var 1) .non) (.cmp .NotEq (.idx (.var 0) (.idx (.var 1) (.int 0))) (.idx (.var 0) (.idx (.var 1) (.int 1))))))
  .nil))
theorem blank_str:QD " "=⟨#[32]⟩:=by decide +kernel
theorem empty_str:QD ""=⟨#[]⟩:=by decide +kernel
noncomputable def yC:PSp where
 md:=[]
 run:=fun ds Q _=>∃r:Str,ds=[.d (.str r)]/\r.length<=100000/\Q (.lst ((wordsOf r).map fun w=>.d (.str w))) []
 mono:=fun h _ z=>by obtain⟨w,e,l,q⟩:=z;exact⟨w,e,l,h _ _ q⟩
theorem run_words_in{r:Str}{K:T->List T->Prop}{E:XE}(hl:r.length<=100000):mC yC [.d (.str r)] K E=K (.lst (((wordsOf r).map PyData.str).map T.d)) []:=by rw[<- map_d];exact propext ⟨fun⟨_,e,_,q⟩=>by cases e;exact q,fun q=>⟨r,rfl,hl,q⟩⟩
theorem ok_words_in{Ψ:PEv}(ds Q E)(h:yC.run ds Q E):ds.length=ps_words_in.length/\nA Ψ (fun _=>False) b_words_in (DA yC ps_words_in.length Q) (uA N_words_in yC.md ds):=by obtain⟨r,rfl,hl,q⟩:=h;refine kA [some (.nj (.d (.str r)))] rfl rfl rfl ?_;have hz:sizeLine=16777216:=QZ;delta b_words_in;simp?[blank_str,empty_str];refine⟨by omega,by decide,?_,?_⟩;have:=split_le r ⟨#[32]⟩;omega;rw[wW];refine compV_filter (fun w:Str=>T.d (.str w)) (fun w=>T.d (.str w)) (fun w=>decide (w≠⟨#[]⟩)) _ _ _ (fun w _ R hR=>?_) ?_ q;simp?[↓lA];by_cases e:w=⟨#[]⟩;subst e;simpa using hR;rw[dF e];simp only[WU,if_true];simpa[e]using hR;have:=split_le r ⟨#[32]⟩;simp;omega
noncomputable def numWithin(a b:Int)(w:Str):D:=match numIn w with
 | .int n=>if(decide (a<=n)&&decide (n<=b))=true then .int n else .none
 |_=>.none
noncomputable def BA:PSp where
 md:=[]
 run:=fun ds Q _=>∃(a b:Int) (w:Str),ds=[.d (.tuple [.int a,.int b]),.d (.str w)]/\w.length<=sizeLine/\Q (.d (numWithin a b w)) []
 mono:=fun h _ z=>by obtain⟨a,b,w,e,l,q⟩:=z;exact⟨a,b,w,e,l,h _ _ q⟩
theorem run_number_within{a b:Int}{w:Str}{K:T->List T->Prop}{E:XE}(hl:w.length<=sizeLine):mC BA [.d (.tuple [.int a,.int b]),.d (.str w)] K E=K (.d (numWithin a b w)) []:=propext ⟨fun⟨_,_,_,e,_,q⟩=>by cases e;exact q,fun q=>⟨a,b,w,rfl,hl,q⟩⟩
theorem ok_number_within{Ψ:PEv}(h1:Ψ.sp "number_in"=GB)(ds Q E)(h:BA.run ds Q E):ds.length=IC.length/\nA Ψ (fun _=>False) YC (DA BA IC.length Q) (uA N_number_within BA.md ds):=by
 obtain⟨a,b,w,rfl,hl,q⟩:=h;refine kA [some (.nj (.d (.tuple [.int a,.int b]))),some (.nj (.d (.str w))),none] rfl rfl rfl ?_;have x0:uC [PyData.int a,.int b] 0=some (.int a):=rfl;have x1:uC [PyData.int a,.int b] 1=some (.int b):=rfl;unfold numWithin at q;cases hn:isNum w with
 |false =>
  have e:numIn w=.none:=by unfold numIn;rw[hn];rfl
  rw[e]at q;delta YC;simp?[↓oA (md:=[]) h1 rfl rfl,↓run_number_in hl e];exact q
 |true =>
  have e:numIn w=.int (yD w):=by unfold numIn;rw[hn];rfl
  rw[e]at q;have q:Q (.d (if(decide (a<=yD w)&&decide (yD w<=b))=true then .int (yD w) else .none)) []:=q;delta YC;simp?[↓oA (md:=[]) h1 rfl rfl,↓run_number_in hl e,↓optP_e x0,↓optP_e x1];cases ha:decide (a<=yD w) with
  |false=>rw[ha]at q;exact q
  |true =>
   rw[ha]at q;cases hb:decide (yD w<=b) with
   |false=>rw[hb]at q;exact q
   |true=>rw[hb]at q;exact q
noncomputable def formsS:List (Str×List Str):=[("person",["name","rank","floor","needs"]),("matter",["name"]),("against",["name","name"]),("see",["time","name","name","word"]),("tell",["time","name","name","name","word"])]
noncomputable def formsL:List (Str×D):=formsS.map fun p=>(p.1,.tuple (p.2.map PyData.str))
noncomputable def sC:List (Str×D):=[("against",.tuple [.int 1,.int 2]),("tell",.tuple [.int 2,.int 3])]
noncomputable def optT:Option (List Str)->D
 |none=>.none
 |some f=>.tuple (f.map PyData.str)
theorem look_map{α β:Type}(f:α->β)(x:Str):∀(l:List (Str×α)),(l.map fun p=>(p.1,f p.2)).lookup x=(l.lookup x).map f
 |[]=>rfl
 |p::r=>by
  obtain⟨a,b⟩:=p;rw[QS,qM,qM];cases x==a with
  |true=>rfl
  |false=>exact look_map f x r
theorem forms_look(x:Str):(formsL.lookup x).getD .none=optT (formsS.lookup x):=by unfold formsL;rw[look_map (fun f:List Str=>PyData.tuple (f.map PyData.str)) x formsS];cases formsS.lookup x<;>rfl
noncomputable def gC:List Str:=["time","name","name","name","word"]
noncomputable def byF(k:Nat):List Str:=QD "by"::QH k (QD "name")
noncomputable def formS(h:Str)(n:Nat):Option (List Str):=if decide (h="tell")=true then(if 8<=n/\n<=13 then some (gC++byF (n - 7)) else some gC) else formsS.lookup h
theorem tell_look:formsS.lookup (QD "tell")=some gC:=by decide +kernel
noncomputable def XB:PSp where
 md:=[]
 run:=fun ds Q _=>∃(h:Str) (ws:List Str),ds=[.d (.list ((h::ws).map PyData.str))]/\ws.length<=1000/\Q (.d (optT (formS h (ws.length+1)))) []
 mono:=fun h _ z=>by obtain⟨p,w,e,l,q⟩:=z;exact⟨p,w,e,l,h _ _ q⟩
theorem run_form_for{h:Str}{ws:List Str}{K:T->List T->Prop}{E:XE}(hl:ws.length<=1000)(q:K (.d (optT (formS h (ws.length+1)))) []):mC XB [.d (.list ((h::ws).map PyData.str))] K E:=⟨h,ws,rfl,hl,q⟩
theorem rep_flat(k:Nat):(QH k [PyData.str (QD "name")]).flatten=(QH k (QD "name")).map PyData.str:=by
 induction k with
 |zero=>rfl
 |succ k ih=>rw[Qe,Qe,qF,ih];rfl
theorem form_c{Ψ:PEv}{Z:PEnds}{s0:Option Sl}{k:Nat}(h:k+1<=6)(q:∀ρ,Z.rt (.d (.tuple ((gC++byF (k+1)).map PyData.str))) ρ):nA Ψ (fun _=>False) b_form_for_c Z [s0,some (.nj (.d (.tuple (gC.map PyData.str)))),some (.nj (.d (.int ((k+1:Nat):Int))))]:=by
 have hz:sizeLine=16777216:=QZ;have tl:(wK PyData.str gC).length=5:=by rfl
 have ne1:¬ wK PyData.str gC=[]:=by intro z;rw[z]at tl;cases tl
 delta b_form_for_c;simp?[↓lA];rw[QAF,rep_flat];have ee:wK PyData.str gC++[PyData.str (QD "by")]++(QH (k+1) (QD "name")).map PyData.str=(gC++byF (k+1)).map PyData.str:=by unfold byF;rw[Q6,QS,qN];rfl
 have el:(wK PyData.str (QH (k+1) (QD "name"))).length=k+1:=by rw[QG,Q7]
 rw[ee,QK,tl,el];exact⟨by omega,ne1,by omega,by omega,by omega,by omega,by omega,fun z=>ne1 (QAc.mp z).1,fun z=>(by rw[z]at el;cases el),by show 5+1+(k+1)<=_;omega,q _⟩
theorem form_b{Ψ:PEv}(v2:Ψ.va "MOST_QUOTED"=some (.int 6)){Z:PEnds}{s0:Option Sl}{n:Nat}(q:∀ρ,Z.rt (.d (optT (if 8<=n/\n<=13 then some (gC++byF (n - 7)) else some gC))) ρ):nA Ψ (fun _=>False) b_form_for_b Z [s0,some (.nj (.d (.tuple (gC.map PyData.str)))),some (.nj (.d (.int ((n:Int) - 7))))]:=by
 delta b_form_for_b;simp?[↓E_glo v2];have no:¬ (8<=n/\n<=13)->∀ρ,Z.rt (T.d (PyData.tuple (wK PyData.str gC))) ρ:=fun c=>by rw[if_neg c]at q;exact q
 refine ite2 (fun h1=>ite2 (fun h2=>?_) fun h2=>no (fun z=>h2 (dT (by omega))) _) fun h1=>no (fun z=>h1 (dT (by omega))) _;have h1:1<=(n:Int) - 7:=of_decide_eq_true h1;have h2:(n:Int) - 7<=6:=of_decide_eq_true h2;obtain⟨k,hk⟩:∃k:Nat,n=k+8:=⟨n - 8,by omega⟩
 subst hk;rw[if_pos ⟨by omega,by omega⟩]at q;have e:((k+8:Nat):Int) - 7=((k+1:Nat):Int):=by omega
 rw[e];exact form_c (by omega) q
theorem ok_form_for{Ψ:PEv}(v1:Ψ.dc "FORMS"=some formsL)(v2:Ψ.va "MOST_QUOTED"=some (.int 6))(ds Q E)(h:XB.run ds Q E):ds.length=ps_form_for.length/\nA Ψ (fun _=>False) b_form_for (DA XB ps_form_for.length Q) (uA N_form_for XB.md ds):=by
 obtain⟨h,ws,rfl,hl,q⟩:=h;refine kA [some (.nj (.d (.list ((h::ws).map PyData.str)))),none,none] rfl rfl rfl ?_;have a0:uC (wK PyData.str (h::ws)) 0=some (.str h):=ZB (j:=0) rfl;unfold formS at q;by_cases e:h="tell";rw[dT e]at q;have q:Q (.d (optT (if 8<=ws.length+1/\ws.length+1<=13 then some (gC++byF (ws.length+1 - 7)) else some gC))) []:=q;have fl:(formsL.lookup h).getD .none=.tuple (gC.map PyData.str):=by rw[forms_look,e,tell_look];rfl
 delta b_form_for;simp?[↓p_gete v1 fl,↓optP_e a0,dT e];have ek:(((h::ws).map PyData.str).length:Int) - ((gC.map PyData.str).length:Int) - 2=((ws.length+1:Nat):Int) - 7:=by rw[QG,QL,show(gC.map PyData.str).length=5 by rfl];omega
 rw[ek];exact form_b v2 fun _=>q;rw[dF e]at q;delta b_form_for;simp?[↓p_get v1,↓optP_e a0,forms_look,dF e];exact q
noncomputable def LA:PSp where
 md:=[.nj]
 run:=fun ds Q _=>∃(h:Str) (vs:List D),ds=[.lst ((.str h::vs).map T.d)]/\((sC.lookup h=none/\Q (.d (.bool true)) [])∨∃i j a b,sC.lookup h=some (.tuple [.int i,.int j])/\uC (.str h::vs) i=some (.str a)/\uC (.str h::vs) j=some (.str b)/\Q (.d (.bool (!decide (a=b)))) [])
 mono:=fun h _ z=>by obtain⟨p,w,e,q⟩:=z;exact⟨p,w,e,q.imp (fun q=>⟨q.1,h _ _ q.2⟩) fun⟨i,j,a,b,h1,h2,h3,q⟩=>⟨i,j,a,b,h1,h2,h3,h _ _ q⟩⟩
theorem run_are_unlike{h:Str}{vs:List D}{K:T->List T->Prop}{E:XE}(q:(sC.lookup h=none/\K (.d (.bool true)) [])∨∃i j a b,sC.lookup h=some (.tuple [.int i,.int j])/\uC (.str h::vs) i=some (.str a)/\uC (.str h::vs) j=some (.str b)/\K (.d (.bool (!decide (a=b)))) []):mC LA [.lst ((.str h::vs).map T.d)] K E:=⟨h,vs,rfl,q⟩
theorem ok_are_unlike{Ψ:PEv}(v1:Ψ.dc "UNLIKE"=some sC)(ds Q E)(h:LA.run ds Q E):ds.length=ps_are_unlike.length/\nA Ψ (fun _=>False) b_are_unlike (DA LA ps_are_unlike.length Q) (uA N_are_unlike LA.md ds):=by
 obtain⟨h,vs,rfl,q⟩:=h;refine kA [some (.nj (.lst ((.str h::vs).map T.d))),none] rfl rfl rfl ?_;have a0:uC (PyData.str h::vs) 0=some (.str h):=ZB (j:=0) rfl;generalize (PyData.str h::vs)=L at a0 q ⊢;rcases q with⟨e,q⟩| ⟨i,j,a,b,e,h1,h2,q⟩
 have eg:(sC.lookup h).getD .none=.none:=by rw[e];rfl
 delta b_are_unlike;simp?[↓p_gete v1 eg,↓optP_e a0];exact q;have x0:uC [PyData.int i,.int j] 0=some (.int i):=rfl;have x1:uC [PyData.int i,.int j] 1=some (.int j):=rfl;have eg:(sC.lookup h).getD .none=.tuple [.int i,.int j]:=by rw[e];rfl
 delta b_are_unlike;simp?[↓p_gete v1 eg,↓optP_e a0,↓optP_e x0,↓optP_e x1,↓optP_e h1,↓optP_e h2];exact q
end L2.L3.Lib
namespace L2.L3.K3
open PySem PySem.Spec PyProof.Rows L2 L2.L3 L2.L3.Lib
noncomputable def top(i:Nat):Stmt:=QN.main.body.getD i (.Pass ⟨0,0,0,0⟩)
theorem cb_words_in:jC n_words_in b_words_in N_words_in ps_words_in (top 14)=true:=by kernel_rfl
theorem cb_is_made_of:jC n_is_made_of b_is_made_of N_is_made_of ps_is_made_of (top 15)=true:=by kernel_rfl
theorem cb_is_word:jC n_is_word b_is_word N_is_word ps_is_word (top 16)=true:=by kernel_rfl
theorem cb_is_name:jC n_is_name b_is_name N_is_name ps_is_name (top 17)=true:=by kernel_rfl
theorem cb_number_in:jC n_number_in b_number_in N_number_in ps_number_in (top 18)=true:=by kernel_rfl
noncomputable def N_row_of:List Str:=["row","place","words","values"]
noncomputable def ps_row_of:List Str:=["row","place"]
noncomputable def n_row_of:Need:=⟨["words_in","values_by","form_for","are_unlike"],[],["len"],[]⟩
noncomputable def b_row_of_d:PT :=
  (.seq (.ret (.var 3))
  .nil)
noncomputable def b_row_of_c:PT :=
  (.seq (.ife (.or (.cmp .Is (.var 3) .non) (.not (.call "are_unlike" (.ng (.var 3) .nh)))) (.seq .rse
  .nil) .nil)
  b_row_of_d)
noncomputable def b_row_of_b:PT :=
  (.seq (.own 3 (.call "values_by" (.ng (.call "form_for" (.ng (.var 2) .nh)) (.ng (.var 2) .nh))))
  b_row_of_c)
noncomputable def b_row_of:PT :=
  (.seq (.set 2 (.call "words_in" (.ng (.var 0) .nh)))
  (.seq (.ife (.cmp .Eq (.bi .len (.ng (.var 2) .nh)) (.int 0)) (.seq (.ret .non)
  .nil) .nil)
  b_row_of_b))
theorem cb_row_of:jC n_row_of b_row_of N_row_of ps_row_of (top 25)=true:=by kernel_rfl
noncomputable def N_values_by:List Str:=["form","words","values"]
noncomputable def ps_values_by:List Str:=["form","words"]
noncomputable def n_values_by:Need:=⟨["value_of"],[],["len","zip"],[]⟩
noncomputable def b_values_by:PT :=
  (.seq (.ife (.or (.cmp .Is (.var 0) .non) (.cmp .NotEq (.bi .len (.ng (.var 1) .nh)) (.bin .Add (.int 1) (.bi .len (.ng (.var 0) .nh))))) (.seq (.ret .non)
  .nil) .nil)
  (.seq (.own 2 (.bin .Add (.lst (.ng (.idx (.var 1) (.int 0)) .nh)) (.comp [] ["part","word"] (.tp [0,1]) .zip2 (.ng (.var 0) (.ng (.slc (.var 1) (.int 1) .nop) .nh)) .nop (.call "value_of" (.ng (.var 0) (.ng (.var 1) .nh))))))
  (.seq (.ret (.ife (.cmp .In .non (.var 2)) .non (.var 2)))
  .nil)))
theorem cb_values_by:jC n_values_by b_values_by N_values_by ps_values_by (top 26)=true:=by kernel_rfl
theorem cb_form_for:jC n_form_for b_form_for N_form_for ps_form_for (top 27)=true:=by kernel_rfl
noncomputable def N_value_of:List Str:=["part","word"]
noncomputable def ps_value_of:List Str:=["part","word"]
noncomputable def n_value_of:Need:=⟨["is_name","is_word","number_within"],["NAMED"],[],["RANGES"]⟩
noncomputable def b_value_of_a:PT :=
  (.seq (.ret (.ife (.call "is_name" (.ng (.var 1) .nh)) (.var 1) .non))
  .nil)
noncomputable def b_value_of_z:PT :=
  (.seq (.ret (.call "number_within" (.ng (.prm (.dix "RANGES") (.ng (.var 0) .nh)) (.ng (.var 1) .nh))))
  .nil)
noncomputable def b_value_of_c:PT :=
  (.seq (.ret (.ife (.cmp .Eq (.var 1) (.str "by")) (.var 1) .non))
  .nil)
noncomputable def b_value_of_b:PT :=
  (.seq (.ret (.ife (.call "is_word" (.ng (.var 1) .nh)) (.var 1) .non))
  .nil)
noncomputable def b_value_of:PT :=
  (.seq (.ife (.cmp .In (.var 0) (.glo "NAMED")) b_value_of_a .nil)
  (.seq (.ife (.cmp .Eq (.var 0) (.str "word")) b_value_of_b .nil)
  (.seq (.ife (.cmp .Eq (.var 0) (.str "by")) b_value_of_c .nil)
  b_value_of_z)))
theorem cb_value_of:jC n_value_of b_value_of N_value_of ps_value_of (top 28)=true:=by kernel_rfl
theorem cb_number_within:jC n_number_within YC N_number_within IC (top 29)=true:=by kernel_rfl
theorem cb_are_unlike:jC n_are_unlike b_are_unlike N_are_unlike ps_are_unlike (top 30)=true:=by kernel_rfl
noncomputable def N_read_world:List Str:=["text","world","rows","place","row","values"]
noncomputable def ps_read_world:List Str:=["text"]
noncomputable def n_read_world:Need:=⟨["row_of","check_row","entry_of"],[],["enumerate","len"],["SECTIONS"]⟩
noncomputable def b_read_world_1:PT :=
  (.seq (.set 5 (.call "row_of" (.ng (.var 4) (.ng (.var 3) .nh))))
  (.seq (.ife (.cmp .IsNot (.var 5) .non) (.seq (.expr (.call "check_row" (.ng (.var 1) (.ng (.var 5) (.ng (.var 3) .nh)))))
  (.seq (.pap 1 (.prm (.dix "SECTIONS") (.ng (.idx (.var 5) (.int 0)) .nh)) (.call "entry_of" (.ng (.var 5) .nh)))
  .nil)) .nil)
  .nil))
noncomputable def b_read_world:PT :=
  (.seq (.own 1 (.tup (.ng (.lst .nh) (.ng (.lst .nh) (.ng (.lst .nh) (.ng (.lst .nh) .nh))))))
  (.seq (.set 2 (.mt .split (.var 0) (.ng (.str "\n") .nh)))
  (.seq (.for_ (.tp [3,4]) .enumA (.ng (.var 2) (.ng (.int 1) .nh)) b_read_world_1)
  (.seq (.ife (.or (.cmp .Eq (.bi .len (.ng (.idx (.var 1) (.int 0)) .nh)) (.int 0)) (.cmp .Eq (.bi .len (.ng (.idx (.var 1) (.int 1)) .nh)) (.int 0))) (.seq .rse
  .nil) .nil)
  (.seq (.ret (.var 1))
  .nil)))))
theorem cb_read_world:jC n_read_world b_read_world N_read_world ps_read_world (top 37)=true:=by kernel_rfl
noncomputable def N_check_row:List Str:=["world","values","place","section"]
noncomputable def ps_check_row:List Str:=["world","values","place"]
noncomputable def n_check_row:Need:=⟨["is_told","has_stranger"],["MOST"],["any","len"],["SECTIONS"]⟩
noncomputable def b_check_row:PT :=
  (.seq (.set 3 (.prm (.dix "SECTIONS") (.ng (.idx (.var 1) (.int 0)) .nh)))
  (.seq (.ife (.bi .any (.ng (.comp [] ["later"] (.nm 0) .val (.ng (.slc (.var 0) (.bin .Add (.var 3) (.int 1)) .nop) .nh) .nop (.cmp .Gt (.bi .len (.ng (.var 0) .nh)) (.int 0))) .nh)) (.seq .rse
  .nil) .nil)
  (.seq (.ife (.call "is_told" (.ng (.var 0) (.ng (.var 1) .nh))) (.seq .rse
  .nil) .nil)
  (.seq (.ife (.call "has_stranger" (.ng (.var 0) (.ng (.var 1) .nh))) (.seq .rse
  .nil) .nil)
  (.seq (.ife (.cmp .GtE (.bi .len (.ng (.idx (.var 0) (.var 3)) .nh)) (.idx (.glo "MOST") (.var 3))) (.seq .rse
  .nil) .nil)
  .nil)))))
theorem cb_check_row:jC n_check_row b_check_row N_check_row ps_check_row (top 38)=true:=by kernel_rfl
noncomputable def N_is_told:List Str:=["world","values"]
noncomputable def ps_is_told:List Str:=["world","values"]
noncomputable def n_is_told:Need:=⟨["names_of"],[],[],[]⟩
noncomputable def vD:PT :=
  (.seq (.ife (.cmp .Eq (.idx (.var 1) (.int 0)) (.str "person")) (.seq (.ret (.cmp .In (.idx (.var 1) (.int 1)) (.call "names_of" (.ng (.var 0) .nh))))
  .nil) .nil)
  (.seq (.ife (.cmp .Eq (.idx (.var 1) (.int 0)) (.str "matter")) (.seq (.ret (.cmp .In (.idx (.var 1) (.int 1)) (.idx (.var 0) (.int 1))))
  .nil) .nil)
  (.seq (.ife (.cmp .Eq (.idx (.var 1) (.int 0)) (.str "against")) (.seq (.ret (.or (.cmp .In (.tup (.ng (.idx (.var 1) (.int 1)) (.ng (.idx (.var 1) (.int 2)) .nh))) (.idx (.var 0) (.int 2))) (.cmp .In (.tup (.ng (.idx (.var 1) (.int 2)) (.ng (.idx (.var 1) (.int 1)) .nh))) (.idx (.var 0) (.int 2)))))
  .nil) .nil)
  (.seq (.ret (.bl false))
  .nil))))
theorem cb_is_told:jC n_is_told vD N_is_told ps_is_told (top 39)=true:=by kernel_rfl
noncomputable def N_has_stranger:List Str:=["world","values","names","people","matters"]
noncomputable def VD:List Str:=["world","values"]
noncomputable def n_has_stranger:Need:=⟨["names_of","quote_in"],[],["any"],["MATTERS_AT","PEOPLE_AT"]⟩
noncomputable def b_has_stranger:PT :=
  (.seq (.set 2 (.call "names_of" (.ng (.var 0) .nh)))
  (.seq (.set 3 (.bin .Add (.comp [] ["at"] (.nm 0) .val (.ng (.prm (.dgetD "PEOPLE_AT") (.ng (.idx (.var 1) (.int 0)) (.ng (.tup .nh) .nh))) .nh) .nop (.idx (.var 2) (.var 0))) (.call "quote_in" (.ng (.var 1) .nh))))
  (.seq (.set 4 (.comp [] ["at"] (.nm 0) .val (.ng (.prm (.dgetD "MATTERS_AT") (.ng (.idx (.var 1) (.int 0)) (.ng (.tup .nh) .nh))) .nh) .nop (.idx (.var 2) (.var 0))))
  (.seq (.ret (.or (.bi .any (.ng (.comp [] ["name"] (.nm 0) .val (.ng (.var 3) .nh) .nop (.cmp .NotIn (.var 0) (.var 3))) .nh)) (.bi .any (.ng (.comp [] ["name"] (.nm 0) .val (.ng (.var 4) .nh) .nop (.cmp .NotIn (.var 0) (.idx (.var 1) (.int 1)))) .nh))))
  .nil))))
theorem cb_has_stranger:jC n_has_stranger b_has_stranger N_has_stranger VD (top 40)=true:=by kernel_rfl
noncomputable def N_names_of:List Str:=["world"]
noncomputable def ps_names_of:List Str:=["world"]
noncomputable def n_names_of:Need:=⟨[],[],[],[]⟩
noncomputable def b_names_of:PT :=
  (.seq (.ret (.comp [] ["person"] (.nm 0) .val (.ng (.idx (.var 0) (.int 0)) .nh) .nop (.idx (.var 0) (.int 0))))
  .nil)
theorem cb_names_of:jC n_names_of b_names_of N_names_of ps_names_of (top 41)=true:=by kernel_rfl
noncomputable def N_quote_in:List Str:=["values"]
noncomputable def ps_quote_in:List Str:=["values"]
noncomputable def n_quote_in:Need:=⟨[],["WORDING_ENDS"],[],[]⟩
noncomputable def b_quote_in:PT :=
  (.seq (.ret (.slc (.var 0) (.bin .Add (.glo "WORDING_ENDS") (.int 1)) .nop))
  .nil)
theorem cb_quote_in:jC n_quote_in b_quote_in N_quote_in ps_quote_in (top 42)=true:=by kernel_rfl
noncomputable def N_entry_of:List Str:=["values"]
noncomputable def ps_entry_of:List Str:=["values"]
noncomputable def n_entry_of:Need:=⟨["quote_in"],["WORDING_ENDS"],["tuple"],[]⟩
noncomputable def VC:PT :=
  (.seq (.ife (.cmp .Eq (.idx (.var 0) (.int 0)) (.str "matter")) (.seq (.ret (.idx (.var 0) (.int 1)))
  .nil) .nil)
  (.seq (.ife (.cmp .Eq (.idx (.var 0) (.int 0)) (.str "see")) (.seq (.ret (.bi .tuple (.ng (.var 0) .nh)))
  .nil) .nil)
  (.seq (.ife (.cmp .Eq (.idx (.var 0) (.int 0)) (.str "tell")) (.seq (.ret (.bi .tuple (.ng (.bin .Add (.slc (.var 0) .nop (.glo "WORDING_ENDS")) (.lst (.ng (.bi .tuple (.ng (.call "quote_in" (.ng (.var 0) .nh)) .nh)) .nh))) .nh)))
  .nil) .nil)
  (.seq (.ret (.bi .tuple (.ng (.slc (.var 0) (.int 1) .nop) .nh)))
  .nil))))
theorem cb_entry_of:jC n_entry_of VC N_entry_of ps_entry_of (top 43)=true:=by kernel_rfl
theorem cb_l_keywords:jC n_l_keywords b_l_keywords N_l_keywords ps_l_keywords (top 45)=true:=by kernel_rfl
noncomputable def N_l_draw:List Str:=["_law_script","_law_k","_law_cell","_law_factor"]
noncomputable def ps_l_draw:List Str:=["_law_script","_law_k"]
noncomputable def n_l_draw:Need:=⟨[],[],["len"],[]⟩
noncomputable def b_l_draw_r1:PT :=
  (.seq (.set 3 (.bin .Add (.int 91343852333181432387730302044767688731) (.bin .Mult (.bin .Mult (.int 7919000003) (.var 1)) (.var 1))))
  (.seq (.ret (.bin .Mod (.bin .Mult (.bin .Add (.bin .Add (.var 2) (.var 1)) (.int 1)) (.var 3)) (.int 170141183460469231731687303715884105727)))
  .nil))
noncomputable def b_l_draw:PT :=
  (.seq (.set 2 (.int 0))
  (.seq (.ife (.cmp .Gt (.bi .len (.ng (.var 0) .nh)) (.int 0)) (.seq (.set 2 (.idx (.var 0) (.bin .Mod (.var 1) (.bi .len (.ng (.var 0) .nh)))))
  .nil) .nil)
  b_l_draw_r1))
theorem cb_l_draw:jC n_l_draw b_l_draw N_l_draw ps_l_draw (top 46)=true:=by kernel_rfl
noncomputable def N_l_next:List Str:=["_law_script","_law_at"]
noncomputable def ps_l_next:List Str:=["_law_script","_law_at"]
noncomputable def n_l_next:Need:=⟨["_law_draw"],[],[],[]⟩
noncomputable def b_l_next:PT :=
  (.seq (.six 1 (.int 0) (.bin .Add (.idx (.var 1) (.int 0)) (.int 1)))
  (.seq (.ret (.call "_law_draw" (.ng (.var 0) (.ng (.idx (.var 1) (.int 0)) .nh))))
  .nil))
theorem cb_l_next:jC n_l_next b_l_next N_l_next ps_l_next (top 47)=true:=by kernel_rfl
noncomputable def N_l_name:List Str:=["_law_seed","_law_k","_law_letters","_law_size","_law_spot","_law_word","_law_two"]
noncomputable def ps_l_name:List Str:=["_law_seed","_law_k"]
noncomputable def n_l_name:Need:=⟨["_law_keywords"],[],["range"],[]⟩
noncomputable def b_l_name_r1:PT :=
  (.seq (.ret (.var 5))
  .nil)
noncomputable def b_l_name:PT :=
  (.seq (.set 2 (.str "abcdefghijklmnopqrstuvwxyz"))
  (.seq (.set 3 (.bin .Add (.int 2) (.bin .Mod (.var 0) (.int 6))))
  (.seq (.set 4 (.bin .Mod (.bin .FloorDiv (.var 0) (.int 6)) (.bin .Sub (.var 3) (.int 1))))
  (.seq (.set 5 (.mt .join (.str "") (.ng (.comp [] ["_law_j"] (.nm 0) .rng1 (.ng (.var 3) .nh) .nop (.idx (.var 3) (.bin .Mod (.bin .Add (.bin .FloorDiv (.var 1) (.int 42)) (.bin .Mult (.bin .Mult (.var 0) (.var 0)) (.bin .Mod (.bin .FloorDiv (.var 1) (.int 1100)) (.int 5)))) (.int 26)))) .nh)))
  (.seq (.set 6 (.bin .Add (.idx (.var 2) (.bin .Mod (.bin .Add (.bin .FloorDiv (.var 0) (.int 7)) (.bin .FloorDiv (.var 1) (.int 26))) (.int 26))) (.idx (.var 2) (.bin .Mod (.bin .Add (.bin .FloorDiv (.var 0) (.int 3)) (.var 1)) (.int 26)))))
  (.seq (.set 5 (.bin .Add (.bin .Add (.slc (.var 5) .nop (.var 4)) (.var 6)) (.slc (.var 5) (.bin .Add (.var 4) (.int 2)) .nop)))
  (.seq (.ife (.cmp .In (.var 5) (.call "_law_keywords" .nh)) (.seq (.set 5 (.bin .Add (.var 5) (.str "z")))
  .nil) .nil)
  b_l_name_r1)))))))
theorem cb_l_name:jC n_l_name b_l_name N_l_name ps_l_name (top 48)=true:=by kernel_rfl
noncomputable def N_l_against:List Str:=["_law_script","_law_at","_law_matters","_law_pairs","_law_j","_law_k","_law_n","_law_pair"]
noncomputable def ps_l_against:List Str:=["_law_script","_law_at","_law_matters"]
noncomputable def n_l_against:Need:=⟨["_law_next"],[],["range","len"],[]⟩
noncomputable def mD:PT :=
  (.seq (.set 6 (.call "_law_next" (.ng (.var 0) (.ng (.var 1) .nh))))
  (.seq (.set 7 (.idx (.lst (.ng (.tup (.ng (.idx (.var 2) (.var 4)) (.ng (.idx (.var 2) (.var 5)) .nh))) (.ng (.tup (.ng (.idx (.var 2) (.var 5)) (.ng (.idx (.var 2) (.var 4)) .nh))) .nh))) (.bin .Mod (.bin .FloorDiv (.var 6) (.int 3)) (.int 2))))
  (.seq (.ife (.cmp .Gt (.bin .Mod (.var 6) (.int 3)) (.int 0)) (.seq (.expr (.mt .insert (.var 3) (.ng (.bin .Mod (.bin .FloorDiv (.var 6) (.int 9)) (.bin .Add (.bi .len (.ng (.var 3) .nh)) (.int 1))) (.ng (.var 7) .nh))))
  .nil) .nil)
  .nil)))
noncomputable def lD:PT :=
  (.seq (.for_ (.nm 5) .rng1 (.ng (.var 4) .nh) mD)
  .nil)
noncomputable def b_l_against:PT :=
  (.seq (.own 3 (.lst .nh))
  (.seq (.for_ (.nm 4) .rng1 (.ng (.bi .len (.ng (.var 2) .nh)) .nh) lD)
  (.seq (.ret (.var 3))
  .nil)))
theorem cb_l_against:jC n_l_against b_l_against N_l_against ps_l_against (top 49)=true:=by kernel_rfl
noncomputable def N_l_event:List Str:=["_law_script","_law_at","_law_people","_law_matters","_law_n","_law_time","_law_many","_law_p","_law_f","_law_word","_law_q","_law_quoted","_law_by"]
noncomputable def ps_l_event:List Str:=["_law_script","_law_at","_law_people","_law_matters"]
noncomputable def n_l_event:Need:=⟨["_law_next","_law_keywords","_law_name"],[],["len","int","range","tuple"],[]⟩
noncomputable def b_l_event:PT :=
  (.seq (.set 4 (.call "_law_next" (.ng (.var 0) (.ng (.var 1) .nh))))
  (.seq (.set 5 (.idx (.lst (.ng (.bin .Mod (.bin .FloorDiv (.var 4) (.int 7)) (.int 5)) (.ng (.bin .Mod (.bin .FloorDiv (.var 4) (.int 7)) (.int 60)) (.ng (.bin .Mod (.bin .FloorDiv (.var 4) (.int 7)) (.bin .Pow (.int 10) (.int 9))) (.ng (.idx (.lst (.ng (.int 0) (.ng (.int 999999999) .nh))) (.bin .Mod (.bin .FloorDiv (.var 4) (.int 7)) (.int 2))) .nh))))) (.bin .Mod (.var 4) (.int 4))))
  (.seq (.set 6 (.bi .len (.ng (.var 2) .nh)))
  (.seq (.set 7 (.bin .Mod (.bin .FloorDiv (.var 4) (.int 100)) (.var 6)))
  (.seq (.set 8 (.idx (.var 3) (.bin .Mod (.bin .FloorDiv (.var 4) (.int 1000)) (.bi .len (.ng (.var 3) .nh)))))
  (.seq (.set 9 (.idx (.lst (.ng (.call "_law_name" (.ng (.bin .Mod (.bin .FloorDiv (.var 4) (.bin .Pow (.int 10) (.int 6))) (.bin .Pow (.int 10) (.int 12))) (.ng (.int 3) .nh))) (.ng (.idx (.call "_law_keywords" .nh) (.bin .Mod (.bin .FloorDiv (.var 4) (.bin .Pow (.int 10) (.int 6))) (.int 19))) .nh))) (.bi .int (.ng (.cmp .Eq (.bin .Mod (.bin .FloorDiv (.var 4) (.int 20)) (.int 6)) (.int 0)) .nh))))
  (.seq (.ife (.or (.cmp .Eq (.var 6) (.int 1)) (.cmp .Eq (.bin .Mod (.bin .FloorDiv (.var 4) (.int 4)) (.int 3)) (.int 0))) (.seq (.ret (.tup (.ng (.str "see") (.ng (.var 5) (.ng (.idx (.idx (.var 2) (.var 7)) (.int 0)) (.ng (.var 8) (.ng (.var 9) .nh)))))))
  .nil) .nil)
  (.seq (.set 10 (.bin .Mod (.bin .Add (.bin .Add (.var 7) (.int 1)) (.bin .Mod (.bin .FloorDiv (.var 4) (.bin .Pow (.int 10) (.int 4))) (.bin .Sub (.var 6) (.int 1)))) (.var 6)))
  (.seq (.set 11 (.idx (.lst (.ng (.int 0) (.ng (.int 0) (.ng (.int 1) (.ng (.int 2) (.ng (.int 6) (.ng (.int 3) .nh))))))) (.bin .Mod (.bin .FloorDiv (.var 4) (.int 12)) (.int 6))))
  (.seq (.set 12 (.eff (.comp [] ["_law_j"] (.nm 0) .rng1 (.ng (.var 11) .nh) .nop (.idx (.idx (.var 3) (.bin .Mod (.call "_law_next" (.ng (.var 1) (.ng (.var 2) .nh))) (.var 7))) (.int 0)))))
  (.seq (.ret (.tup (.ng (.str "tell") (.ng (.var 5) (.ng (.idx (.idx (.var 2) (.var 7)) (.int 0)) (.ng (.idx (.idx (.var 2) (.var 10)) (.int 0)) (.ng (.var 8) (.ng (.var 9) (.ng (.bi .tuple (.ng (.var 12) .nh)) .nh)))))))))
  .nil)))))))))))
theorem cb_l_event:jC n_l_event b_l_event N_l_event ps_l_event (top 50)=true:=by kernel_rfl
noncomputable def N_l_world:List Str:=["_law_script","_law_at","_law_seed","_law_n","_law_people","_law_j","_law_m","_law_matters","_law_against_here","_law_count","_law_events"]
noncomputable def ps_l_world:List Str:=["_law_script"]
noncomputable def n_l_world:Need:=⟨["_law_draw","_law_next","_law_name","_law_against","_law_event"],[],["range"],[]⟩
noncomputable def YD:PT :=
  (.seq (.set 6 (.call "_law_next" (.ng (.var 0) (.ng (.var 1) .nh))))
  (.seq (.expr (.mt .append (.var 4) (.ng (.tup (.ng (.call "_law_name" (.ng (.var 2) (.ng (.var 5) .nh))) (.ng (.bin .Mod (.var 6) (.int 100)) (.ng (.idx (.lst (.ng (.int 0) (.ng (.bin .Mod (.bin .FloorDiv (.var 6) (.int 100)) (.int 100)) (.ng (.int 99) .nh)))) (.bin .Mod (.bin .FloorDiv (.var 6) (.bin .Pow (.int 10) (.int 4))) (.int 3))) (.ng (.bin .Add (.int 1) (.bin .Mod (.bin .FloorDiv (.var 6) (.bin .Pow (.int 10) (.int 5))) (.int 4))) .nh))))) .nh)))
  .nil))
noncomputable def b_l_world_r1:PT :=
  (.seq (.set 10 (.eff (.comp [] ["_law_k"] (.nm 0) .rng1 (.ng (.var 9) .nh) .nop (.call "_law_event" (.ng (.var 1) (.ng (.var 2) (.ng (.var 5) (.ng (.var 8) .nh))))))))
  (.seq (.ret (.tup (.ng (.var 4) (.ng (.var 7) (.ng (.var 8) (.ng (.var 10) .nh))))))
  .nil))
noncomputable def b_l_world:PT :=
  (.seq (.own 1 (.lst (.ng (.int 0) .nh)))
  (.seq (.set 2 (.bin .Mod (.call "_law_draw" (.ng (.var 0) (.ng (.int 0) .nh))) (.bin .Pow (.int 10) (.int 12))))
  (.seq (.set 3 (.call "_law_next" (.ng (.var 0) (.ng (.var 1) .nh))))
  (.seq (.own 4 (.lst .nh))
  (.seq (.for_ (.nm 5) .rng1 (.ng (.bin .Add (.int 1) (.bin .Mod (.var 3) (.int 10))) .nh) YD)
  (.seq (.frz [4] (.set 7 (.comp [false,false,false,false,false,true] ["_law_j"] (.nm 0) .rng1 (.ng (.bin .Add (.int 1) (.bin .Mod (.bin .FloorDiv (.var 3) (.int 10)) (.int 6))) .nh) .nop (.call "_law_name" (.ng (.var 3) (.ng (.idx (.lst (.ng (.var 0) (.ng (.bin .Add (.int 50) (.var 0)) .nh))) (.bin .Mod (.bin .Add (.bin .FloorDiv (.var 4) (.int 60)) (.var 0)) (.int 2))) .nh))))))
  (.seq (.set 8 (.call "_law_against" (.ng (.var 0) (.ng (.var 1) (.ng (.var 7) .nh)))))
  (.seq (.set 9 (.bin .Mod (.bin .FloorDiv (.var 3) (.int 1000)) (.int 26)))
  (.seq (.ife (.cmp .Eq (.bin .Mod (.bin .FloorDiv (.var 3) (.int 100)) (.int 8)) (.int 1)) (.seq (.set 9 (.int 80))
  .nil) .nil)
  b_l_world_r1)))))))))
theorem cb_l_world:jC n_l_world b_l_world N_l_world ps_l_world (top 51)=true:=by kernel_rfl
noncomputable def N_l_lines:List Str:=["_law_world_here","_law_lines_here","_law_event_here","_law_words"]
noncomputable def ps_l_lines:List Str:=["_law_world_here"]
noncomputable def n_l_lines:Need:=⟨[],[],["str","len","list"],[]⟩
noncomputable def b_l_lines_r1:PT :=
  (.seq (.expr (.mt .append (.var 1) (.ng (.var 3) .nh)))
  .nil)
noncomputable def ZD:PT :=
  (.seq (.set 3 (.comp [] ["_law_word"] (.nm 0) .val (.ng (.eff (.slc (.var 2) .nop (.int 6))) .nh) .nop (.bi .str (.ng (.var 0) .nh))))
  (.seq (.ife (.and (.cmp .Eq (.idx (.var 2) (.int 0)) (.str "tell")) (.cmp .Gt (.bi .len (.ng (.idx (.var 2) (.int 6)) .nh)) (.int 0))) (.seq (.set 3 (.bin .Add (.bin .Add (.var 3) (.lst (.ng (.str "by") .nh))) (.bi .list (.ng (.idx (.var 2) (.int 6)) .nh))))
  .nil) .nil)
  b_l_lines_r1))
noncomputable def b_l_lines:PT :=
  (.seq (.own 1 (.comp [] ["_law_person"] (.nm 0) .val (.ng (.idx (.var 0) (.int 0)) .nh) .nop (.bin .Add (.lst (.ng (.str "person") .nh)) (.comp [] ["_law_word"] (.nm 0) .val (.ng (.var 0) .nh) .nop (.bi .str (.ng (.var 0) .nh))))))
  (.seq (.expr (.mt .extend (.var 1) (.ng (.comp [] ["_law_matter"] (.nm 0) .val (.ng (.idx (.var 0) (.int 1)) .nh) .nop (.lst (.ng (.str "matter") (.ng (.var 0) .nh)))) .nh)))
  (.seq (.expr (.mt .extend (.var 1) (.ng (.comp [] ["_law_pair"] (.nm 0) .val (.ng (.idx (.var 0) (.int 2)) .nh) .nop (.lst (.ng (.str "against") (.ng (.idx (.var 0) (.int 0)) (.ng (.idx (.var 0) (.int 1)) .nh))))) .nh)))
  (.seq (.for_ (.nm 2) .val (.ng (.idx (.var 0) (.int 3)) .nh) ZD)
  (.seq (.ret (.var 1))
  .nil)))))
theorem cb_l_lines:jC n_l_lines b_l_lines N_l_lines ps_l_lines (top 52)=true:=by kernel_rfl
noncomputable def N_l_spaced:List Str:=["_law_words","_law_n","_law_row","_law_word"]
noncomputable def ps_l_spaced:List Str:=["_law_words","_law_n"]
noncomputable def n_l_spaced:Need:=⟨[],[],[],[]⟩
noncomputable def b_l_spaced_1:PT :=
  (.seq (.set 1 (.bin .FloorDiv (.var 1) (.int 3)))
  (.seq (.set 2 (.bin .Add (.bin .Add (.var 2) (.var 3)) (.bin .Mult (.str " ") (.bin .Add (.int 1) (.bin .Mod (.var 1) (.int 3))))))
  .nil))
noncomputable def b_l_spaced_r1:PT :=
  (.seq (.ret (.var 2))
  .nil)
noncomputable def b_l_spaced:PT :=
  (.seq (.set 2 (.bin .Mult (.str " ") (.bin .Mod (.var 1) (.int 3))))
  (.seq (.for_ (.nm 3) .val (.ng (.var 0) .nh) b_l_spaced_1)
  (.seq (.ife (.cmp .Eq (.bin .Mod (.bin .FloorDiv (.var 1) (.int 3)) (.int 2)) (.int 0)) (.seq (.set 2 (.mt .rstrip (.var 2) .nh))
  .nil) .nil)
  b_l_spaced_r1)))
theorem cb_l_spaced:jC n_l_spaced b_l_spaced N_l_spaced ps_l_spaced (top 53)=true:=by kernel_rfl
noncomputable def N_l_same:List Str:=["_law_found","_law_due","_law_one","_law_two"]
noncomputable def ps_l_same:List Str:=["_law_found","_law_due"]
noncomputable def n_l_same:Need:=⟨["_law_same"],[],["isinstance","tuple","list","len","zip","str","bool","int"],[]⟩
noncomputable def b_retF:PT :=
  (.seq (.ret (.bl false))
  .nil)
noncomputable def b_l_same_1:PT :=
  (.seq (.ife (.not (.call "_law_same" (.ng (.var 2) (.ng (.var 3) .nh)))) b_retF .nil)
  .nil)
noncomputable def b_l_same_f:PT :=
  (.seq (.for_ (.tp [2,3]) .zip2 (.ng (.var 0) (.ng (.var 1) .nh)) b_l_same_1)
  (.seq (.ret (.bl true))
  .nil))
noncomputable def b_l_same_s:PT :=
  (.seq (.ife (.cmp .NotEq (.isi (.var 1) (.bty "list" "list")) (.isi (.var 0) (.bty "list" "list"))) b_retF .nil)
  (.seq (.ife (.cmp .NotEq (.isi (.var 1) (.bty "tuple" "tuple")) (.isi (.var 0) (.bty "tuple" "tuple"))) b_retF .nil)
  (.seq (.ife (.cmp .NotEq (.bi .len (.ng (.var 0) .nh)) (.bi .len (.ng (.var 1) .nh))) b_retF .nil)
  b_l_same_f)))
noncomputable def b_l_same_t:PT :=
  (.seq (.ret (.and (.isi (.var 0) (.bty "str" "str")) (.cmp .Eq (.var 0) (.var 1))))
  .nil)
noncomputable def b_l_same_n:PT :=
  (.seq (.ret (.cmp .Is (.var 0) .non))
  .nil)
noncomputable def b_l_same_i:PT :=
  (.seq (.ret (.and (.isi (.var 0) (.bty "int" "int")) (.and (.not (.isi (.var 0) (.bty "bool" "bool"))) (.cmp .Eq (.var 0) (.var 1)))))
  .nil)
noncomputable def b_l_same_r:PT :=
  (.seq (.ife (.cmp .Is (.var 1) .non) b_l_same_n .nil)
  (.seq (.ife (.isi (.var 1) (.bty "str" "str")) b_l_same_t .nil)
  b_l_same_i))
noncomputable def pC:PT :=
  (.seq (.ife (.or (.isi (.var 1) (.bty "list" "list")) (.isi (.var 1) (.bty "tuple" "tuple"))) b_l_same_s .nil)
  b_l_same_r)
theorem cb_l_same:jC n_l_same pC N_l_same ps_l_same (top 54)=true:=by kernel_rfl
noncomputable def N_l_text_by:List Str:=["_law_lines_here","_law_script","_law_rows","_law_k","_law_words","_law_n"]
noncomputable def ps_l_text_by:List Str:=["_law_lines_here","_law_script"]
noncomputable def n_l_text_by:Need:=⟨["_law_draw","_law_spaced"],[],["enumerate"],[]⟩
noncomputable def b_l_text_by_r1:PT :=
  (.seq (.expr (.mt .append (.var 2) (.ng (.call "_law_spaced" (.ng (.var 4) (.ng (.bin .FloorDiv (.var 5) (.int 100)) .nh))) .nh)))
  .nil)
noncomputable def gD:PT :=
  (.seq (.set 5 (.call "_law_draw" (.ng (.var 1) (.ng (.bin .Add (.int 500) (.var 3)) .nh))))
  (.seq (.ife (.cmp .Eq (.bin .Mod (.var 5) (.int 6)) (.int 0)) (.seq (.expr (.mt .append (.var 2) (.ng (.bin .Mult (.str " ") (.bin .Mod (.bin .FloorDiv (.var 5) (.int 6)) (.int 4))) .nh)))
  .nil) .nil)
  b_l_text_by_r1))
noncomputable def b_l_text_by:PT :=
  (.seq (.own 2 (.lst .nh))
  (.seq (.for_ (.tp [3,4]) .enum (.ng (.var 0) .nh) gD)
  (.seq (.ret (.mt .join (.str "\n") (.ng (.bin .Add (.var 2) (.bin .Mult (.lst (.ng (.str "") .nh)) (.bin .Mod (.call "_law_draw" (.ng (.var 1) (.ng (.int 890) .nh))) (.int 3)))) .nh)))
  .nil)))
theorem cb_l_text_by:jC n_l_text_by b_l_text_by N_l_text_by ps_l_text_by (top 55)=true:=by kernel_rfl
noncomputable def N_law:List Str:=["_law_script","_law_world_here","_law_text","_law_found","_law_some"]
noncomputable def ps_law:List Str:=["_law_script"]
noncomputable def n_law:Need:=⟨["_law_world","_law_text_by","_law_lines","read_world","_law_same"],[],[],[]⟩
noncomputable def b_law_1:PT :=
  (.seq (.expr (.mt .clear (.var 4) .nh))
  .nil)
noncomputable def b_law:PT :=
  (.seq (.set 1 (.call "_law_world" (.ng (.var 0) .nh)))
  (.seq (.set 2 (.call "_law_text_by" (.ng (.call "_law_lines" (.ng (.var 1) .nh)) (.ng (.var 0) .nh))))
  (.seq (.own 3 (.call "read_world" (.ng (.var 2) .nh)))
  (.seq (.ife (.not (.call "_law_same" (.ng (.var 3) (.ng (.var 1) .nh)))) (.seq (.ret (.bl false))
  .nil) .nil)
  (.seq (.hs (.for_ (.nm 4) .val (.ng (.var 3) .nh) b_law_1))
  (.seq (.ret (.call "_law_same" (.ng (.call "read_world" (.ng (.var 2) .nh)) (.ng (.var 1) .nh))))
  .nil))))))
theorem cb_law:jC n_law b_law N_law ps_law (top 56)=true:=by kernel_rfl
noncomputable def txt:D->Str
 | .str z=>z
 | .int n=>UD n
 |_=>⟨#[]⟩
def PB(w:Str):Prop:=w.cps.toList≠[]/\w.length<=9/\∀c∈w.cps.toList,33<=c/\c<=126
theorem PB.free{w:Str}(h:PB w):32∉w.cps.toList:=fun z=>by have:=h.2.2 32 z;omega
theorem cD:JC.cps.toList=(Qc 26).map (·+97):=by decide +kernel
theorem word_ok{w:Str}(h:gB w=true):PB w:=by unfold gB at h;rw[QU,QU,decide_eq_true_eq,decide_eq_true_eq]at h;obtain⟨h1,h2,h3⟩:=h;refine⟨fun z=>?_,by omega,fun c hc=>?_⟩;have:w.cps.toList.length=w.length:=Qg;rw[z]at this;simp at this;omega;have:=Qn.mp h3 c hc;rw[decide_eq_true_eq,cD]at this;obtain⟨i,hi,rfl⟩:=Q8.mp this;have:=qQ.mp hi;omega
theorem name_word{w:Str}(h:VA w=true):gB w=true:=by unfold VA at h;rw[QU]at h;exact h.1
theorem num_ok{n:Int}(h0:0<=n)(h1:n<=999999999):PB (UD n):=by obtain⟨l1,l2⟩:=numT_len h0 h1;refine⟨fun z=>?_,l2,fun c hc=>?_⟩;have:(UD n).cps.toList.length=(UD n).length:=Qg;rw[z]at this;simp at this;omega;obtain⟨m,rfl⟩:=WO h0;have:=numT_digits m c hc;omega
noncomputable def named:List Str:=["name","person","matter"]
noncomputable def iC:List (Str×D):=[("rank",.tuple [.int 0,.int 99]),("floor",.tuple [.int 0,.int 99]),("needs",.tuple [.int 1,.int 4]),("time",.tuple [.int 0,.int 999999999]),("number",.tuple [.int 0,.int 999999999])]
def Fits(p:Str)(d:D):Prop:=(p="name"/\∃w,d=.str w/\VA w=true)∨(p="word"/\∃w,d=.str w/\gB w=true)∨(p="by"/\d=.str "by") ∨
 ((p∉named/\p≠"word"/\p≠"by")/\∃a b n:Int,iC.lookup p=some (.tuple [.int a,.int b])/\d=.int n/\a<=n/\n<=b/\0<=a/\b<=999999999)
inductive FitsL:List Str->List D->Prop where
 |nil:FitsL [] []
 |cons {p:Str}{d:D}{ps:List Str}{ds:List D}:Fits p d->FitsL ps ds->FitsL (p::ps) (d::ds)
theorem Fits.txts{p:Str}{d:D}(h:Fits p d):PB (txt d)/\((∃z,d=.str z)∨∃n:Int,d=.int n/\0<=n/\n<=999999999):=by
 rcases h with⟨_,w,rfl,hw⟩| ⟨_,w,rfl,hw⟩| ⟨_,rfl⟩| ⟨_,a,b,n,_,rfl,h0,h1,h2,h3⟩
 exact⟨word_ok (name_word hw),.inl ⟨w,rfl⟩⟩;exact⟨word_ok hw,.inl ⟨w,rfl⟩⟩;exact⟨word_ok (by decide +kernel),.inl ⟨_,rfl⟩⟩;exact⟨num_ok (by omega) (by omega),.inr ⟨n,rfl,by omega,by omega⟩⟩
theorem FitsL.len{f:List Str}{vs:List D}(h:FitsL f vs):f.length=vs.length:=by
 induction h with
 |nil=>rfl
 |cons _ _ ih=>rw[QL,QL,ih]
theorem FitsL.all{f:List Str}{vs:List D}(h:FitsL f vs):∀d∈vs,PB (txt d)/\((∃z,d=.str z)∨∃n:Int,d=.int n/\0<=n/\n<=999999999):=by
 induction h with
 |nil=>intro d hd;cases hd
 |cons a _ ih=>intro d hd;rcases QI.mp hd with rfl|hd;exact a.txts;exact ih d hd
noncomputable def zC:PSp where
 md:=[]
 run:=fun ds Q _=>∃(p:Str) (d:D),ds=[.d (.str p),.d (.str (txt d))]/\Fits p d/\Q (.d d) []
 mono:=fun h _ z=>by obtain⟨p,w,e,l,q⟩:=z;exact⟨p,w,e,l,h _ _ q⟩
theorem run_value_of{p:Str}{d:D}{K:T->List T->Prop}{E:XE}(h:Fits p d)(q:K (.d d) []):mC zC [.d (.str p),.d (.str (txt d))] K E:=⟨p,d,rfl,h,q⟩
theorem named_flat:(named.map PyData.str).all DB=true:=by rfl
theorem in_named(p:Str):((named.map PyData.str).any fun y=>Qy y (.str p))=decide (p∈named):=by
 rw[List.any_map];have:∀l:List Str,(l.any ((fun y=>Qy y (.str p))∘PyData.str))=decide (p∈l):=by
  intro l;induction l with
  |nil=>rfl
  |cons x l ih=>rw[qq,ih];show(decide (x=p)||decide (p∈l))=_;by_cases e:x=p;subst e;simp;have e':¬ p=x:=fun z=>e z.symm;simp[e,e']
 exact this named
theorem value_a{Ψ:PEv}(h1:Ψ.sp "is_name"=kC){Z:PEnds}(s0:Option Sl)(w:Str)(hw:VA w=true)(hl:w.length<=sizeLine)(q:∀ρ,Z.rt (.d (.str w)) ρ):nA Ψ (fun _=>False) b_value_of_a Z [s0,some (.nj (.d (.str w)))]:=by delta b_value_of_a;simp?[↓oA (md:=[]) h1 rfl rfl,↓run_is_name hl];rw[hw];exact q _
theorem value_b{Ψ:PEv}(h1:Ψ.sp "is_word"=HB){Z:PEnds}(s0:Option Sl)(w:Str)(hw:gB w=true)(hl:w.length<=sizeLine)(q:∀ρ,Z.rt (.d (.str w)) ρ):nA Ψ (fun _=>False) b_value_of_b Z [s0,some (.nj (.d (.str w)))]:=by delta b_value_of_b;simp?[↓oA (md:=[]) h1 rfl rfl,↓run_is_word hl];rw[hw];exact q _
theorem value_c{Ψ:PEv}{Z:PEnds}(s0:Option Sl)(q:∀ρ,Z.rt (.d (.str "by")) ρ):nA Ψ (fun _=>False) b_value_of_c Z [s0,some (.nj (.d (.str (QD "by"))))]:=by delta b_value_of_c;simp?[↓lA];exact q _
theorem value_z{Ψ:PEv}(h3:Ψ.sp "number_within"=BA)(v1:Ψ.dc "RANGES"=some iC){Z:PEnds}(p:Str){a b n:Int}(e3:iC.lookup p=some (.tuple [.int a,.int b]))(h0:a<=n)(h9:n<=b)(ha:0<=a)(hb:b<=999999999)(hl:(UD n).length<=sizeLine)(q:∀ρ,Z.rt (.d (.int n)) ρ):nA Ψ (fun _=>False) b_value_of_z Z [some (.nj (.d (.str p))),some (.nj (.d (.str (UD n))))]:=by
 have hw:numWithin a b (UD n)=.int n:=by unfold numWithin;rw[numIn_text (by omega) (by omega)];simp only[dT h0,dT h9,Bool.and_self,if_true]
 delta b_value_of_z;simp?[↓oA (md:=[]) h3 rfl rfl,↓p_ix v1 e3,↓run_number_within hl];rw[hw];exact q _
theorem ok_value_of{Ψ:PEv}(h1:Ψ.sp "is_name"=kC)(h2:Ψ.sp "is_word"=HB)(h3:Ψ.sp "number_within"=BA)(v0:Ψ.va "NAMED"=some (.tuple (named.map PyData.str)))(v1:Ψ.dc "RANGES"=some iC)(ds Q E)(h:zC.run ds Q E):ds.length=ps_value_of.length/\nA Ψ (fun _=>False) b_value_of (DA zC ps_value_of.length Q) (uA N_value_of zC.md ds):=by
 obtain⟨p,d,rfl,hf,q⟩:=h;refine kA [some (.nj (.d (.str p))),some (.nj (.d (.str (txt d))))] rfl rfl rfl ?_;have hz:sizeLine=16777216:=QZ;have hl:(txt d).length<=sizeLine:=by have:=hf.txts.1.2.1;omega
 have go:nA Ψ (fun _=>False) (if decide (p∈named)=true then b_value_of_a else if decide (p=QD "word")=true then b_value_of_b else if decide (p=QD "by")=true then b_value_of_c else b_value_of_z) (eZ Q) [some (.nj (.d (.str p))),some (.nj (.d (.str (txt d))))]:=by
  rcases hf with⟨rfl,w,rfl,hw⟩| ⟨rfl,w,rfl,hw⟩| ⟨rfl,rfl⟩| ⟨⟨c1,c2,c3⟩,a,b,n,e3,rfl,h0,h9,ha,hb⟩
  exact value_a h1 _ w hw hl fun _=>q;exact value_b h2 _ w hw hl fun _=>q;exact value_c _ fun _=>q;rw[dF c1,dF c2,dF c3];exact value_z h3 v1 p e3 h0 h9 ha hb hl fun _=>q
 delta b_value_of;simp?[↓E_glo v0,named_flat,in_named];refine⟨.inl rfl,ite2 (fun c=>?_) fun c=>ite2 (fun c2=>?_) fun c2=>ite2 (fun c3=>?_) fun c3=>?_⟩;rw[if_pos c]at go;exact go;rw[if_neg c,if_pos c2]at go;exact go;rw[if_neg c,if_neg c2,if_pos c3]at go;exact go;rw[if_neg c,if_neg c2,if_neg c3]at go;exact go
noncomputable def oB:PSp where
 md:=[]
 run:=fun ds Q _=>∃(h:Str) (f:List Str) (vs:List D),ds=[.d (.tuple (f.map PyData.str)),.d (.list ((PyData.str h::vs.map fun d=>PyData.str (txt d))))]/\PB h/\vs.length<=12/\FitsL f vs/\Q (.lst (wK T.d (PyData.str h::vs))) []
 mono:=fun h _ z=>by obtain⟨a,b,c,e,h1,h2,h3,q⟩:=z;exact⟨a,b,c,e,h1,h2,h3,h _ _ q⟩
theorem run_values_by{h:Str}{f:List Str}{vs:List D}{K:T->List T->Prop}{E:XE}(hh:PB h)(hv:vs.length<=12)(fl:FitsL f vs)(q:K (.lst (wK T.d (PyData.str h::vs))) []):mC oB [.d (.tuple (f.map PyData.str)),.d (.list ((PyData.str h::vs.map fun d=>PyData.str (txt d))))] K E:=⟨h,f,vs,rfl,hh,hv,fl,q⟩
theorem FitsL.comp{f:List Str}{vs:List D}(h:FitsL f vs):∀p∈f.zip vs,Fits p.1 p.2:=by
 induction h with
 |nil=>intro p hp;cases hp
 |cons a _ ih=>intro p hp;rcases QI.mp hp with rfl|hp;exact a;exact ih p hp
theorem FitsL.flat{f:List Str}{vs:List D}(h:FitsL f vs):vs.all DB=true/\(vs.any fun y=>Qy y .none)=false:=by
 induction h with
 |nil=>exact⟨rfl,rfl⟩
 |cons a _ ih=>rw[Q5,qq,ih.1,ih.2];rcases a.txts.2 with⟨z,rfl⟩| ⟨n,rfl,_⟩<;>exact⟨rfl,rfl⟩
theorem ok_values_by{Ψ:PEv}(h1:Ψ.sp "value_of"=zC)(ds Q E)(h:oB.run ds Q E):ds.length=ps_values_by.length/\nA Ψ (fun _=>False) b_values_by (DA oB ps_values_by.length Q) (uA N_values_by oB.md ds):=by
 obtain⟨h,f,vs,rfl,hh,hv,fl,q⟩:=h;refine kA [some (.nj (.d (.tuple (f.map PyData.str)))),some (.nj (.d (.list ((PyData.str h::vs.map fun d=>PyData.str (txt d)))))),none] rfl rfl rfl ?_;have hz:sizeLine=16777216:=QZ;have l1:=fl.len;have a0:uC (PyData.str h::vs.map fun d=>PyData.str (txt d)) 0=some (.str h):=ZB (j:=0) rfl;have ln:(PyData.str h::vs.map fun d=>PyData.str (txt d)).length=vs.length+1:=by simp
 have lf:(wK PyData.str f).length=vs.length:=by simp[l1]
 have ct:cutD (PyData.str h::vs.map fun d=>PyData.str (txt d)) (some 1) none=vs.map fun d=>PyData.str (txt d):=by unfold cutD;simp[HT.sIx];exact qf (by simp)
 have c:(!decide (((vs.length+1:Nat):Int)=1+(vs.length:Int)))=false:=by rw[dT (by omega)];rfl
 have ez:wK (fun p=>T.d (PyData.tuple [p.fst,p.snd])) ((wK PyData.str f).zip (vs.map fun d=>PyData.str (txt d)))=(f.zip vs).map fun p:Str×D=>T.d (PyData.tuple [.str p.1,.str (txt p.2)]):=by rw[List.zip_map,wW];rfl
 delta b_values_by;simp?[↓optP_e a0,↓s_lc ct,ln,lf,c,ez];refine⟨by omega,kD (fun p:Str×D=>T.d (PyData.tuple [.str p.1,.str (txt p.2)])) (fun p=>T.d p.2) _ _ _ (fun p hp R hR=>?_) ?_ ?_⟩;simp?[↓oA (md:=[]) h1 rfl rfl];refine run_value_of (fl.comp p hp) ?_;simp?[↓lA];exact hR;simp;omega;have eg:wK (fun p:Str×D=>p.2) (f.zip vs)=vs:=by exact List.map_snd_zip (by omega)
 rw[Q3,map_d (fun p:Str×D=>p.2),eg];simp?[↓lA];obtain⟨f1,f2⟩:=fl.flat;refine⟨by omega,.inl ?_,?_⟩;rw[Q5,f1];exact⟨rfl,rfl⟩;rw[qq,f2];exact q
def Unl(h:Str)(vs:List D):Prop:=sC.lookup h=none∨∃i j a b,sC.lookup h=some (.tuple [.int i,.int j])/\uC (.str h::vs) i=some (.str a)/\uC (.str h::vs) j=some (.str b)/\a≠b
structure Good(h:Str)(vs:List D):Prop where
 hd:PB h
 fm:∃f,formS h (vs.length+1)=some f/\FitsL f vs
 un:Unl h vs
noncomputable def BC:PSp where
 md:=[]
 run:=fun ds Q _=>∃(r:Str) (pl:Int),ds=[.d (.str r),.d (.int pl)]/\r.length<=900/\((Lib.wordsOf r=[]/\Q (.d .none) [])∨∃h vs,Lib.wordsOf r=h::vs.map txt/\Good h vs/\vs.length<=12/\Q (.lst (wK T.d (PyData.str h::vs))) [])
 mono:=fun k _ ⟨p,w,e,l,q⟩=>⟨p,w,e,l,q.imp (fun q=>⟨q.1,k _ _ q.2⟩) fun⟨a,b,h1,h2,h3,q⟩=>⟨a,b,h1,h2,h3,k _ _ q⟩⟩
theorem run_row_none{r:Str}{pl:Int}{K:T->List T->Prop}{E:XE}(hr:Lib.wordsOf r=[])(hl:r.length<=900)(q:K (.d .none) []):mC BC [.d (.str r),.d (.int pl)] K E:=⟨r,pl,rfl,hl,.inl ⟨hr,q⟩⟩
theorem run_row_list{r h:Str}{vs:List D}{pl:Int}{K:T->List T->Prop}{E:XE}(hr:Lib.wordsOf r=h::vs.map txt)(g:Good h vs)(hv:vs.length<=12)(hl:r.length<=900)(q:K (.lst (wK T.d (PyData.str h::vs))) []):mC BC [.d (.str r),.d (.int pl)] K E:=⟨r,pl,rfl,hl,.inr ⟨h,vs,hr,g,hv,q⟩⟩
theorem row_of_c{Ψ:PEv}(h4:Ψ.sp "are_unlike"=LA){h:Str}{vs:List D}(un:Unl h vs){Z:PEnds}{s0 s1 s2:Option Sl}(q:∀ρ,Z.rt (.lst (wK T.d (PyData.str h::vs))) ρ):nA Ψ (fun _=>False) b_row_of_c Z [s0,s1,s2,some (.own (.lst (wK T.d (PyData.str h::vs))))]:=by
 delta b_row_of_c;simp?[↓oA (md:=[.nj]) h4 rfl rfl];refine run_are_unlike ?_;rcases un with un|⟨i,j,a,b,u1,u2,u3,u4⟩
 refine .inl ⟨un,?_⟩;delta b_row_of_d;simp?[↓lA];exact q _;refine .inr ⟨i,j,a,b,u1,u2,u3,?_⟩;delta b_row_of_d;simp?[dF u4];exact q _
theorem row_of_b{Ψ:PEv}(h2:Ψ.sp "values_by"=oB)(h3:Ψ.sp "form_for"=XB)(h4:Ψ.sp "are_unlike"=LA){h:Str}{vs:List D}(g:Good h vs)(few:vs.length<=12){Z:PEnds}{s0 s1 s3:Option Sl}(q:∀ρ,Z.rt (.lst (wK T.d (PyData.str h::vs))) ρ):nA Ψ (fun _=>False) b_row_of_b Z [s0,s1,some (.nj (.d (.list ((h::vs.map txt).map PyData.str)))),s3]:=by
 obtain⟨hd,⟨f,hf,fl⟩,un⟩:=g;have el:(vs.map txt).length=vs.length:=QG ..;have em:(h::vs.map txt).map PyData.str=PyData.str h::vs.map fun d=>PyData.str (txt d):=by rw[QS,wW];rfl
 delta b_row_of_b;simp?[↓oA (md:=[]) h2 rfl rfl,↓oA (md:=[]) h3 rfl rfl];refine run_form_for (by omega) ?_;simp?[el,hf,optT,em];refine run_values_by hd few fl ?_;simp?[↓lA];exact row_of_c h4 un q
theorem ok_row_of{Ψ:PEv}(h1:Ψ.sp "words_in"=yC)(h2:Ψ.sp "values_by"=oB)(h3:Ψ.sp "form_for"=XB)(h4:Ψ.sp "are_unlike"=LA)(ds Q E)(h:BC.run ds Q E):ds.length=ps_row_of.length/\nA Ψ (fun _=>False) b_row_of (DA BC ps_row_of.length Q) (uA N_row_of BC.md ds):=by
 obtain⟨r,pl,rfl,hl,q⟩:=h;refine kA [some (.nj (.d (.str r))),some (.nj (.d (.int pl))),none,none] rfl rfl rfl ?_;delta b_row_of;simp?[↓oA (md:=[]) h1 rfl rfl,↓run_words_in (show r.length<=100000 by omega)];rcases q with⟨e,q⟩| ⟨h,vs,e,g,few,q⟩
 rw[e];exact q;rw[e];refine ite2 (fun c=>?_) fun _=>row_of_b h2 h3 h4 g few fun _=>q;simp at c;omega
theorem AB{x:Str}(h:VA x=true):Fits "name" (.str x):=.inl ⟨rfl,x,rfl,h⟩
theorem fits_word{x:Str}(h:gB x=true):Fits "word" (.str x):=.inr (.inl ⟨rfl,x,rfl,h⟩)
theorem fits_by:Fits "by" (.str "by"):=.inr (.inr (.inl ⟨rfl,rfl⟩))
theorem fits_num{p:Str}{a b n:Int}(h1:p∉named/\p≠"word"/\p≠"by")(h4:iC.lookup p=some (.tuple [.int a,.int b]))(ha:a<=n)(hb:n<=b)(h0:0<=a)(hm:b<=999999999):Fits p (.int n):=.inr (.inr (.inr ⟨h1,a,b,n,h4,rfl,ha,hb,h0,hm⟩))
theorem fits_rank{n:Int}(h1:0<=n)(h2:n<=99):Fits "rank" (.int n):=fits_num (by decide +kernel) (show iC.lookup (QD "rank")=some (.tuple [.int 0,.int 99]) by kernel_rfl) h1 h2 (by decide) (by decide)
theorem fits_floor{n:Int}(h1:0<=n)(h2:n<=99):Fits "floor" (.int n):=fits_num (by decide +kernel) (show iC.lookup (QD "floor")=some (.tuple [.int 0,.int 99]) by kernel_rfl) h1 h2 (by decide) (by decide)
theorem fits_needs{n:Int}(h1:1<=n)(h2:n<=4):Fits "needs" (.int n):=fits_num (by decide +kernel) (show iC.lookup (QD "needs")=some (.tuple [.int 1,.int 4]) by kernel_rfl) h1 h2 (by decide) (by decide)
theorem fits_time{n:Int}(h1:0<=n)(h2:n<=999999999):Fits "time" (.int n):=fits_num (by decide +kernel) (show iC.lookup (QD "time")=some (.tuple [.int 0,.int 999999999]) by kernel_rfl) h1 h2 (by decide) (by decide)
section
variable{α:Type}(a b c d e f g:α)(l:List α)
theorem at0:uC (a::l) 0=some a:=ZB (j:=0) rfl
theorem at1:uC (a::b::l) 1=some b:=ZB (j:=1) rfl
theorem at2:uC (a::b::c::l) 2=some c:=ZB (j:=2) rfl
theorem at3:uC (a::b::c::d::l) 3=some d:=ZB (j:=3) rfl
theorem at4:uC (a::b::c::d::e::l) 4=some e:=ZB (j:=4) rfl
theorem at6:uC (a::b::c::d::e::f::g::l) 6=some g:=ZB (j:=6) rfl
theorem cut_lo(xs:List α){k:Int}(h:0<=k):cutD xs (some k) none=xs.drop k.toNat:=by unfold cutD HT.sIx;simp only;rw[if_neg (by omega)];rcases Nat.le_total k.toNat xs.length with q|q;rw[QCJ (by omega),qf (by simp)];rw[QB8 (by omega),Wb,QAb q];simp
theorem cut_hi(xs:List α){k:Int}(h:0<=k):cutD xs none (some k)=xs.take k.toNat:=by unfold cutD HT.sIx;simp only;rw[if_neg (by omega)];rcases Nat.le_total k.toNat xs.length with q|q;rw[QCJ (by omega)];simp;rw[QB8 (by omega),qf (by simp),qf q];simp
end
theorem iD{α:Type}{body:T->(Option T->Prop)->Prop}(h:α->D)(f:α->T)(l:List α)(Q:List T->Prop)(hb:∀x∈l,∀R:Option T->Prop,R (some (f x))->body (.d (h x)) R)(hl:l.length<=sizeLine)(q:Q (l.map f)):JD body ((l.map h).map T.d) [] Q:=by
 have e:(l.map h).map T.d=l.map fun x=>T.d (h x):=by simp
 rw[e];exact kD (fun x=>T.d (h x)) f l [] Q hb (by simpa using hl) q
theorem map_dd{α:Type}(h:α->D)(l:List α):l.map (fun x=>T.d (h x))=(l.map h).map T.d:=by simp
inductive Ev where
 |see (t:Int) (p m w:Str)
 |tell (t:Int) (p q m w:Str) (b:List Str)
noncomputable abbrev P4:=Str×Int×Int×Int
set_option genInjectivity true in
inductive Rw where
 |per (p:P4)|mat (m:Str)|aga (a b:Str)|ev (e:Ev)
noncomputable def pD(p:P4):D:=.tuple [.str p.1,.int p.2.1,.int p.2.2.1,.int p.2.2.2]
noncomputable def aD(p:Str×Str):D:=.tuple [.str p.1,.str p.2]
noncomputable def eD:Ev->D
 | .see t p m w=>.tuple [.str "see",.int t,.str p,.str m,.str w]
 | .tell t p q m w b=>.tuple [.str "tell",.int t,.str p,.str q,.str m,.str w,.tuple (b.map PyData.str)]
noncomputable def Rw.hd:Rw->Str
 | .per _=>"person"
 | .mat _=>"matter"
 | .aga _ _=>"against"
 | .ev (.see _ _ _ _)=>"see"
 | .ev (.tell _ _ _ _ _ _)=>"tell"
noncomputable def byD:List Str->List D
 |[]=>[]
 |b=>.str "by"::b.map PyData.str
noncomputable def Rw.vs:Rw->List D
 | .per p=>[.str p.1,.int p.2.1,.int p.2.2.1,.int p.2.2.2]
 | .mat m=>[.str m]
 | .aga a b=>[.str a,.str b]
 | .ev (.see t p m w)=>[.int t,.str p,.str m,.str w]
 | .ev (.tell t p q m w b)=>[.int t,.str p,.str q,.str m,.str w]++byD b
noncomputable def Rw.ent:Rw->D
 | .per p=>pD p
 | .mat m=>.str m
 | .aga a b=>aD (a,b)
 | .ev e=>eD e
noncomputable def JB(l:List Rw):List P4:=l.filterMap fun | .per p=>some p|_=>none
noncomputable def bB(l:List Rw):List Str:=l.filterMap fun | .mat p=>some p|_=>none
noncomputable def cB(l:List Rw):LSS:=l.filterMap fun | .aga a b=>some (a,b)|_=>none
noncomputable def evs(l:List Rw):List Ev:=l.filterMap fun | .ev p=>some p|_=>none
noncomputable def nams(l:List Rw):List Str:=(JB l).map wj
noncomputable def W4(l:List Rw):D:=.tuple [.list ((JB l).map pD),.list ((bB l).map PyData.str),.list ((cB l).map aD),.list ((evs l).map eD)]
noncomputable def T4(l:List Rw):T:=.tup [.lst (((JB l).map pD).map T.d),.lst (((bB l).map PyData.str).map T.d),.lst (((cB l).map aD).map T.d),.lst (((evs l).map eD).map T.d)]
theorem T4_er(l:List Rw):(T4 l).er=W4 l:=by simp only[T4,W4,T.er,ersT,oC]
structure RowOk(l:List Rw)(r:Rw):Prop where
 good:Good r.hd r.vs
 few:r.vs.length<=12
 sec:match r with
  | .per p=>bB l=[]/\cB l=[]/\evs l=[]/\p.1∉nams l/\(JB l).length<10
  | .mat m=>cB l=[]/\evs l=[]/\m∉bB l/\(bB l).length<6
  | .aga a b=>evs l=[]/\(a,b)∉cB l/\(b,a)∉cB l/\a∈bB l/\b∈bB l/\(cB l).length<15
  | .ev (.see _ p m _)=>p∈nams l/\m∈bB l/\(evs l).length<80
  | .ev (.tell _ p q m _ b)=>p∈nams l/\q∈nams l/\m∈bB l/\(∀x∈b,x∈nams l)/\(evs l).length<80
def Told(l:List Rw):Prop:=∀a r b,l=a++r::b->RowOk a r
theorem any_str(l:List Str)(x:Str):((l.map PyData.str).any fun y=>Qy y (.str x))=decide (x∈l):=by
 induction l with
 |nil=>rfl
 |cons y l ih =>
  rw[QS,qq,ih];have:Qy (.str y) (.str x)=decide (y=x):=by unfold Qy;exact wA.mpr (by simp)
  rw[this];by_cases h:y=x;simp[h];have h2:¬ x=y:=fun e=>h e.symm;simp[h,h2]
theorem str_beq(x y:Str):(x==y)=decide (x=y):=wA.mpr (by simp)
theorem any_pair(l:LSS)(a b:Str):((l.map aD).any fun y=>Qy y (.tuple [.str a,.str b]))=decide ((a,b)∈l):=by
 induction l with
 |nil=>rfl
 |cons y l ih =>
  rw[QS,qq,ih];have:Qy (aD y) (.tuple [.str a,.str b])=decide (y=(a,b)):=by obtain⟨y1,y2⟩:=y;simp only[aD,Qy,PyData.eqvAll,QAH,str_beq];by_cases h1:y1=a<;>by_cases h2:y2=b<;>simp[h1,h2]
  rw[this];by_cases h:y=(a,b);simp[h];have h2:¬ (a,b)=y:=fun e=>h e.symm;simp[h,h2]
theorem flat_strs(l:List Str):(l.map PyData.str).all DB=true:=by rw[QAl];exact Qn.mpr fun _ _=>rfl
theorem ok_txt{x:Str}(h:PB x):PyData.strOk x=true:=by unfold PyData.strOk;rw[<- Array.all_toList];exact Qn.mpr fun c hc=>by have:=h.2.2 c hc;simp;omega
theorem ok_pair{a b:Str}(ha:PB a)(hb:PB b):okD (.tuple [.str a,.str b]):=by refine⟨?_,by show WX _<=64;simp only[WX,wm];decide⟩;simp only[QAy,WS,ok_txt ha,ok_txt hb,QAH]
theorem ok_pairs{l:LSS}(h:∀p∈l,PB p.1/\PB p.2):okD (.list (l.map aD)):=by
 have:WS (l.map aD)=true/\wm (l.map aD)<=1:=by
  induction l with
  |nil=>exact⟨rfl,by simp[wm]⟩
  |cons p l ih =>
   obtain⟨i1,i2⟩:=ih fun q hq=>h q (QJ _ hq);obtain⟨h1,h2⟩:=h p QM;obtain⟨o1,o2⟩:=ok_pair h1 h2;rw[QS];refine⟨?_,?_⟩;simp only[WS,i1,QAH];exact o1;have e:WX (aD p)=1:=by simp only[aD,WX,wm];decide
   simp only[wm,e];omega
 refine⟨?_,?_⟩;simp only[QAy];exact this.1;simp only[WX];omega
noncomputable def mB:List (Str×D):=[("person",.int 0),("matter",.int 1),("against",.int 2),("see",.int 3),("tell",.int 3)]
noncomputable def mostD:D:=.tuple [.int 10,.int 6,.int 15,.int 80]
noncomputable def CA:List (Str×D):=[("see",.tuple [.int 2]),("tell",.tuple [.int 2,.int 3])]
noncomputable def iA:List (Str×D):=[("against",.tuple [.int 1,.int 2]),("see",.tuple [.int 3]),("tell",.tuple [.int 4])]
theorem tjoin(s:Str)(l:List Str):WL s l=Wy s l:=StrLaws.glued_eq_join s l
theorem len_join(s:Str)(l:List Str):(WL s l).length=(l.map (·.length)).sum+(l.length - 1) * s.length:=size_glued s l
noncomputable def joinG(c:Nat):List (List Nat)->List Nat
 |[]=>[]
 |[x]=>x
 |x::y::r=>x++c::joinG c (y::r)
theorem joinG_codes(c:Nat):∀(ps:List Str),(Wy ⟨#[c]⟩ ps).cps.toList=joinG c (ps.map fun p=>p.cps.toList)
 |[]=>rfl
 |[x]=>rfl
 |x::y::r=>by show((x.cps++#[c])++(Wy ⟨#[c]⟩ (y::r)).cps).toList=_;have ih:=joinG_codes c (y::r);rw[QS]at ih;rw[QS,QS,joinG,<- ih];simp
noncomputable def spl(c:Nat):List Nat->List Nat->List (List Nat)
 |[],cur=>[cur]
 |x::xs,cur=>if x=c then cur::spl c xs [] else spl c xs (cur++[x])
theorem spl_free(c:Nat):∀(w r cur:List Nat),c∉w->spl c (w++r) cur=spl c r (cur++w)
 |[],r,cur,_=>by simp
 |x::w,r,cur,h=>by have hx:¬ x=c:=fun e=>h (by simp[e]);rw[wD,spl,if_neg hx,spl_free c w r _ fun z=>h (QJ _ z)];simp
theorem spl_join(c:Nat):∀(ps:List (List Nat)),ps≠[]->(∀p∈ps,c∉p)->spl c (joinG c ps) []=ps
 |[],h,_=>absurd rfl h
 |[x],_,h=>by have:=spl_free c x [] [] (h x (by simp));rw[Qi]at this;rw[joinG,this];rfl
 |x::y::r,_,h=>by rw[joinG,spl_free c _ _ _ (h x (by simp)),spl,if_pos rfl,spl_join c (y::r) (by simp) fun p hp=>h p (QJ _ hp)];rfl
theorem split_join{c:Nat}{ps:List Str}(h0:ps≠[])(h:∀p∈ps,c∉p.cps.toList):qJ (WL ⟨#[c]⟩ ps) ⟨#[c]⟩=ps:=by
 have h1:=joinG_codes c (qJ (WL ⟨#[c]⟩ ps) ⟨#[c]⟩);rw[QBS]at h1;have h2:=joinG_codes c ps;rw[<- tjoin]at h2;have n0:qJ (WL ⟨#[c]⟩ ps) ⟨#[c]⟩≠[]:=fun z=>by have:=split_pos (WL ⟨#[c]⟩ ps) ⟨#[c]⟩;rw[z]at this;simp at this
 have e1:=spl_join c ((qJ (WL ⟨#[c]⟩ ps) ⟨#[c]⟩).map fun p=>p.cps.toList) (by simpa using n0) fun p hp=>by obtain⟨q,hq,rfl⟩:=Q8.mp hp;exact QBT _ c q hq
 have e2:=spl_join c (ps.map fun p=>p.cps.toList) (by simpa using h0) fun p hp=>by obtain⟨q,hq,rfl⟩:=Q8.mp hp;exact h q hq
 exact codes_inj (by rw[<- e1,<- e2,<- h1,<- h2])
noncomputable def rB:PSp where
 md:=[]
 run:=fun ds Q _=>∃l,ds=[.d (W4 l)]/\(JB l).length<=400/\Q (.lst (((nams l).map PyData.str).map T.d)) []
 mono:=fun h _ z=>by obtain⟨l,e,c,q⟩:=z;exact⟨l,e,c,h _ _ q⟩
theorem run_names{l:List Rw}{K:T->List T->Prop}{E:XE}(h:(JB l).length<=400)(q:K (.lst (((nams l).map PyData.str).map T.d)) []):mC rB [.d (W4 l)] K E:=⟨l,rfl,h,q⟩
theorem ok_names_of{Ψ:PEv}(ds Q E)(h:rB.run ds Q E):ds.length=ps_names_of.length/\nA Ψ (fun _=>False) b_names_of (DA rB ps_names_of.length Q) (uA N_names_of rB.md ds):=by
 obtain⟨l,rfl,hl,q⟩:=h;have hz:sizeLine=16777216:=QZ;refine kA [some (.nj (.d (W4 l)))] rfl rfl rfl ?_;delta W4;delta b_names_of;simp?[↓at0];refine iD pD (fun p:P4=>T.d (.str p.1)) (JB l) _ (fun p _ R hR=>?_) (by omega) ?_;delta pD;simp?[↓at0];exact hR;have e:((nams l).map PyData.str).map T.d=(JB l).map fun p=>T.d (.str p.1):=by simp[nams]
 rw[e]at q;exact q
noncomputable def pB:PSp where
 md:=[]
 run:=fun ds Q _=>∃ds':List D,ds=[.d (.list ds')]/\Q (.lst ((ds'.drop 7).map T.d)) []
 mono:=fun h _ z=>by obtain⟨l,e,q⟩:=z;exact⟨l,e,h _ _ q⟩
theorem run_quote{ds:List D}{K:T->List T->Prop}{E:XE}(q:K (.lst ((ds.drop 7).map T.d)) []):mC pB [.d (.list ds)] K E:=⟨ds,rfl,q⟩
theorem E_slc_b{Ψ:PEv}{E:XE}{ρ:yA}{K:TK}{a b c:PX}{op:Operator}:tB Ψ (.slc a (.bin op b c) .nop) E ρ K=tB Ψ a E ρ fun x n ρ1=>sq (α:=Option Int) (vA x n) ρ1 (fun ρ R=>tB Ψ (.bin op b c) E ρ fun l _ ρ2=>partD l.er fun o=>R o ρ2) fun l ρ2=>slcV x n l none fun z k=>K z k ρ2:=by
 show(pe Ψ a E).e ρ (fun x n ρ1=>sq (α:=Option Int) (vA x n) ρ1 (fun ρ R=>(pe Ψ (.bin op b c) E).e ρ fun l _ ρ2=>partD l.er fun o=>R o ρ2) fun l ρ2=>sq (α:=Option Int) (vA x n) ρ2 (fun ρ (R:Option Int->yA->Prop)=>R none ρ) fun u ρ3=>slcT (vA x n).vw l u fun z k=>K z k ρ3)=_;have:∀(x:T) (n:Bool) (ρ2:yA) (l:Option Int),(sq (α:=Option Int) (vA x n) ρ2 (fun ρ (R:Option Int->yA->Prop)=>R none ρ) fun u ρ3=>slcT (vA x n).vw l u fun z k=>K z k ρ3)=slcT (vA x n).vw l none fun z k=>K z k ρ2:=by intro x n ρ2 l;unfold sq;split<;>rfl
 simp only[this];rfl
theorem E_slc_g{Ψ:PEv}{E:XE}{ρ:yA}{K:TK}{a:PX}{x:Str}{i:Int}(h:Ψ.va x=some (.int i)):tB Ψ (.slc a .nop (.glo x)) E ρ K=tB Ψ a E ρ fun y n ρ1=>slcV y n none (some i) fun z k=>K z k ρ1:=by
 show(pe Ψ a E).e ρ (fun y n ρ1=>sq (α:=Option Int) (vA y n) ρ1 (fun ρ (R:Option Int->yA->Prop)=>R none ρ) fun l ρ2=>sq (α:=Option Int) (vA y n) ρ2 (fun ρ R=>(match Ψ.va x with|some d=>partD (T.d d).er fun o=>R o ρ|none=>False)) fun u ρ3=>slcT (vA y n).vw l u fun z k=>K z k ρ3)=_;rw[h];have:∀(y:T) (n:Bool) (ρ1:yA),(sq (α:=Option Int) (vA y n) ρ1 (fun ρ (R:Option Int->yA->Prop)=>R none ρ) fun l ρ2=>sq (α:=Option Int) (vA y n) ρ2 (fun ρ R=>partD (T.d (PyData.int i)).er fun o=>R o ρ) fun u ρ3=>slcT (vA y n).vw l u fun z k=>K z k ρ3)=slcT (vA y n).vw none (some i) fun z k=>K z k ρ1:=by intro y n ρ1;unfold sq;split<;>rfl
 simp only[this];rfl
theorem sq_D{α:Type}{x:D}{n:Bool}{ρ:yA}{b:yA->(α->yA->Prop)->Prop}{K:α->yA->Prop}:sq (vA (.d x) n) ρ b K=b ρ K:=by rw[zA];rfl
theorem pt_i'{i:Int}{P:Option Int->Prop}:partD (T.d (.int i)).er P=P (some i):=rfl
theorem ok_quote_in{Ψ:PEv}(v1:Ψ.va "WORDING_ENDS"=some (.int 6))(ds Q E)(h:pB.run ds Q E):ds.length=ps_quote_in.length/\nA Ψ (fun _=>False) b_quote_in (DA pB ps_quote_in.length Q) (uA N_quote_in pB.md ds):=by obtain⟨ds',rfl,q⟩:=h;refine kA [some (.nj (.d (.list ds')))] rfl rfl rfl ?_;delta b_quote_in;simp?[↓E_slc_b,↓sq_D,↓E_glo v1,↓pt_i'];rw[cut_lo _ (by decide)];exact q
theorem byD_drop(b:List Str):(byD b).drop 1=b.map PyData.str:=by
 cases b with
 |nil=>rfl
 |cons x b=>rfl
noncomputable def sD(r:Rw):D:=.list (.str r.hd::r.vs)
noncomputable def UB:PSp where
 md:=[]
 run:=fun ds Q _=>∃r:Rw,ds=[.d (sD r)]/\r.vs.length<=12/\Q (.d r.ent) []
 mono:=fun h _ z=>by obtain⟨l,e,c,q⟩:=z;exact⟨l,e,c,h _ _ q⟩
theorem run_entry{r:Rw}{K:T->List T->Prop}{E:XE}(h:r.vs.length<=12)(q:K (.d r.ent) []):mC UB [.d (sD r)] K E:=⟨r,rfl,h,q⟩
theorem hd_ne:decide (QD "matter"=QD "person")=false/\decide (QD "against"=QD "person")=false/\decide (QD "see"=QD "person")=false/\decide (QD "tell"=QD "person")=false /\
  decide (QD "against"=QD "matter")=false/\decide (QD "see"=QD "matter")=false/\decide (QD "tell"=QD "matter")=false/\decide (QD "see"=QD "against")=false/\decide (QD "tell"=QD "against")=false:=by decide +kernel
theorem hd_n2:decide (QD "person"=QD "matter")=false/\decide (QD "person"=QD "see")=false/\decide (QD "person"=QD "tell")=false/\decide (QD "against"=QD "see")=false/\decide (QD "against"=QD "tell")=false/\decide (QD "tell"=QD "see")=false:=by decide +kernel
theorem ok_entry_of{Ψ:PEv}(h1:Ψ.sp "quote_in"=pB)(v1:Ψ.va "WORDING_ENDS"=some (.int 6))(ds Q E)(h:UB.run ds Q E):ds.length=ps_entry_of.length/\nA Ψ (fun _=>False) VC (DA UB ps_entry_of.length Q) (uA N_entry_of UB.md ds):=by
 obtain⟨r,rfl,hl,q⟩:=h;have hz:sizeLine=16777216:=QZ;refine kA [some (.nj (.d (sD r)))] rfl rfl rfl ?_;obtain⟨m1,m2,m3,m4,m5,m6,m7,m8,m9⟩:=hd_ne;obtain⟨n1,n2,n3,n4,n5,n6⟩:=hd_n2;cases r with
 |per p=>delta sD Rw.hd Rw.vs;delta VC;simp?[↓at0,n1,n2,n3,cut_lo _ (show(0:Int)<=1 by decide)];exact q
 |mat m=>delta sD Rw.hd Rw.vs;delta VC;simp?[↓at0,↓at1];exact q
 |aga a b=>delta sD Rw.hd Rw.vs;delta VC;simp?[↓at0,m5,n4,n5,cut_lo _ (show(0:Int)<=1 by decide)];exact q
 |ev e =>
  cases e with
  |see t p m w=>delta sD Rw.hd Rw.vs;delta VC;simp?[↓at0,m6];exact q
  |tell t p q' m w b=>delta sD Rw.hd Rw.vs;delta VC;simp?[↓at0,m7,n6,↓E_slc_g v1,cut_hi _ (show(0:Int)<=6 by decide),↓oA (md:=[]) h1 rfl rfl];refine run_quote ?_;have e:List.drop 7 (PyData.str "tell"::.int t::.str p::.str q'::.str m::.str w::byD b)=b.map PyData.str:=byD_drop b;have e2:List.take (WN 6) (PyData.str "tell"::.int t::.str p::.str q'::.str m::.str w::byD b)=[PyData.str "tell",.int t,.str p,.str q',.str m,.str w]:=rfl;rw[e];simp?[↓lA];rw[e2];exact⟨by omega,by show 6+1<=_;omega,q⟩
structure Sml(l:List Rw):Prop where
 p:(JB l).length<=400
 ok:∀p∈cB l,PB p.1/\PB p.2
noncomputable def ZC:PSp where
 md:=[]
 run:=fun ds Q _=>∃l r,ds=[.d (W4 l),.d (sD r)]/\Sml l/\RowOk l r/\Q (.d (.bool false)) []
 mono:=fun h _ z=>by obtain⟨l,r,e,c,o,q⟩:=z;exact⟨l,r,e,c,o,h _ _ q⟩
theorem run_told{l:List Rw}{r:Rw}{K:T->List T->Prop}{E:XE}(h:Sml l)(o:RowOk l r)(q:K (.d (.bool false)) []):mC ZC [.d (W4 l),.d (sD r)] K E:=⟨l,r,rfl,h,o,q⟩
theorem ok_is_told{Ψ:PEv}(h1:Ψ.sp "names_of"=rB)(ds Q E)(h:ZC.run ds Q E):ds.length=ps_is_told.length/\nA Ψ (fun _=>False) vD (DA ZC ps_is_told.length Q) (uA N_is_told ZC.md ds):=by
 obtain⟨l,r,rfl,hl,o,q⟩:=h;have hz:sizeLine=16777216:=QZ;refine kA [some (.nj (.d (W4 l))),some (.nj (.d (sD r)))] rfl rfl rfl ?_;obtain⟨n1,n2,n3,n4,n5,n6,n7,n8,n9⟩:=hd_ne;have o3:=o.sec;have og:=o.good;cases r with
 |per p=>delta sD Rw.hd Rw.vs;delta vD;simp?[↓at0,↓at1,↓oA (md:=[]) h1 rfl rfl];refine run_names hl.p ?_;simp?[↓lA];refine⟨.inl ⟨rfl,flat_strs _⟩,?_⟩;rw[any_str,dF o3.2.2.2.1];exact q
 |mat m=>delta W4 sD Rw.hd Rw.vs;delta vD;simp?[↓at0,↓at1,n1];refine⟨.inl ⟨rfl,flat_strs _⟩,?_⟩;rw[any_str,dF o3.2.2.1];exact q
 |aga a b =>
  have ga:PB a/\PB b:=by obtain⟨f,_,fl⟩:=og.fm;exact⟨(fl.all (.str a) (by simp[Rw.vs])).1,(fl.all (.str b) (by simp[Rw.vs])).1⟩
  delta W4 sD Rw.hd Rw.vs;delta vD;simp?[↓at0,↓at1,↓at2,n2,n5,any_pair,dF o3.2.1,dF o3.2.2.1];exact⟨by omega,.inr ⟨ok_pair ga.1 ga.2,ok_pairs hl.ok⟩,by omega,.inr ⟨ok_pair ga.2 ga.1,ok_pairs hl.ok⟩,q⟩
 |ev e =>
  cases e with
  |see t p m w=>delta W4 sD Rw.hd Rw.vs;delta vD;simp?[↓at0,n3,n6,n8];exact q
  |tell t p q' m w b=>delta W4 sD Rw.hd Rw.vs;delta vD;simp?[↓at0,n4,n7,n9];exact q
theorem look_p:CA.lookup (QD "person")=none/\CA.lookup (QD "matter")=none/\CA.lookup (QD "against")=none/\CA.lookup (QD "see")=some (.tuple [.int 2])/\CA.lookup (QD "tell")=some (.tuple [.int 2,.int 3]) :=
 ⟨by kernel_rfl,by kernel_rfl,by kernel_rfl,by kernel_rfl,by kernel_rfl⟩
theorem look_m:iA.lookup (QD "person")=none/\iA.lookup (QD "matter")=none/\iA.lookup (QD "against")=some (.tuple [.int 1,.int 2])/\iA.lookup (QD "see")=some (.tuple [.int 3])/\iA.lookup (QD "tell")=some (.tuple [.int 4]) :=
 ⟨by kernel_rfl,by kernel_rfl,by kernel_rfl,by kernel_rfl,by kernel_rfl⟩
theorem none_of{body:T->(Option T->Prop)->Prop}(xs:List Str)(Q:List T->Prop)(hb:∀x∈xs,∀R:Option T->Prop,R (some (.d (.bool false)))->body (.d (.str x)) R)(hl:xs.length<=sizeLine)(q:Q (((xs.map fun _=>false).map PyData.bool).map T.d)):JD body ((xs.map PyData.str).map T.d) [] Q :=
 iD PyData.str (fun _=>T.d (.bool false)) xs Q hb hl (by
  have e:((xs.map fun _=>false).map PyData.bool).map T.d=xs.map fun _=>T.d (.bool false):=by simp[QBi]
  rw[e]at q;exact q)
theorem all_no(xs:List Str):((xs.map fun _=>false).any id)=false:=by
 induction xs with
 |nil=>rfl
 |cons x xs ih=>rw[QS,qq,ih];rfl
noncomputable def hsS(l:List Rw)(v:D)(o2 o3 o4:Option Sl):yA:=[some (.nj (.d (W4 l))),some (.nj (.d v)),o2,o3,o4]
noncomputable abbrev sL(xs:List Str):Option Sl:=some (.nj (.d (.list (xs.map PyData.str))))
section
variable{Ψ:PEv}{Z:PEnds}{l:List Rw}{v:D}{o2 o3 o4:Option Sl}{q:PT}
theorem hs_4{xs ys:List Str}(hx:∀x∈xs,x∈nams l)(hy:∀y∈ys,y∈bB l)(lx:xs.length<=400)(ly:ys.length<=400){Q:T->List T->Prop}(k:Q (.d (.bool false)) []) :
  nA Ψ (fun _=>False) (.seq (.ret (.or (.bi .any (.ng (.comp [] ["name"] (.nm 0) .val (.ng (.var 3) .nh) .nop (.cmp .NotIn (.var 0) (.var 3))) .nh)) (.bi .any (.ng (.comp [] ["name"] (.nm 0) .val (.ng (.var 4) .nh) .nop (.cmp .NotIn (.var 0) (.idx (.var 1) (.int 1)))) .nh)))) .nil) (eZ Q) (hsS l v (sL (nams l)) (sL xs) (sL ys)):=by
 have hz:sizeLine=16777216:=QZ;delta hsS sL W4;simp?[↓lA];refine none_of xs _ (fun x hx' R hR=>?_) (by omega) ?_;simp?[↓lA];refine⟨.inl ⟨rfl,flat_strs _⟩,?_⟩;rw[any_str,dT (hx x hx')];exact hR;simp?[↓lA];refine⟨_,rfl,?_⟩;rw[all_no];simp?[↓lA];refine none_of ys _ (fun x hx' R hR=>?_) (by omega) ?_;simp?[↓at1];refine⟨.inl ⟨rfl,flat_strs _⟩,?_⟩;rw[any_str,dT (hy x hx')];exact hR;simp?[↓lA];refine⟨_,rfl,?_⟩;rw[all_no];exact k
end
theorem mk_0:mkTup []=.d (.tuple []):=rfl
section
variable{Ψ:PEv}{Z:PEnds}{l:List Rw}{v:D}{o2 o3 o4:Option Sl}{q:PT}{h:Str}{vs:List D}
theorem hs_1(h1:Ψ.sp "names_of"=rB)(hl:(JB l).length<=400)(k:nA Ψ (fun _=>False) q Z (hsS l v (sL (nams l)) o3 o4)):nA Ψ (fun _=>False) (.seq (.set 2 (.call "names_of" (.ng (.var 0) .nh))) q) Z (hsS l v o2 o3 o4):=by delta hsS;simp?[↓oA (md:=[]) h1 rfl rfl];refine run_names hl ?_;simp?[↓lA];exact k
theorem hs_2(h2:Ψ.sp "quote_in"=pB)(v1:Ψ.dc "PEOPLE_AT"=some CA)(ps:List (Int×Str))(bs:List Str)(he:(CA.lookup h).getD (.tuple [])=.tuple (ps.map fun p=>.int p.1))(ha:∀p∈ps,uC (.str h::vs) p.1=some (.str p.2))(hb:vs.drop 6=bs.map PyData.str)(hl:ps.length<=20)(hm:bs.length<=20)
  (k:nA Ψ (fun _=>False) q Z (hsS l (.list (.str h::vs)) o2 (sL (ps.map (·.2)++bs)) o4)):nA Ψ (fun _=>False) (.seq (.set 3 (.bin .Add (.comp [] ["at"] (.nm 0) .val (.ng (.prm (.dgetD "PEOPLE_AT") (.ng (.idx (.var 1) (.int 0)) (.ng (.tup .nh) .nh))) .nh) .nop (.idx (.var 2) (.var 0))) (.call "quote_in" (.ng (.var 1) .nh)))) q) Z (hsS l (.list (.str h::vs)) o2 o3 o4):=by
 have hz:sizeLine=16777216:=QZ;delta hsS;simp?[↓at0,↓mk_0,↓p_getD v1 he];refine⟨by omega,?_⟩;refine iD (fun p:Int×Str=>PyData.int p.1) (fun p=>T.d (.str p.2)) ps _ (fun p hp R hR=>?_) (by omega) ?_;simp?[ha p hp];exact hR;have e:ps.map (fun p=>T.d (PyData.str p.2))=((ps.map (·.2)).map PyData.str).map T.d:=by simp
 rw[e];simp?[↓oA (md:=[]) h2 rfl rfl];refine run_quote ?_;have e2:(PyData.str h::vs).drop 7=bs.map PyData.str:=hb;rw[e2];simp?[<- Q6,QK,QG];exact⟨by omega,k⟩
theorem hs_3(v1:Ψ.dc "MATTERS_AT"=some iA)(ps:List (Int×Str))(he:(iA.lookup h).getD (.tuple [])=.tuple (ps.map fun p=>.int p.1))(ha:∀p∈ps,uC (.str h::vs) p.1=some (.str p.2))(hl:ps.length<=20)
  (k:nA Ψ (fun _=>False) q Z (hsS l (.list (.str h::vs)) o2 o3 (sL (ps.map (·.2))))):nA Ψ (fun _=>False) (.seq (.set 4 (.comp [] ["at"] (.nm 0) .val (.ng (.prm (.dgetD "MATTERS_AT") (.ng (.idx (.var 1) (.int 0)) (.ng (.tup .nh) .nh))) .nh) .nop (.idx (.var 2) (.var 0)))) q) Z (hsS l (.list (.str h::vs)) o2 o3 o4):=by
 have hz:sizeLine=16777216:=QZ;delta hsS;simp?[↓at0,↓mk_0,↓p_getD v1 he];refine⟨by omega,?_⟩;refine iD (fun p:Int×Str=>PyData.int p.1) (fun p=>T.d (.str p.2)) ps _ (fun p hp R hR=>?_) (by omega) ?_;simp?[ha p hp];exact hR;have e:ps.map (fun p=>T.d (PyData.str p.2))=((ps.map (·.2)).map PyData.str).map T.d:=by simp
 rw[e];simp?[↓lA];exact k
end
noncomputable def RA:PSp where
 md:=[]
 run:=fun ds Q _=>∃l r,ds=[.d (W4 l),.d (sD r)]/\Sml l/\RowOk l r/\Q (.d (.bool false)) []
 mono:=fun h _ z=>by obtain⟨l,r,e,c,o,q⟩:=z;exact⟨l,r,e,c,o,h _ _ q⟩
theorem run_str{l:List Rw}{r:Rw}{K:T->List T->Prop}{E:XE}(h:Sml l)(o:RowOk l r)(q:K (.d (.bool false)) []):mC RA [.d (W4 l),.d (sD r)] K E:=⟨l,r,rfl,h,o,q⟩
theorem ok_has_stranger{Ψ:PEv}(h1:Ψ.sp "names_of"=rB)(h2:Ψ.sp "quote_in"=pB)(v1:Ψ.dc "PEOPLE_AT"=some CA)(v2:Ψ.dc "MATTERS_AT"=some iA)(ds Q E)(h:RA.run ds Q E):ds.length=VD.length/\nA Ψ (fun _=>False) b_has_stranger (DA RA VD.length Q) (uA N_has_stranger RA.md ds):=by
 obtain⟨l,r,rfl,hl,o,q⟩:=h;refine kA (hsS l (sD r) none none none) rfl rfl rfl ?_;obtain⟨n1,n2,n3,n4,n5⟩:=look_p;obtain⟨m1,m2,m3,m4,m5⟩:=look_m;have o3:=o.sec;have o2:=o.few;have go:∀(ps ms:List (Int×Str)) (bs:List Str),(CA.lookup r.hd).getD (.tuple [])=.tuple (ps.map fun p=>.int p.1)->(iA.lookup r.hd).getD (.tuple [])=.tuple (ms.map fun p=>.int p.1)->(∀p∈ps,uC (.str r.hd::r.vs) p.1=some (.str p.2))->(∀p∈ms,uC (.str r.hd::r.vs) p.1=some (.str p.2))->r.vs.drop 6=bs.map PyData.str->ps.length<=20->ms.length<=20->bs.length<=20 ->
   (∀x∈ps.map (·.2)++bs,x∈nams l)->(∀x∈ms.map (·.2),x∈bB l)->nA Ψ (fun _=>False) b_has_stranger (eZ Q) (hsS l (sD r) none none none):=fun ps ms bs e1 e2 a1 a2 eb l1 l2 l3 i1 i2 =>
  hs_1 h1 hl.p (hs_2 h2 v1 ps bs e1 a1 eb l1 l3 (hs_3 v2 ms e2 a2 l2 (hs_4 i1 i2 (by simp;omega) (by simp;omega) q)))
 cases r with
 |per p=>exact go [] [] [] (by show(CA.lookup (QD "person")).getD _=_;rw[n1];rfl) (by show(iA.lookup (QD "person")).getD _=_;rw[m1];rfl) (fun _ z=>by cases z) (fun _ z=>by cases z) rfl (by simp) (by simp) (by simp) (fun _ z=>by cases z) (fun _ z=>by cases z)
 |mat m=>exact go [] [] [] (by show(CA.lookup (QD "matter")).getD _=_;rw[n2];rfl) (by show(iA.lookup (QD "matter")).getD _=_;rw[m2];rfl) (fun _ z=>by cases z) (fun _ z=>by cases z) rfl (by simp) (by simp) (by simp) (fun _ z=>by cases z) (fun _ z=>by cases z)
 |aga a b=>exact go [] [(1,a),(2,b)] [] (by show(CA.lookup (QD "against")).getD _=_;rw[n3];rfl) (by show(iA.lookup (QD "against")).getD _=_;rw[m3];rfl) (fun _ z=>by cases z) (Qm.mpr ⟨at1 ..,Qm.mpr ⟨at2 ..,fun _ z=>by cases z⟩⟩) rfl (by simp) (by simp) (by simp) (fun _ z=>by cases z) (Qm.mpr ⟨o3.2.2.2.1,Qm.mpr ⟨o3.2.2.2.2.1,fun _ z=>by cases z⟩⟩)
 |ev e =>
  cases e with
  |see t p m w=>exact go [(2,p)] [(3,m)] [] (by show(CA.lookup (QD "see")).getD _=_;rw[n4];rfl) (by show(iA.lookup (QD "see")).getD _=_;rw[m4];rfl) (Qm.mpr ⟨at2 ..,fun _ z=>by cases z⟩) (Qm.mpr ⟨at3 ..,fun _ z=>by cases z⟩) rfl (by simp) (by simp) (by simp) (Qm.mpr ⟨o3.1,fun _ z=>by cases z⟩) (Qm.mpr ⟨o3.2.1,fun _ z=>by cases z⟩)
  |tell t p q' m w b =>
   have lb:b.length<=12:=by
    simp only[Rw.vs,QK]at o2;cases b with
    |nil=>simp
    |cons x b=>simp only[byD,QL,QG]at o2 ⊢;omega
   exact go [(2,p),(3,q')] [(4,m)] b (by show(CA.lookup (QD "tell")).getD _=_;rw[n5];rfl) (by show(iA.lookup (QD "tell")).getD _=_;rw[m5];rfl) (Qm.mpr ⟨at2 ..,Qm.mpr ⟨at3 ..,fun _ z=>by cases z⟩⟩) (Qm.mpr ⟨at4 ..,fun _ z=>by cases z⟩) (byD_drop b) (by simp) (by simp) (by omega) (Qm.mpr ⟨o3.1,Qm.mpr ⟨o3.2.1,o3.2.2.2.1⟩⟩) (Qm.mpr ⟨o3.2.2.1,fun _ z=>by cases z⟩)
theorem T_bi{Ψ:PEv}{E:XE}{ρ:yA}{L:Bool->yA->Prop}{f:Bi}{as:PX}:peT Ψ (.bi f as) E ρ L=tB Ψ (.bi f as) E ρ fun t _ ρ1=>truV t fun b=>L b ρ1:=rfl
theorem look_s:mB.lookup (QD "person")=some (.int 0)/\mB.lookup (QD "matter")=some (.int 1)/\mB.lookup (QD "against")=some (.int 2)/\mB.lookup (QD "see")=some (.int 3)/\mB.lookup (QD "tell")=some (.int 3) :=
 ⟨by kernel_rfl,by kernel_rfl,by kernel_rfl,by kernel_rfl,by kernel_rfl⟩
noncomputable def Rw.sec:Rw->Nat
 | .per _=>0
 | .mat _=>1
 | .aga _ _=>2
 | .ev _=>3
theorem look_r(r:Rw):mB.lookup r.hd=some (.int r.sec):=by
 obtain⟨n1,n2,n3,n4,n5⟩:=look_s;cases r with
 |per p=>exact n1
 |mat m=>exact n2
 |aga a b=>exact n3
 |ev e =>
  cases e with
  |see t p m w=>exact n4
  |tell t p q m w b=>exact n5
noncomputable def secs(l:List Rw):List (List D):=[(JB l).map pD,(bB l).map PyData.str,(cB l).map aD,(evs l).map eD]
theorem W4_secs(l:List Rw):W4 l=.tuple ((secs l).map PyData.list):=rfl
theorem sec_empty{l:List Rw}{r:Rw}(o:RowOk l r):∀x∈(secs l).drop (r.sec+1),x=[]:=by
 have o3:=o.sec;cases r with
 |per p=>intro x hx;have:x∈[(bB l).map PyData.str,(cB l).map aD,(evs l).map eD]:=hx;rw[o3.1,o3.2.1,o3.2.2.1]at this;simpa using this
 |mat m=>intro x hx;have:x∈[(cB l).map aD,(evs l).map eD]:=hx;rw[o3.1,o3.2.1]at this;simpa using this
 |aga a b=>intro x hx;have:x∈[(evs l).map eD]:=hx;rw[o3.1]at this;simpa using this
 |ev e=>intro x hx;cases hx
noncomputable def mostN:List Nat:=[10,6,15,80]
theorem sec_few{l:List Rw}{r:Rw}(o:RowOk l r):∃x n,(secs l)[r.sec]?=some x/\mostN[r.sec]?=some n/\x.length<n:=by
 have o3:=o.sec;cases r with
 |per p=>exact⟨_,_,rfl,rfl,by rw[QG];exact o3.2.2.2.2⟩
 |mat m=>exact⟨_,_,rfl,rfl,by rw[QG];exact o3.2.2.2⟩
 |aga a b=>exact⟨_,_,rfl,rfl,by rw[QG];exact o3.2.2.2.2.2⟩
 |ev e =>
  cases e with
  |see t p m w=>exact⟨_,_,rfl,rfl,by rw[QG];exact o3.2.2⟩
  |tell t p q m w b=>exact⟨_,_,rfl,rfl,by rw[QG];exact o3.2.2.2.2⟩
theorem sec_lt(r:Rw):r.sec<4:=by cases r<;>simp[Rw.sec]
noncomputable def jB:PSp where
 md:=[]
 run:=fun ds Q _=>∃l r pl,ds=[.d (W4 l),.d (sD r),.d (.int pl)]/\Sml l/\RowOk l r/\Q (.d .none) []
 mono:=fun h _ z=>by obtain⟨l,r,pl,e,c,o,q⟩:=z;exact⟨l,r,pl,e,c,o,h _ _ q⟩
theorem any_no:∀(n:Nat),((QH n false).any id)=false
 |0=>rfl
 |n+1=>any_no n
theorem ok_check_row{Ψ:PEv}(h1:Ψ.sp "is_told"=ZC)(h2:Ψ.sp "has_stranger"=RA)(v1:Ψ.dc "SECTIONS"=some mB)(v2:Ψ.va "MOST"=some mostD)(ds Q E)(h:jB.run ds Q E):ds.length=ps_check_row.length/\nA Ψ (fun _=>False) b_check_row (DA jB ps_check_row.length Q) (uA N_check_row jB.md ds):=by
 obtain⟨l,r,pl,rfl,hl,o,q⟩:=h;refine kA [some (.nj (.d (W4 l))),some (.nj (.d (sD r))),some (.nj (.d (.int pl))),none] rfl rfl rfl ?_;have hz:sizeLine=16777216:=QZ;have ls:=sec_lt r;obtain⟨x,n,hx,hn,hxn⟩:=sec_few o;have hsl:¬ (HT.sIx ((secs l).map PyData.list).length 0 (some ((r.sec:Int)+1))=0/\HT.sIx ((secs l).map PyData.list).length ((secs l).map PyData.list).length none=((secs l).map PyData.list).length):=by intro ⟨z,_⟩;unfold HT.sIx at z;simp only[QG,secs,QL,wL]at z;rw[if_neg (by omega)]at z;omega
 have a1:uC ((secs l).map PyData.list) (r.sec:Int)=some (.list x):=by refine ZB ?_;rw[Qd,hx];rfl
 have a2:uC [PyData.int 10,.int 6,.int 15,.int 80] (r.sec:Int)=some (.int (n:Int)):=by refine ZB ?_;have:[PyData.int 10,.int 6,.int 15,.int 80]=mostN.map fun(k:Nat)=>PyData.int (k:Int):=rfl;rw[this,Qd,hn];rfl
 have hr:sD r=.list (.str r.hd::r.vs):=rfl;rw[W4_secs];delta b_check_row;rw[hr];simp?[↓T_bi,↓at0,↓E_slc_b,↓sq_D,↓pt_i',↓p_ix v1 (look_r r),↓s_td hsl];have dr:cutD ((secs l).map PyData.list) (some ((r.sec:Int)+1)) none=((secs l).drop (r.sec+1)).map PyData.list:=by rw[cut_lo _ (by omega),show((r.sec:Int)+1).toNat=r.sec+1 by omega,List.map_drop]
 rw[dr];refine iD PyData.list (fun _=>T.d (.bool false)) _ _ (fun y hy R hR=>?_) (by simp only[qa,secs,QL,wL];omega) ?_;rw[sec_empty o y hy];simp?[↓lA];exact hR;have ef:((secs l).drop (r.sec+1)).map (fun _=>T.d (PyData.bool false))=((QH ((secs l).drop (r.sec+1)).length false).map PyData.bool).map T.d:=by rw[QBU,QBU];exact List.map_const' ..
 rw[ef];simp?[↓lA];refine⟨_,rfl,?_⟩;rw[any_no];simp?[↓oA (md:=[]) h1 rfl rfl];refine run_told hl o ?_;simp?[↓oA (md:=[]) h2 rfl rfl];refine run_str hl o ?_;have en:decide ((n:Int)<=(x.length:Int))=false:=dF (by omega);delta mostD at v2;simp?[↓E_glo v2,a1,a2,en];exact q
inductive Reads:List Str->List Rw->Prop where
 |nil:Reads [] []
 |blank {r:Str}{rs:List Str}{ws:List Rw}:Lib.wordsOf r=[]->r.length<=900->Reads rs ws->Reads (r::rs) ws
 |row {r:Str}{rs:List Str}{x:Rw}{ws:List Rw}:Lib.wordsOf r=x.hd::x.vs.map txt->r.length<=900->Reads rs ws->Reads (r::rs) (x::ws)
theorem Reads.inv{r:Str}{rs:List Str}{ws:List Rw}(h:Reads (r::rs) ws):r.length<=900/\((Lib.wordsOf r=[]/\Reads rs ws)∨∃x ws',ws=x::ws'/\Lib.wordsOf r=x.hd::x.vs.map txt/\Reads rs ws'):=by
 cases h with
 |blank a b c=>exact⟨b,.inl ⟨a,c⟩⟩
 |row a b c=>exact⟨b,.inr ⟨_,_,rfl,a,c⟩⟩
noncomputable def TB:PSp where
 md:=[]
 run:=fun ds Q _=>∃(text:Str) (rws:List Rw),ds=[.d (.str text)]/\text.length<=1000000/\Reads (qJ text "\n") rws/\Told rws/\JB rws≠[]/\bB rws≠[]/\Q (T4 rws) []
 mono:=fun h _ z=>by obtain⟨l,r,e,a,b,c,d,f,q⟩:=z;exact⟨l,r,e,a,b,c,d,f,h _ _ q⟩
structure Sm(l:List Rw):Prop where
 p:(JB l).length<=10
 ok:∀p∈cB l,PB p.1/\PB p.2
 m:(bB l).length<=6
 a:(cB l).length<=15
 e:(evs l).length<=80
theorem Sm.add{l:List Rw}{r:Rw}(h:Sm l)(o:RowOk l r):Sm (l++[r]):=by
 have o3:=o.sec;have og:=o.good;obtain⟨h1,h2,h3,h4,h5⟩:=h;cases r with
 |per p=>have:=o3.2.2.2.2;exact⟨by simp only[JB,qL,QK]at this ⊢;simp;omega,by simpa[cB]using h2,by simpa[bB]using h3,by simpa[cB]using h4,by simpa[evs]using h5⟩
 |mat m=>have o3:=o3.2.2.2;exact⟨by simpa[JB]using h1,by simpa[cB]using h2,by simp only[bB,qL,QK]at o3 ⊢;simp;omega,by simpa[cB]using h4,by simpa[evs]using h5⟩
 |aga a b =>
  have o3:=o3.2.2.2.2.2;refine⟨by simpa[JB]using h1,fun p hp=>?_,by simpa[bB]using h3,by simp only[cB,qL,QK]at o3 ⊢;simp;omega,by simpa[evs]using h5⟩;have hp:p∈cB l∨p=(a,b):=by simpa[cB]using hp
  rcases hp with hp|rfl;exact h2 p hp;obtain⟨f,_,fl⟩:=og.fm;exact⟨(fl.all (.str a) (by simp[Rw.vs])).1,(fl.all (.str b) (by simp[Rw.vs])).1⟩
 |ev e =>
  have o3:(evs l).length<80:=by
   cases e with
   |see t p m w=>exact o3.2.2
   |tell t p q m w b=>exact o3.2.2.2.2
  exact⟨by simpa[JB]using h1,by simpa[cB]using h2,by simpa[bB]using h3,by simpa[cB]using h4,by simp only[evs,qL,QK]at o3 ⊢;simp;omega⟩
noncomputable def lT(x:List D):T:=.lst (x.map T.d)
theorem T4_add(l:List Rw)(r:Rw){x:List D}(h:(secs l)[r.sec]?=some x):T4 (l++[r])=.tup (((secs l).map lT).set r.sec (.lst (x.map T.d++[.d r.ent]))):=by cases r<;>cases h<;>simp[T4,secs,lT,Rw.sec,JB,bB,cB,evs,Rw.ent]
theorem pap_4{l:List Rw}{r:Rw}{Q:List T->Nat->List T->Prop}{x:List D}(h:(secs l)[r.sec]?=some x)(q:Q ((secs l).map lT) r.sec (x.map T.d)):papT (T4 l) (.int (r.sec:Int)) Q :=
 ⟨(secs l).map lT,_,r.sec,_,rfl,rfl,by cases r<;>rfl,by rw[Qd,h];rfl,q⟩
theorem J_4{Ψ:PEv}{E:XE}{ρ:yA}{M:List (T×Bool)->yA->Prop}{b:PX}{l:List Rw}{md:List Md}:sqA (T4 l) false Ψ b E md ρ M=peA Ψ b E md (lockA ρ) fun xs _=>M xs ρ:=rfl
noncomputable def rdS(text:Str)(rows:D)(l:List Rw)(o3 o4 o5:Option Sl):yA:=[some (.nj (.d (.str text))),some (.own (T4 l)),some (.nj (.d rows)),o3,o4,o5]
section
variable{Ψ:PEv}{Z:PEnds}{text r:Str}{rows:D}{l:List Rw}{x:Rw}{pl:Int}
theorem rd_none{o3 o4:Option Sl}(k:Z.nx (rdS text rows l o3 o4 (some (.nj (.d .none))))) :
  nA Ψ (fun _=>False) (.seq (.ife (.cmp .IsNot (.var 5) .non) (.seq (.expr (.call "check_row" (.ng (.var 1) (.ng (.var 5) (.ng (.var 3) .nh))))) (.seq (.pap 1 (.prm (.dix "SECTIONS") (.ng (.idx (.var 5) (.int 0)) .nh)) (.call "entry_of" (.ng (.var 5) .nh))) .nil)) .nil) .nil) Z (rdS text rows l o3 o4 (some (.nj (.d .none)))):=by
 delta rdS at k ⊢;simp?[↓lA];exact k
theorem rd_row(h2:Ψ.sp "check_row"=tmpP jB [.nj])(h3:Ψ.sp "entry_of"=UB)(v1:Ψ.dc "SECTIONS"=some mB){o4:Option Sl}(o:RowOk l x)(sm:Sm l)(k:∀o3 o4 o5,Z.nx (rdS text rows (l++[x]) o3 o4 o5)) :
  nA Ψ (fun _=>False) (.seq (.ife (.cmp .IsNot (.var 5) .non) (.seq (.expr (.call "check_row" (.ng (.var 1) (.ng (.var 5) (.ng (.var 3) .nh))))) (.seq (.pap 1 (.prm (.dix "SECTIONS") (.ng (.idx (.var 5) (.int 0)) .nh)) (.call "entry_of" (.ng (.var 5) .nh))) .nil)) .nil) .nil) Z (rdS text rows l (some (.nj (.d (.int pl)))) o4 (some (.nj (.d (sD x))))):=by
 have hz:sizeLine=16777216:=QZ;have hr:sD x=.list (.str x.hd::x.vs):=rfl;rw[hr];delta rdS at k ⊢;simp?[↓at0,↓oA (md:=[.nj]) h2 rfl rfl,↓J_4,↓p_ix v1 (look_r x)];obtain⟨y,n,hy,hn,hyn⟩:=sec_few o;have ln:n<=80:=by
  have:∀m∈mostN,m<=80:=by decide
  exact this n (qP hn)
 refine⟨l,x,pl,by rw[<- hr,<- T4_er];rfl,⟨by have:=sm.p;omega,sm.ok⟩,o,rfl,rfl,pap_4 hy ?_⟩;simp?[↓oA (md:=[]) h3 rfl rfl];refine run_entry o.few ?_;simp?[↓lA];have k:=k (some (.nj (.d (.int pl)))) o4 (some (.nj (.d (sD x))));rw[T4_add l x hy]at k;refine⟨by rw[QG];omega,k⟩
end
theorem Q_t{Ψ:PEv}{E:XE}{ρ:yA}{K:TK}{b:PX}{ts:List T}:sqE (.tup ts) false Ψ b E ρ K=tB Ψ b E (lockA ρ) fun y m _=>K y m ρ:=rfl
theorem x_t{ts:List T}{i:Int}{m:Bool}{R:T->Prop}:idxV (.tup ts) false (.d (.int i)) m R=optP (uC ts i) R:=by unfold idxV;rw[zA];exact idxT_3 _ _
theorem nl_len:(QD "\n").length=1:=by decide +kernel
theorem ok_read_world{Ψ:PEv}(h1:Ψ.sp "row_of"=BC)(h2:Ψ.sp "check_row"=tmpP jB [.nj])(h3:Ψ.sp "entry_of"=UB)(v1:Ψ.dc "SECTIONS"=some mB)(ds Q E)(h:TB.run ds Q E):ds.length=ps_read_world.length/\nA Ψ (fun _=>False) b_read_world (DA TB ps_read_world.length Q) (uA N_read_world TB.md ds):=by
 obtain⟨text,rws,rfl,hl,rd,told,hp,hm,q⟩:=h;refine kA [some (.nj (.d (.str text))),none,none,none,none,none] rfl rfl rfl ?_;have hz:sizeLine=16777216:=QZ;have hs:=split_le text (QD "\n");have t0:mkTup [T.lst [],T.lst [],T.lst [],T.lst []]=T4 []:=rfl;delta b_read_world;simp?[nl_len,t0,↓L_o];refine⟨by omega,by omega,by omega,by omega,by omega,by omega,by decide,by omega,?_⟩;refine for_inv (fun(p:D×Nat)=>T.d (.tuple [.int ((WN 1+p.2:Nat):Int),p.1])) (fun xs ρ=>∃(done rest:List Rw) (rs:List Str) (k:Nat) (o3 o4 o5:Option Sl),rws=done++rest/\Reads rs rest/\xs=(rs.map PyData.str).zipIdx k/\Sm done /\
  ρ=rdS text (.list ((qJ text (QD "\n")).map PyData.str)) done o3 o4 o5) ?_ ?_ _ _ ⟨[],rws,qJ text (QD "\n"),0,none,none,none,rfl,rd,rfl,⟨by simp[JB],by simp[cB],by simp[bB],by simp[cB],by simp[evs]⟩,rfl⟩
 ·rintro ρ ⟨done,rest,rs,k,o3,o4,o5,e,rd,ex,sm,rfl⟩
  have:rs=[]:=by
   cases rs with
   |nil=>rfl
   |cons _ _=>simp at ex
  subst this;have:rest=[]:=by cases rd;rfl
  subst this;rw[Qi]at e;subst e;have p1:0<(JB rws).length:=QBE.mpr hp;have m1:0<(bB rws).length:=QBE.mpr hm;have e0:decide (((JB rws).length:Int)=0)=false:=dF (by omega);have e1:decide (((bB rws).length:Int)=0)=false:=dF (by omega);change nA _ _ _ _ [some (.nj (.d (.str text))),some (.own (T4 rws)),some (.nj (.d _)),killS o3,killS o4,o5];generalize killS o3=o3;generalize killS o4=o4;delta T4 at q ⊢;simp?[e0,e1,↓at0,↓at1,↓Q_t,↓x_t,QG];exact q
 ·rintro⟨x,i⟩ xs ρ N hN ⟨done,rest,rs,k,o3,o4,o5,e,rd,ex,sm,rfl⟩
  cases rs with
  |nil=>simp at ex
  |cons r rs =>
   rw[QS,wy,qj,QAQ]at ex;obtain⟨⟨rfl,rfl⟩,rfl⟩:=ex;obtain⟨hl,rd⟩:=rd.inv;delta rdS;delta b_read_world_1;simp?[↓oA (md:=[]) h1 rfl rfl];rcases rd with⟨w0,rd⟩| ⟨x,ws',rfl,w1,rd⟩
   ·refine run_row_none w0 hl ?_
    refine⟨rfl,?_⟩;rw[K_d];refine rd_none ?_;exact hN _ ⟨done,rest,rs,_,_,_,_,e,rd,rfl,sm,rfl⟩
   ·have o:RowOk done x:=told done x ws' e
    refine run_row_list w1 o.good o.few hl ⟨rfl,?_⟩;rw[K_l];refine rd_row h2 h3 v1 o sm fun o3 o4 o5=>?_;exact hN _ ⟨done++[x],ws',rs,_,_,_,_,by rw[e];simp,rd,rfl,sm.add o,rfl⟩
noncomputable def srt(l:List Rw):List Rw:=(JB l).map .per++((bB l).map .mat++((cB l).map (fun p=>.aga p.1 p.2)++(evs l).map .ev))
def Shw(d:D):Prop:=(∃z:Str,d=.str z/\z.length<=100)∨∃n:Int,d=.int n/\0<=n/\n<=999999999
theorem sum_le{α:Type}(f:α->Nat)(k:Nat):∀(l:List α),(∀x∈l,f x<=k)->(l.map f).sum<=l.length * k
 |[],_=>by simp
 |x::l,h=>by have h1:=h x QM;have h2:=sum_le f k l fun y hy=>h y (QJ _ hy);simp only[QS,List.sum_cons,QL,Nat.add_mul,Nat.one_mul];omega
theorem str_part{d:D}{n:Bool}(h:Shw d){Q:T->Bool->Prop}(q:Q (.d (.str (txt d))) false):biV .str [(.d d,n)] Q:=by
 rcases h with⟨z,rfl,h⟩| ⟨m,rfl,m0,m1⟩
 simp?[↓lA];exact q;simp?[↓lA];refine⟨?_,q⟩;by_cases e:m.natAbs=0;rw[e];decide;rw[QCD e];exact Nat.lt_of_le_of_lt (show m.natAbs<=2 ^ 30 by omega) (Nat.pow_lt_pow_right (by decide) (by decide))
theorem V_dl{ds es:List D}{n m:Bool}{Q:T->Bool->Prop}:fC .Add (.d (.list ds)) n (.lst (es.map T.d)) m Q=(ds.length+es.length<=sizeLine/\Q (.lst ((ds++es).map T.d)) true):=by rw[<- V_ls (n:=false) (m:=m)];unfold fC;rw[zA];rfl
theorem hd_shw(x:Rw):Shw (.str x.hd):=by
 refine .inl ⟨_,rfl,?_⟩;have h:∀s∈(["person","matter","against","see","tell"]:List Str),s.length<=100:=by decide +kernel
 cases x with
 |ev e=>cases e<;>exact h _ (by simp[Rw.hd])
 |_=>exact h _ (by simp[Rw.hd])
noncomputable def shD:D->T
 | .list l=>.lst (l.map T.d)
 |x=>.d x
theorem shal_d(x:D):AC (.d x)=some (shD x):=by
 cases x with
 |list l=>simp only[AC,T.vw,dA,qA,shD]
 |_=>rfl
noncomputable def okN:Nat->D->Bool
 |_,.none=>true
 |_,.int _=>true
 |_,.str _=>true
 |n+1,.list l=>l.all fun x=>okN n x
 |n+1,.tuple l=>l.all fun x=>okN n x
 |_,_=>false
noncomputable def eA(n:Nat):PSp where
 md:=[]
 run:=fun ds Q _=>∃x,ds=[.d x,.d x]/\okN n x=true/\Q (.d (.bool true)) []
 mono:=fun h _ z=>by obtain⟨x,e,o,q⟩:=z;exact⟨x,e,o,h _ _ q⟩
theorem P_sd{x:D}{n:Bool}{md:List Md}{xs:List (T×Bool)}{C:List T->Prop}:nC (.nq::md) ((.d x,n)::xs) C=nC md xs fun ts=>C (shD x::ts):=P_s (by rw[zA];exact shal_d x)
theorem run_same{n:Nat}{x:D}{K:T->List T->Prop}{E:XE}(o:okN n x=true)(q:K (.d (.bool true)) []):mC (eA n) [.d x,.d x] K E:=⟨x,rfl,o,q⟩
theorem same_top{Ψ:PEv}{Z:PEnds}{x:D}{s2 s3:Option Sl}(h1:isD "list" x=some false)(h2:isD "tuple" x=some false)(q:nA Ψ (fun _=>False) b_l_same_r Z [some (.nj (.d x)),some (.nj (.d x)),s2,s3]):nA Ψ (fun _=>False) pC Z [some (.nj (.d x)),some (.nj (.d x)),s2,s3]:=by delta pC;simp?[↓i_of h1 rfl,↓i_of h2 rfl];exact q
theorem same_sc{Ψ:PEv}(x:D)(hx:x=.none∨(∃n,x=.int n)∨∃z,x=.str z){Q:T->List T->Prop}{s2 s3:Option Sl}(q:Q (.d (.bool true)) []):nA Ψ (fun _=>False) pC (eZ Q) [some (.nj (.d x)),some (.nj (.d x)),s2,s3]:=by
 rcases hx with rfl|⟨n,rfl⟩| ⟨z,rfl⟩
 refine same_top rfl rfl ?_;delta b_l_same_r b_l_same_n;simp?[↓lA];exact q;refine same_top rfl rfl ?_;delta b_l_same_r b_l_same_i;simp?[↓lA];exact q;refine same_top rfl rfl ?_;delta b_l_same_r b_l_same_t;simp?[↓lA];exact q
theorem ok_same0{Ψ:PEv}(ds Q E)(h:(eA 0).run ds Q E):ds.length=ps_l_same.length/\nA Ψ (fun _=>False) pC (DA (eA 0) ps_l_same.length Q) (uA N_l_same (eA 0).md ds):=by
 obtain⟨x,rfl,o,q⟩:=h;cases x with
 |none=>exact kA _ rfl rfl rfl (same_sc .none (.inl rfl) q)
 |int n=>exact kA _ rfl rfl rfl (same_sc (.int n) (.inr (.inl ⟨n,rfl⟩)) q)
 |str z=>exact kA _ rfl rfl rfl (same_sc (.str z) (.inr (.inr ⟨z,rfl⟩)) q)
 |_=>cases o
theorem same_loop{Ψ:PEv}{n:Nat}(h1:Ψ.sp "_law_same"=eA n){Z:PEnds}(a b:Option Sl):∀(xs:List (D×D)) (ρ:yA),(∀o2 o3,Z.nx [a,b,o2,o3])->((∀p∈xs,p.1=p.2/\okN n p.1=true)/\∃o2 o3,ρ=[a,b,o2,o3])->forV (nA Ψ (fun _=>False) b_l_same_1) (.tp [2,3]) Z (xs.map fun p=>T.d (.tuple [p.1,p.2])) ρ:=by intro xs ρ hz w;refine for_inv (fun(p:D×D)=>T.d (.tuple [p.1,p.2])) (fun xs ρ=>(∀p∈xs,p.1=p.2/\okN n p.1=true)/\∃o2 o3,ρ=[a,b,o2,o3]) ?_ ?_ xs ρ w;rintro ρ ⟨_,o2,o3,rfl⟩;exact hz o2 o3;rintro⟨x,y⟩ xs ρ N hN ⟨hp,o2,o3,rfl⟩;obtain⟨e,o⟩:=hp (x,y) QM;have e:x=y:=e;subst e;delta b_l_same_1;simp only[↓bv_k,↓B_tp2,Wt,WF];simp?[↓oA (md:=[]) h1 rfl rfl];refine run_same o ?_;simp?[↓lA];exact hN _ ⟨fun p hp'=>hp p (QJ _ hp'),_,_,rfl⟩
theorem zip_self{n:Nat}:∀(l:List D),(l.all fun x=>okN n x)=true->∀p∈l.zip l,p.1=p.2/\okN n p.1=true
 |[],_,p,hp=>by cases hp
 |x::l,h,p,hp=>by rw[Q5,QU]at h;rcases QI.mp hp with rfl|hp;exact⟨rfl,h.1⟩;exact zip_self l h.2 p hp
theorem w_zd{ds es:List D}{n m:Bool}{W:List T->Prop}:itV .zip2 [(.d (.list ds),n),(.d (.list es),m)] W=W ((ds.zip es).map fun p=>.d (.tuple [p.1,p.2])):=by unfold itV iB iB;rw[zA,zA];exact propext ⟨fun⟨_,_,_,_,_,_,e1,e2,e3,e4,e5,q⟩=>by cases e1;cases e2;cases e3;rw[dA]at e4 e5;cases e4;cases e5;exact q,fun q=>⟨_,_,_,_,_,_,rfl,rfl,rfl,dA _,dA _,q⟩⟩
theorem same_list{Ψ:PEv}{n:Nat}(h1:Ψ.sp "_law_same"=eA n){l:List D}(o:(l.all fun x=>okN n x)=true){Q:T->List T->Prop}(q:Q (.d (.bool true)) []):nA Ψ (fun _=>False) pC (eZ Q) [some (.nj (.d (.list l))),some (.nj (.d (.list l))),none,none]:=by have t1:isD "list" (PyData.list l)=some true:=rfl;have t2:isD "tuple" (PyData.list l)=some false:=rfl;delta pC;simp?[↓i_of t1 rfl,↓i_of t2 rfl];delta b_l_same_s;simp?[↓i_of t1 rfl,↓i_of t2 rfl];delta b_l_same_f;simp?[↓w_zd];refine same_loop h1 _ _ (l.zip l) _ (fun _ _=>?_) ⟨zip_self l o,none,none,rfl⟩;simp?[↓lA];exact q
theorem same_tup{Ψ:PEv}{n:Nat}(h1:Ψ.sp "_law_same"=eA n){l:List D}(o:(l.all fun x=>okN n x)=true){Q:T->List T->Prop}(q:Q (.d (.bool true)) []):nA Ψ (fun _=>False) pC (eZ Q) [some (.nj (.d (.tuple l))),some (.nj (.d (.tuple l))),none,none]:=by delta pC;simp?[↓lA];delta b_l_same_s;simp?[↓lA];delta b_l_same_f;simp?[↓lA];refine same_loop h1 _ _ (l.zip l) _ (fun _ _=>?_) ⟨zip_self l o,none,none,rfl⟩;simp?[↓lA];exact q
theorem ok_same{Ψ:PEv}{n:Nat}(h1:Ψ.sp "_law_same"=eA n)(ds Q E)(h:(eA (n+1)).run ds Q E):ds.length=ps_l_same.length/\nA Ψ (fun _=>False) pC (DA (eA (n+1)) ps_l_same.length Q) (uA N_l_same (eA (n+1)).md ds):=by
 obtain⟨x,rfl,o,q⟩:=h;cases x with
 |none=>exact kA _ rfl rfl rfl (same_sc .none (.inl rfl) q)
 |int n=>exact kA _ rfl rfl rfl (same_sc (.int n) (.inr (.inl ⟨n,rfl⟩)) q)
 |str z=>exact kA _ rfl rfl rfl (same_sc (.str z) (.inr (.inr ⟨z,rfl⟩)) q)
 |bool _=>cases o
 |dict _=>cases o
 |list l=>exact kA _ rfl rfl rfl (same_list h1 o q)
 |tuple l=>exact kA _ rfl rfl rfl (same_tup h1 o q)
noncomputable def ins1(t:T):List T->List T
 |u::us=>u::t::us
 |[]=>[t]
theorem E_call2{Ψ:PEv}{E:XE}{ρ:yA}{K:TK}{a as:PX}{f:Str}{p:PSp}{md:List Md}{j:Nat}(h:Ψ.sp f=p)(hm:p.md=.nq::.chg::md)(hn:(md.all fun m=>!m.isMut)=true):tB Ψ (.call f (.ng a (.ng (.var j) as))) E ρ K=ownV ρ[j]? fun t=>tB Ψ a E (ρ.set j none) fun x n ρ1=>sqA x n Ψ as E md ρ1 fun xs ρ2=>nC (.nq::md) ((x,n)::xs) fun ts=>mC p (ins1 t ts) (fun r os=>∃t',os=[t']/\K r true (ρ2.set j (some (.own t')))) E:=by
 have mr:∀(md:List Md) (as:PX),(md.all fun m=>!m.isMut)=true->cA md as=[]:=by
  intro md;induction md with
  |nil=>intro as _;cases as<;>rfl
  |cons m md ih =>
   intro as h;rw[Q5,QU]at h;cases m with
   |chg=>cases h.1
   |_=>cases as with
    |ng a as=>exact ih as h.2
    |_=>rfl
 show(∃os,vB (cA (Ψ.sp f).md (.ng a (.ng (.var j) as))) ρ=some os/\(cA (Ψ.sp f).md (.ng a (.ng (.var j) as))).Nodup/\(pe Ψ (.ng a (.ng (.var j) as)) E).a (Ψ.sp f).md (clear (cA (Ψ.sp f).md (.ng a (.ng (.var j) as))) ρ) fun xs ρ1=>∃ts,GA (Ψ.sp f).md xs os=some ts/\(Ψ.sp f).run ts (fun r os'=>∃ρ2,LC (cA (Ψ.sp f).md (.ng a (.ng (.var j) as))) os' ρ1=some ρ2/\K r true ρ2) E)=_;rw[h,hm];have e1:cA (.nq::.chg::md) (.ng a (.ng (.var j) as))=[j]:=by show j::cA md as=[j];rw[mr md as hn]
 rw[e1];have po:∀(r:T) (os:List T) (ρ1:yA),(∃ρ2,LC [j] os ρ1=some ρ2/\K r true ρ2)=(∃t',os=[t']/\K r true (ρ1.set j (some (.own t')))):=by
  intro r os ρ1
  match os with
  |[]=>exact propext ⟨fun⟨_,e,k⟩=>(by cases e),fun⟨_,e,k⟩=>(by cases e)⟩
  |[t]=>exact propext ⟨fun⟨_,e,k⟩=>by cases e;exact⟨t,rfl,k⟩,fun⟨_,e,k⟩=>by cases e;exact⟨_,rfl,k⟩⟩
  |_::_::_=>exact propext ⟨fun⟨_,e,k⟩=>(by cases e),fun⟨_,e,k⟩=>(by cases e)⟩
 have pf:=fun(ρ1:yA)=>funext fun r=>funext fun os=>po r os ρ1;simp only[pf];have pa:∀(t x:T) (n:Bool) (xs:List (T×Bool)) (G:List T->Prop),(∃ts,GA (.nq::.chg::md) ((x,n)::(.d .none,true)::xs) [t]=some ts/\G ts)=nC (.nq::md) ((x,n)::xs) fun ts=>G (ins1 t ts):=by
  intro t x n xs G;show(∃ts,(match AC (vA x n) with|some u=>((GA md xs []).map (t::·)).map (u::·)|none=>none)=some ts/\G ts)=optP (match AC (vA x n) with|some u=>(GA md xs []).map (u::·)|none=>none) fun ts=>G (ins1 t ts);cases AC (vA x n) with
  |none=>exact propext ⟨fun⟨_,e,_⟩=>(by cases e),fun⟨_,e,_⟩=>(by cases e)⟩
  |some u =>
   cases GA md xs []with
   |none=>exact propext ⟨fun⟨_,e,_⟩=>(by cases e),fun⟨_,e,_⟩=>(by cases e)⟩
   |some ts=>exact propext ⟨fun⟨_,e,k⟩=>by cases e;exact⟨_,rfl,k⟩,fun⟨_,e,k⟩=>by cases e;exact⟨_,rfl,k⟩⟩
 have oa:∀t,ρ[j]?=some (some (.own t))->vB [j] ρ=some [t]:=fun t e=>by unfold vB;rw[e];rfl
 have s1:∀(x:T) (n:Bool) (ρ1:yA) (M:List (T×Bool)->yA->Prop),sqA x n Ψ (.ng (.var j) as) E (.chg::md) ρ1 M=sqA x n Ψ as E md ρ1 fun xs ρ2=>M ((.d .none,true)::xs) ρ2:=by intro x n ρ1 M;have ac:∀(ρ1:yA) (M:List (T×Bool)->yA->Prop),((pe Ψ (.ng (.var j) as) E).a (.chg::md) ρ1 M)=(pe Ψ as E).a md ρ1 fun xs ρ2=>M ((.d .none,true)::xs) ρ2:=fun ρ1 M=>propext ⟨fun h=>h.2,fun h=>⟨rfl,h⟩⟩;unfold sqA sq;simp only[ac]
 have ac:∀(os:List T),((pe Ψ (.ng a (.ng (.var j) as)) E).a (.nq::.chg::md) (clear [j] ρ) fun xs ρ1=>∃ts,GA (.nq::.chg::md) xs os=some ts/\p.run ts (fun r os'=>∃t',os'=[t']/\K r true (ρ1.set j (some (.own t')))) E)=(tB Ψ a E (ρ.set j none) fun x n ρ1=>sqA x n Ψ as E md ρ1 fun xs ρ2=>∃ts,GA (.nq::.chg::md) ((x,n)::(.d .none,true)::xs) os=some ts/\p.run ts (fun r os'=>∃t',os'=[t']/\K r true (ρ2.set j (some (.own t')))) E):=fun os=>by show(tB Ψ a E (ρ.set j none) fun x n ρ1=>sqA x n Ψ (.ng (.var j) as) E (.chg::md) ρ1 fun xs ρ2=>∃ts,GA (.nq::.chg::md) ((x,n)::xs) os=some ts/\p.run ts (fun r os'=>∃t',os'=[t']/\K r true (ρ2.set j (some (.own t')))) E)=_;simp only[s1]
 simp only[ac]
 match e:ρ[j]? with
 |some (some (.own t))=>show _=(tB Ψ a E (ρ.set j none) fun x n ρ1=>sqA x n Ψ as E md ρ1 fun xs ρ2=>nC (.nq::md) ((x,n)::xs) fun ts=>mC p (ins1 t ts) (fun r os=>∃t',os=[t']/\K r true (ρ2.set j (some (.own t')))) E);rw[oa t e];have:=fun x n xs (ρ1:yA)=>pa t x n xs fun ts=>p.run ts (fun r os'=>∃t',os'=[t']/\K r true (ρ1.set j (some (.own t')))) E;refine propext ⟨fun⟨_,e,_,k⟩=>?_,fun k=>⟨_,rfl,by simp,?_⟩⟩;cases e;simp only[this]at k;exact k;simp only[this];exact k
 |some (some (.nj t))=>exact propext ⟨fun⟨_,z,_⟩=>(by unfold vB at z;rw[e]at z;cases z),fun k=>k.elim⟩
 |some none=>exact propext ⟨fun⟨_,z,_⟩=>(by unfold vB at z;rw[e]at z;cases z),fun k=>k.elim⟩
 |none=>exact propext ⟨fun⟨_,z,_⟩=>(by unfold vB at z;rw[e]at z;cases z),fun k=>k.elim⟩
noncomputable def cellD(ns:List Int)(k:Int):Int:=if 0<(ns.length:Int) then ns.getD (k % (ns.length:Int)).toNat 0 else 0
noncomputable def bA(ns:List Int)(k:Int):Int:=(cellD ns k+k+1) * (91343852333181432387730302044767688731+7919000003 * k * k) % 170141183460469231731687303715884105727
theorem drawI_0(ns:List Int)(k:Int):0<=bA ns k:=Qx _ (by decide)
def AA(ns:List Int):Prop:=ns.length<=63/\∀n∈ns,qK n<=1048576
theorem cellD_bits{ns:List Int}(h:AA ns)(k:Int):qK (cellD ns k)<=1048576:=by
 unfold cellD;split;rw[Qp];cases e:ns[(k % (ns.length:Int)).toNat]? with
 |none=>decide
 |some v=>exact h.2 v (qP e)
 decide
noncomputable abbrev NB(ns:List Int):T:=.lst ((ns.map PyData.int).map T.d)
noncomputable def HC:PSp where
 md:=[.nq]
 run:=fun ds Q _=>∃(ns:List Int) (k:Int),ds=[NB ns,.d (.int k)]/\AA ns/\(0<=k/\k<=1000000)/\Q (.d (.int (bA ns k))) []
 mono:=fun h _ z=>by obtain⟨p,w,e,l,c,q⟩:=z;exact⟨p,w,e,l,c,h _ _ q⟩
theorem run_draw{ns:List Int}{k:Int}{K:T->List T->Prop}{E:XE}(b:AA ns)(h0:0<=k)(h1:k<=1000000)(q:K (.d (.int (bA ns k))) []):mC HC [NB ns,.d (.int k)] K E:=⟨ns,k,rfl,b,⟨h0,h1⟩,q⟩
theorem draw_r1{Ψ:PEv}{ns:List Int}{k c:Int}(hc:qK c<=1048576)(h0:0<=k)(h1:k<=1000000){Q:T->List T->Prop}(o3:Option Sl)(q:Q (.d (.int ((c+k+1) * (91343852333181432387730302044767688731+7919000003 * k * k) % 170141183460469231731687303715884105727))) []) :
  nA Ψ (fun _=>False) b_l_draw_r1 (eZ Q) [some (.nj (NB ns)),some (.nj (.d (.int k))),some (.nj (.d (.int c))),o3]:=by
 delta b_l_draw_r1;simp?[↓lA];have hb:qK (c+k+1)<=1048578:=by have:=intBits_add_le (intBits_add_le hc (show qK k<=64 from QBL (by omega) (by omega))) (show qK 1<=64 by decide);omega
 refine⟨CMul.ok (.inr ⟨by omega,by omega⟩),CMul.ok (.inr ⟨by omega,by omega⟩),IntMulOk.of_le (n:=256) hb ?_ (by decide),q⟩;have h2:0<=k * k:=Int.mul_nonneg h0 h0;have h3:k * k<=1000000 * 1000000:=Int.mul_le_mul h1 h1 h0 (by decide);rw[intBits_le_iff,Int.mul_assoc];have:(2:Nat) ^ 256=115792089237316195423570985008687907853269984665640564039457584007913129639936:=by decide
 rw[this];omega
theorem ok_draw{Ψ:PEv}(ds Q E)(h:HC.run ds Q E):ds.length=ps_l_draw.length/\nA Ψ (fun _=>False) b_l_draw (DA HC ps_l_draw.length Q) (uA N_l_draw HC.md ds):=by
 obtain⟨ns,k,rfl,hb,⟨h0,h1⟩,q⟩:=h;refine kA [some (.nj (NB ns)),some (.nj (.d (.int k))),none,none] rfl rfl rfl ?_;have hc:=cellD_bits hb k;delta b_l_draw;simp?[QG];unfold bA at q;unfold cellD at q hc;refine ite2 (fun c=>?_) fun c=>?_;have c:0<(ns.length:Int):=by simpa using c
 rw[if_pos c]at q hc;obtain⟨v,e1,e2⟩:=atI_pos (xs:=ns) (i:=k % (ns.length:Int)) (Qx _ (by omega)) (Qq _ c);rw[Qp,e2]at q hc;refine⟨c,optP.mk (a:=.int v) (by rw[atI_map,e1];rfl) ?_⟩;refine draw_r1 (ns:=ns) (c:=v) hc h0 h1 _ q;have c:¬ 0<(ns.length:Int):=by simpa using c
 rw[if_neg c]at q hc;refine draw_r1 (ns:=ns) (c:=0) hc h0 h1 _ q
noncomputable abbrev atT(a:Int):T:=.lst ([PyData.int a].map T.d)
theorem st_at{d e:D}{Q:T->Prop}:stT (.lst ([d].map T.d)) (T.d (.int 0)).er (T.d e).er Q=Q (.lst ([e].map T.d)) :=
 propext ⟨fun⟨_,_,n,e1,e2,e3,q⟩=>by cases e1;cases e2;cases e3;exact q,fun q=>⟨_,_,0,rfl,rfl,rfl,q⟩⟩
noncomputable def eC(Q:T->List T->Prop):PEnds:={ nx:=fun ρ=>outV (vB [1] ρ) (Q (.d .none)),rt:=fun t ρ=>outV (vB [1] ρ) (Q t) }
theorem begin_okc{Ψ:PEv}{b:PT}{p:PSp}{N ps:List Str}{ds:List T}{Q:T->List T->Prop}(ρ:yA)(hl:ds.length=ps.length)(hc:cC 0 p.md ps.length=[1])(hs:uA N p.md ds=ρ)(h:nA Ψ (fun _=>False) b (eC Q) ρ):ds.length=ps.length/\nA Ψ (fun _=>False) b (DA p ps.length Q) (uA N p.md ds):=by
 have e:DA p ps.length Q=eC Q:=by unfold DA;rw[hc];rfl
 rw[e,hs];exact⟨hl,h⟩
theorem eC_rt{Q:T->List T->Prop}{t u:T}{o:Option Sl}{σ:yA}:(eC Q).rt t (o::some (.own u)::σ)=Q t [u]:=rfl
noncomputable def YB:PSp where
 md:=[.nq,.chg]
 run:=fun ds Q _=>∃(ns:List Int) (a:Int),ds=[NB ns,atT a]/\AA ns/\(0<=a/\a<1000000)/\Q (.d (.int (bA ns (a+1)))) [atT (a+1)]
 mono:=fun h _ z=>by obtain⟨p,w,e,l,c,q⟩:=z;exact⟨p,w,e,l,c,h _ _ q⟩
theorem run_next{ns:List Int}{a:Int}{K:T->List T->Prop}{E:XE}(b:AA ns)(h0:0<=a)(h1:a<1000000)(q:K (.d (.int (bA ns (a+1)))) [atT (a+1)]):mC YB [NB ns,atT a] K E:=⟨ns,a,rfl,b,⟨h0,h1⟩,q⟩
theorem ok_next{Ψ:PEv}(h1:Ψ.sp "_law_draw"=HC)(ds Q E)(h:YB.run ds Q E):ds.length=ps_l_next.length/\nA Ψ (fun _=>False) b_l_next (DA YB ps_l_next.length Q) (uA N_l_next YB.md ds):=by obtain⟨ns,a,rfl,hb,⟨h0,h1'⟩,q⟩:=h;refine begin_okc [some (.nj (NB ns)),some (.own (atT a))] rfl rfl rfl ?_;delta b_l_next;simp?[↓oA (md:=[.nq]) h1 rfl rfl,↓at0,↓st_at,↓eC_rt];refine run_draw hb (by omega) (by omega) ?_;simp?[↓eC_rt];exact q
noncomputable def letC(n:Int):Nat:=97+(n % 26).toNat
noncomputable def sgn(c:Nat):Str:=⟨#[c]⟩
theorem letters_at(n:Int):uC JC.cps.toList (n % 26)=some (letC n):=by
 have hl:JC.cps.toList.length=26:=by rw[cD];simp
 obtain⟨v,e1,e2⟩:=atI_pos (xs:=JC.cps.toList) (i:=n % 26) (by omega) (by rw[hl];omega);rw[e1];rw[cD,Qd,wX (by omega)]at e2;have e2:(n % 26).toNat+97=v:=by simpa using e2
 unfold letC;rw[<- e2,Nat.add_comm]
theorem slice_to{x:Str}{j:Int}(h0:0<=j)(h1:j<=x.length):WY x none (some j)=⟨(x.cps.toList.take j.toNat).toArray⟩:=by show QBj x none (some j)=_;rw[StrLaws.sliceText_to ⟨h0,by rw[Qg];exact h1⟩,QA0,Int.sub_zero]
theorem slice_from{x:Str}{j:Int}(h0:0<=j)(h1:j<=x.length):WY x (some j) none=⟨(x.cps.toList.drop j.toNat).toArray⟩:=by show QBj x (some j) none=_;rw[StrLaws.sliceText_from ⟨h0,by rw[Qg];exact h1⟩,qf (by simp;omega)]
theorem join_sgn(l:List Nat):WL (QD "") (l.map sgn)=⟨l.toArray⟩:=by
 have key:∀l:List Nat,(Wy (QD "") (l.map sgn)).cps.toList=l:=by
  intro l;induction l with
  |nil=>rfl
  |cons x l ih =>
   cases l with
   |nil=>rfl
   |cons y r =>
    have e:Wy (QD "") ((x::y::r).map sgn)=sgn x++QD ""++Wy (QD "") ((y::r).map sgn):=rfl;have e0:(QD "").cps=#[]:=by decide +kernel
    rw[e];show((sgn x).cps++(QD "").cps++(Wy (QD "") ((y::r).map sgn)).cps).toList=_;rw[wa,ih,e0];simp[sgn]
 rw[tjoin];exact str_ext (by rw[key l])
noncomputable def bas(seed:Int):List Nat:=(Qc (2+seed % 6).toNat).map fun(j:Nat)=>letC (seed / 42+(j:Int) * (j:Int) * (seed / 1100 % 5))
noncomputable def spot(seed:Int):Int:=seed / 6 % (2+seed % 6 - 1)
noncomputable def nmC(seed k:Int):List Nat:=(bas seed).take (spot seed).toNat++[letC (seed / 7+k / 26),letC (seed / 3+k)]++(bas seed).drop ((spot seed).toNat+2)
noncomputable def nm0(seed k:Int):Str:=⟨(nmC seed k).toArray⟩
noncomputable def nmS(seed k:Int):Str:=if nm0 seed k∈keys then nm0 seed k++"z" else nm0 seed k
noncomputable def aC:PSp where
 md:=[]
 run:=fun ds Q _=>∃(s k:Int),ds=[.d (.int s),.d (.int k)]/\(0<=s/\s<2 ^ 60)/\(0<=k/\k<676)/\Q (.d (.str (nmS s k))) []
 mono:=fun h _ z=>by obtain⟨p,w,e,l,c,q⟩:=z;exact⟨p,w,e,l,c,h _ _ q⟩
theorem let_str:QD "abcdefghijklmnopqrstuvwxyz"=JC:=by decide +kernel
theorem letC_r(n:Int):97<=letC n/\letC n<=122:=by unfold letC;omega
theorem word_of{w:Str}(h1:1<=w.length)(h2:w.length<=8)(h:∀c∈w.cps.toList,97<=c/\c<=122):gB w=true:=by unfold gB;rw[dT h1,dT h2];show madeOf w JC=true;unfold madeOf;rw[Qn];intro c hc;have:=h c hc;rw[decide_eq_true_eq,cD];exact Q8.mpr ⟨c - 97,qQ.mpr (by omega),by omega⟩
theorem spot_r{s:Int}(s0:0<=s):0<=spot s/\spot s+2<=2+s % 6:=by unfold spot;have p0:0<=s / 6 % (2+s % 6 - 1):=Qx _ (by omega);have p1:s / 6 % (2+s % 6 - 1)<2+s % 6 - 1:=Qq _ (by omega);omega
theorem nmC_len{s k:Int}(s0:0<=s):(nmC s k).length=(2+s % 6).toNat:=by
 have hb:(bas s).length=(2+s % 6).toNat:=by simp[bas]
 obtain⟨p0,p1⟩:=spot_r s0;unfold nmC;rw[QK,QK,wb,qa,hb];simp only[QL,wL];omega
theorem nm0_len{s k:Int}(s0:0<=s):(nm0 s k).length=(2+s % 6).toNat:=by show(nmC s k).toArray.size=_;rw[QO,nmC_len s0]
theorem nmC_r(s k:Int):∀c∈nmC s k,97<=c/\c<=122:=by
 intro c hc;have hb:∀c∈bas s,97<=c/\c<=122:=fun c hc=>by obtain⟨j,_,rfl⟩:=Q8.mp hc;exact letC_r _
 unfold nmC at hc;rcases qH.mp hc with hc|hc;rcases qH.mp hc with hc|hc
 ·exact hb c (QAs hc)
 rcases QI.mp hc with rfl|hc
 ·exact letC_r _
 rw[Qz.mp hc];exact letC_r _;exact hb c (QAt hc)
theorem keys_z:∀x∈keys,¬ (x++QD "z")∈keys:=by decide +kernel
theorem name_of{w:Str}(h:gB w=true)(n:¬ w∈keys):VA w=true:=by unfold VA;rw[h,any_str,dF n];rfl
theorem nmS_name{s k:Int}(s0:0<=s):VA (nmS s k)=true:=by
 have hl:=nm0_len (k:=k) s0;have zl:(QD "z").length=1:=by decide +kernel
 unfold nmS;split;rename_i hk;refine name_of (word_of (by rw[Q2,hl];omega) (by rw[Q2,hl,zl];omega) fun c hc=>?_) (keys_z _ hk);have hc:c∈((nm0 s k).cps++(QD "z").cps).toList:=hc;rw[wa]at hc;rcases qH.mp hc with hc|hc;exact nmC_r s k c (by simpa[nm0]using hc);have:(QD "z").cps.toList=[122]:=by decide +kernel
 rw[this]at hc;rw[Qz.mp hc];omega;rename_i hk;exact name_of (word_of (by rw[hl];omega) (by rw[hl];omega) fun c hc=>nmC_r s k c (by simpa[nm0]using hc)) hk
theorem nm0_inj{s k j:Int}(s0:0<=s)(k0:0<=k)(k1:k<676)(j0:0<=j)(j1:j<676)(h:nm0 s k=nm0 s j):k=j:=by
 have h:nmC s k=nmC s j:=by have:=congrArg (fun z:Str=>z.cps.toList) h;simpa[nm0]using this
 unfold nmC at h;rw[qN,qN]at h;have h:=List.append_cancel_left h;have h:=QAG h;simp only[qj,and_true]at h;obtain⟨h1,h2⟩:=h;unfold letC at h1 h2;have q1:(s / 7+k / 26) % 26=(s / 7+j / 26) % 26:=by omega
 have q2:(s / 3+k) % 26=(s / 3+j) % 26:=by omega
 have m:∀a x y:Int,0<=x->x<26->0<=y->y<26->(a+x) % 26=(a+y) % 26->x=y:=fun a x y _ _ _ _ e=>by omega
 have r1:k / 26=j / 26:=m (s / 7) _ _ (by omega) (by omega) (by omega) (by omega) q1;have ek:s / 3+k=s / 3+26 * (k / 26)+k % 26:=by omega
 have ej:s / 3+j=s / 3+26 * (k / 26)+j % 26:=by omega
 rw[ek,ej]at q2;have r2:k % 26=j % 26:=m _ _ _ (by omega) (by omega) (by omega) (by omega) q2;omega
theorem nmS_inj{s k j:Int}(s0:0<=s)(k0:0<=k)(k1:k<676)(j0:0<=j)(j1:j<676)(h:nmS s k=nmS s j):k=j:=by
 have hk:=nm0_len (k:=k) s0;have hj:=nm0_len (k:=j) s0;have zl:(QD "z").length=1:=by decide +kernel
 unfold nmS at h;split at h<;>split at h;refine nm0_inj s0 k0 k1 j0 j1 (str_ext ?_);have:=congrArg (fun z:Str=>z.cps.toList) h;have this:((nm0 s k).cps++(QD "z").cps).toList=((nm0 s j).cps++(QD "z").cps).toList:=this;rw[wa,wa]at this;exact QAG this;have:=congrArg QBZ h;rw[Q2]at this;omega;have:=congrArg QBZ h;rw[Q2]at this;omega;exact nm0_inj s0 k0 k1 j0 j1 h
theorem E_slc_v{Ψ:PEv}{E:XE}{ρ:yA}{K:TK}{a:PX}{i:Nat}:tB Ψ (.slc a .nop (.var i)) E ρ K=tB Ψ a E ρ fun x n ρ1=>sq (α:=Option Int) (vA x n) ρ1 (fun ρ R=>tB Ψ (.var i) E ρ fun l _ ρ2=>partD l.er fun o=>R o ρ2) fun u ρ2=>slcV x n none u fun z k=>K z k ρ2:=by
 show(pe Ψ a E).e ρ (fun x n ρ1=>sq (α:=Option Int) (vA x n) ρ1 (fun ρ (R:Option Int->yA->Prop)=>R none ρ) fun l ρ2=>sq (α:=Option Int) (vA x n) ρ2 (fun ρ R=>(pe Ψ (.var i) E).e ρ fun l _ ρ2=>partD l.er fun o=>R o ρ2) fun u ρ3=>slcT (vA x n).vw l u fun z k=>K z k ρ3)=_;have:∀(x:T) (n:Bool) (ρ1:yA) (C:Option Int->yA->Prop),(sq (α:=Option Int) (vA x n) ρ1 (fun ρ (R:Option Int->yA->Prop)=>R none ρ) C)=C none ρ1:=by intro x n ρ1 C;unfold sq;split<;>rfl
 simp only[this];rfl
theorem run_name{s k:Int}{K:T->List T->Prop}{E:XE}(s0:0<=s)(s1:s<2 ^ 60)(k0:0<=k)(k1:k<676)(q:K (.d (.str (nmS s k))) []):mC aC [.d (.int s),.d (.int k)] K E:=⟨s,k,rfl,⟨s0,s1⟩,⟨k0,k1⟩,q⟩
theorem ok_name{Ψ:PEv}(h1:Ψ.sp "_law_keywords"=sB)(ds Q E)(h:aC.run ds Q E):ds.length=ps_l_name.length/\nA Ψ (fun _=>False) b_l_name (DA aC ps_l_name.length Q) (uA N_l_name aC.md ds):=by
 obtain⟨s,k,rfl,⟨s0,s1⟩,⟨k0,k1⟩,q⟩:=h;refine kA [some (.nj (.d (.int s))),some (.nj (.d (.int k))),none,none,none,none,none] rfl rfl rfl ?_;have hz:sizeLine=16777216:=QZ;have ll:JC.length=26:=by decide +kernel
 delta b_l_name;simp?[let_str,ll];refine⟨by omega,by omega,by omega,?_⟩;refine kD (fun(j:Nat)=>T.d (.int (j:Int))) (fun(j:Nat)=>T.d (.str (sgn (letC (s / 42+(j:Int) * (j:Int) * (s / 1100 % 5)))))) (Qc (2+s % 6).toNat) [] _ (fun j hj R hR=>?_) (by simp;omega) ?_;have hj:=qQ.mp hj;simp?[ll];have j2:(j:Int)<=8:=by omega
 have j3:(j:Int) * (j:Int)<=8 * 8:=Int.mul_le_mul j2 j2 (by omega) (by decide);exact⟨CMul.ok (.inr ⟨by omega,by omega⟩),CMul.ok (.inr ⟨by omega,by omega⟩),by omega,optP.mk (letters_at _) hR⟩;have eb:(Qc (2+s % 6).toNat).map (fun(j:Nat)=>T.d (PyData.str (sgn (letC (s / 42+(j:Int) * (j:Int) * (s / 1100 % 5))))))=(((bas s).map sgn).map PyData.str).map T.d:=by simp[bas]
 rw[Q3,eb];have hb:(bas s).length=(2+s % 6).toNat:=by simp[bas]
 have hbl:(⟨(bas s).toArray⟩:Str).length=(2+s % 6).toNat:=by show(bas s).toArray.size=_;rw[QO,hb]
 have l0:(QD "").length=0:=by decide +kernel
 have eu:=keys_flat;simp?[join_sgn,l0,ll,letters_at,↓E_slc_v,↓E_slc_b,↓sq_D,↓pt_i',↓oA (md:=[]) h1 rfl rfl,↓run_keywords];have p0:0<=s / 6 % (2+s % 6 - 1):=Qx _ (by omega);have p1:s / 6 % (2+s % 6 - 1)<2+s % 6 - 1:=Qq _ (by omega);have e1:=slice_to (x:=⟨(bas s).toArray⟩) p0 (by rw[hbl];omega);have e2:=slice_from (x:=⟨(bas s).toArray⟩) (j:=s / 6 % (2+s % 6 - 1)+2) (by omega) (by rw[hbl];omega);have ew:WY ⟨(bas s).toArray⟩ none (some (s / 6 % (2+s % 6 - 1)))++((⟨#[letC (s / 7+k / 26)]⟩:Str)++(⟨#[letC (s / 3+k)]⟩:Str))++WY ⟨(bas s).toArray⟩ (some (s / 6 % (2+s % 6 - 1)+2)) none=nm0 s k:=by
  rw[e1,e2];apply str_ext;show(((List.take _ _).toArray++(#[letC (s / 7+k / 26)]++#[letC (s / 3+k)]))++(List.drop _ _).toArray).toList=(nmC s k).toArray.toList;have et:(s / 6 % (2+s % 6 - 1)+2).toNat=(spot s).toNat+2:=by unfold spot;omega
  rw[et];simp[nmC,spot]
 have l1:=QBs ⟨(bas s).toArray⟩ none (some (s / 6 % (2+s % 6 - 1)));have l2:=QBs ⟨(bas s).toArray⟩ (some (s / 6 % (2+s % 6 - 1)+2)) none;rw[hbl]at l1 l2;have s1l:∀c:Nat,(⟨#[c]⟩:Str).length=1:=fun _=>rfl;have zl:(QD "z").length=1:=by decide +kernel
 have nl:(nm0 s k).length<=30:=by rw[<- ew,Q2,Q2,Q2,s1l,s1l];omega
 refine⟨?_,by omega,by omega,by rw[s1l,s1l];omega,by rw[hbl];omega,by rw[Q2,s1l,s1l];omega,by rw[hbl];omega,by rw[Q2,Q2,s1l,s1l];omega,?_⟩;have:=sum_le (fun z:Str=>z.length) 1 ((bas s).map sgn) (fun z hz=>by obtain⟨c,_,rfl⟩:=Q8.mp hz;exact QX 1);rw[QG]at this ⊢;omega;rw[ew,any_str];refine⟨.inl ⟨rfl,flat_strs _⟩,?_⟩;unfold nmS at q;delta b_l_name_r1;simp?[↓lA];by_cases hk:nm0 s k∈keys;rw[if_pos hk]at q;rw[dT hk,if_pos rfl];exact⟨by rw[zl];omega,q⟩;rw[if_neg hk]at q;rw[dF hk,if_neg (by simp)];exact q
theorem insAt_map{α β:Type}(f:α->β)(l:List α)(k:Nat)(y:α):insAt (l.map f) k (f y)=(insAt l k y).map f:=by unfold insAt;rw[Q6,QS,List.map_take,List.map_drop]
theorem insAt_len{α:Type}(l:List α)(k:Nat)(y:α):(insAt l k y).length=l.length+1:=by unfold insAt;rw[QK,QL,wb,qa];omega
theorem insAt_mem{α:Type}{l:List α}{k:Nat}{x y:α}:x∈insAt l k y↔x=y∨x∈l:=by
 unfold insAt;rw[qH,QI];constructor;rintro(h|rfl|h)
 ·exact .inr (QAs h)
 exact .inl rfl;exact .inr (QAt h);rintro(rfl|h)
 ·exact .inr (.inl rfl)
 rw[<- QAm k l]at h;rcases qH.mp h with h|h;exact .inl h;exact .inr (.inr h)
noncomputable abbrev PA:=LSS×Int
noncomputable def mAt(ms:List Str)(i:Nat):Str:=ms.getD i (sgn 0)
noncomputable def agP(ns:List Int)(ms:List Str)(j k:Nat)(n:Int):Str×Str:=if n / 3 % 2=0 then(mAt ms j,mAt ms k) else(mAt ms k,mAt ms j)
noncomputable def ag1(ns:List Int)(ms:List Str)(j:Nat)(st:PA)(k:Nat):PA :=
 (if 0<bA ns (st.2+1) % 3 then insAt st.1 (bA ns (st.2+1) / 9 % ((st.1.length:Int)+1)).toNat (agP ns ms j k (bA ns (st.2+1))) else st.1,st.2+1)
noncomputable def ag2(ns:List Int)(ms:List Str)(st:PA)(j:Nat):PA:=(Qc j).foldl (ag1 ns ms j) st
noncomputable def agS(ns:List Int)(ms:List Str)(a:Int):PA:=(Qc ms.length).foldl (ag2 ns ms) ([],a)
noncomputable abbrev prT(l:LSS):T:=.lst ((l.map aD).map T.d)
noncomputable abbrev msT(ms:List Str):T:=.lst ((ms.map PyData.str).map T.d)
noncomputable def vC:PSp where
 md:=[.nq,.chg,.nq]
 run:=fun ds Q _=>∃(ns:List Int) (a:Int) (ms:List Str),ds=[NB ns,atT a,msT ms]/\AA ns/\(0<=a/\a<=100)/\ms.length<=6/\Q (prT (agS ns ms a).1) [atT (agS ns ms a).2]
 mono:=fun h _ z=>by obtain⟨p,w,m,e,l,c,o,q⟩:=z;exact⟨p,w,m,e,l,c,o,h _ _ q⟩
theorem run_against{ns:List Int}{a:Int}{ms:List Str}{K:T->List T->Prop}{E:XE}(b:AA ns)(h0:0<=a)(h1:a<=100)(h2:ms.length<=6)(q:K (prT (agS ns ms a).1) [atT (agS ns ms a).2]):mC vC [NB ns,atT a,msT ms] K E:=⟨ns,a,ms,rfl,b,⟨h0,h1⟩,h2,q⟩
theorem mAt_at{ms:List Str}{i:Nat}(h:i<ms.length):uC (ms.map PyData.str) (i:Int)=some (.str (mAt ms i)):=by
 have e:(ms.map PyData.str)[i]?=some (.str (mAt ms i)):=by rw[Qd,qT h];unfold mAt;rw[Qp,qT h];rfl
 exact ZB e
noncomputable def agSt(ns:List Int)(ms:List Str)(st:PA)(o4 o5 o6 o7:Option Sl):yA:=[some (.nj (NB ns)),some (.own (atT st.2)),some (.nj (msT ms)),some (.own (prT st.1)),o4,o5,o6,o7]
theorem against_1{Ψ:PEv}(h1:Ψ.sp "_law_next"=YB){Z:PEnds}{ns:List Int}{ms:List Str}{st:PA}{j k:Nat}(hb:AA ns)(a0:0<=st.2)(a1:st.2<=1000)(hl:st.1.length<=st.2.toNat)(hj:j<ms.length)(hk:k<ms.length)(o6 o7:Option Sl)
  (q:∀o6 o7,Z.nx (agSt ns ms (ag1 ns ms j st k) (some (.nj (.d (.int (j:Int))))) (some (.nj (.d (.int (k:Int))))) o6 o7)) :
  nA Ψ (fun _=>False) mD Z (agSt ns ms st (some (.nj (.d (.int (j:Int))))) (some (.nj (.d (.int (k:Int))))) o6 o7):=by
 have hz:sizeLine=16777216:=QZ;have ej:=mAt_at hj;have ek:=mAt_at hk;delta agSt;delta mD;simp?[↓E_call2 (md:=[]) h1 rfl rfl,ej,ek];refine run_next hb a0 (by omega) ⟨_,rfl,?_⟩;have eg:uC [PyData.tuple [.str (mAt ms j),.str (mAt ms k)],.tuple [.str (mAt ms k),.str (mAt ms j)]] (bA ns (st.2+1) / 3 % 2)=some (aD (agP ns ms j k (bA ns (st.2+1)))):=by unfold agP;rcases(show bA ns (st.2+1) / 3 % 2=0∨bA ns (st.2+1) / 3 % 2=1 by omega) with e|e;rw[e,if_pos rfl];rfl;rw[e,if_neg (by decide)];rfl
 simp?[ej,ek,eg];refine⟨by omega,by omega,by omega,?_⟩;have q:=q (some (.nj (.d (.int (bA ns (st.2+1)))))) (some (.nj (.d (aD (agP ns ms j k (bA ns (st.2+1)))))));simp only[QG];refine ite2 (fun c=>?_) fun c=>?_;have c:0<bA ns (st.2+1) % 3:=by simpa using c
 have e1:ag1 ns ms j st k=(insAt st.1 (bA ns (st.2+1) / 9 % ((st.1.length:Int)+1)).toNat (agP ns ms j k (bA ns (st.2+1))),st.2+1):=by unfold ag1;rw[if_pos c]
 have p0:=Qx (bA ns (st.2+1) / 9) (show((st.1.length:Int)+1)≠0 by omega);have p1:=Qq (bA ns (st.2+1) / 9) (show 0<((st.1.length:Int)+1) by omega);refine⟨by omega,p0,by omega,by omega,?_⟩;rw[e1]at q;delta agSt prT at q;simp only[<- insAt_map]at q;exact q;have c:¬ 0<bA ns (st.2+1) % 3:=by simpa using c
 have e1:ag1 ns ms j st k=(st.1,st.2+1):=by unfold ag1;rw[if_neg c]
 rw[e1]at q;exact q
theorem ag1_a(ns:List Int)(ms:List Str)(j:Nat)(st:PA)(k:Nat):(ag1 ns ms j st k).2=st.2+1:=rfl
theorem ag1_len{ns:List Int}{ms:List Str}{j:Nat}{st:PA}{k:Nat}(a0:0<=st.2)(h:st.1.length<=st.2.toNat):(ag1 ns ms j st k).1.length<=(ag1 ns ms j st k).2.toNat:=by rw[ag1_a];unfold ag1;split;rw[insAt_len];omega;show st.1.length<=_;omega
theorem against_2{Ψ:PEv}(h1:Ψ.sp "_law_next"=YB){Z:PEnds}{ns:List Int}{ms:List Str}{st:PA}{j:Nat}(hb:AA ns)(a0:0<=st.2)(a1:st.2+(j:Int)<=1000)(hl:st.1.length<=st.2.toNat)(hj:j<ms.length)(h6:ms.length<=6)(o5 o6 o7:Option Sl)
  (q:∀o4 o5 o6 o7,(ag2 ns ms st j).1.length<=(ag2 ns ms st j).2.toNat->(ag2 ns ms st j).2=st.2+(j:Int)->Z.nx (agSt ns ms (ag2 ns ms st j) o4 o5 o6 o7)) :
  nA Ψ (fun _=>False) lD Z (agSt ns ms st (some (.nj (.d (.int (j:Int))))) o5 o6 o7):=by
 delta agSt;delta lD;simp?[↓lA];refine⟨by omega,by omega,?_⟩;refine for_inv (fun(i:Nat)=>T.d (.int (i:Int))) (fun l ρ=>∃(s2:PA) (o5 o6 o7:Option Sl),l.foldl (ag1 ns ms j) s2=ag2 ns ms st j/\0<=s2.2/\s2.2+(l.length:Int)=st.2+(j:Int)/\s2.1.length<=s2.2.toNat/\(∀i∈l,i<j)/\ρ=agSt ns ms s2 (some (.nj (.d (.int (j:Int))))) o5 o6 o7) ?_ ?_ _ _ ⟨st,o5,o6,o7,rfl,a0,by simp,hl,fun i hi=>qQ.mp hi,rfl⟩;rintro ρ ⟨s2,o5,o6,o7,e,b0,b1,b2,_,rfl⟩;have e:s2=ag2 ns ms st j:=e;subst e;exact q _ _ _ _ b2 (by simpa using b1);rintro k l ρ N hN ⟨s2,o5,o6,o7,e,b0,b1,b2,b3,rfl⟩;have hk:=b3 k QM;simp only[QL]at b1;show nA Ψ (fun _=>False) mD _ (agSt ns ms s2 (some (.nj (.d (.int (j:Int))))) (some (.nj (.d (.int (k:Int))))) o6 o7);refine against_1 h1 hb b0 (by omega) b2 hj (by omega) _ _ fun o6 o7=>?_;exact hN _ ⟨_,_,_,_,e,by rw[ag1_a];omega,by rw[ag1_a];omega,ag1_len b0 b2,fun i hi=>b3 i (QJ _ hi),rfl⟩
theorem ok_against{Ψ:PEv}(h1:Ψ.sp "_law_next"=YB)(ds Q E)(h:vC.run ds Q E):ds.length=ps_l_against.length/\nA Ψ (fun _=>False) b_l_against (DA vC ps_l_against.length Q) (uA N_l_against vC.md ds):=by obtain⟨ns,a,ms,rfl,hb,⟨a0,a1⟩,hm,q⟩:=h;refine begin_okc [some (.nj (NB ns)),some (.own (atT a)),some (.nj (msT ms)),none,none,none,none,none] rfl rfl rfl ?_;have hz:sizeLine=16777216:=QZ;delta b_l_against;simp?[QG];refine⟨by omega,by omega,by omega,?_⟩;refine for_inv (fun(i:Nat)=>T.d (.int (i:Int))) (fun l ρ=>∃(s2:PA) (o4 o5 o6 o7:Option Sl),l.foldl (ag2 ns ms) s2=agS ns ms a/\0<=s2.2/\s2.2+((l.length * 6:Nat):Int)<=140/\s2.1.length<=s2.2.toNat/\(∀i∈l,i<ms.length)/\ρ=agSt ns ms s2 o4 o5 o6 o7) ?_ ?_ _ _ ⟨([],a),none,none,none,none,rfl,a0,by simp;omega,by simp,fun i hi=>qQ.mp hi,rfl⟩;rintro ρ ⟨s2,o4,o5,o6,o7,e,b0,b1,b2,_,rfl⟩;have e:s2=agS ns ms a:=e;subst e;exact q;rintro j l ρ N hN ⟨s2,o4,o5,o6,o7,e,b0,b1,b2,b3,rfl⟩;have hj:=b3 j QM;simp only[QL]at b1;show nA Ψ (fun _=>False) lD _ (agSt ns ms s2 (some (.nj (.d (.int (j:Int))))) o5 o6 o7);refine against_2 h1 hb b0 (by omega) b2 hj hm _ _ _ fun o4 o5 o6 o7 c1 c2=>?_;exact hN _ ⟨_,_,_,_,_,e,by omega,by omega,c1,fun i hi=>b3 i (QJ _ hi),rfl⟩
theorem compE_inv{α:Type}{e:yA->TK->Prop}{Q:List D->yA->Prop}(g:α->T)(W:List α->List D->yA->Prop)(h0:∀acc ρ,W [] acc ρ->acc.length<=sizeLine/\Q acc ρ)
  (hs:∀x xs acc ρ (N:D->yA->Prop),W (x::xs) acc ρ->(∀d ρ',W xs (acc++[d]) ρ'->N d ρ')->e (some (.nj (g x))::ρ) fun y n ρ3=>esc y n=true/\acc.length<sizeLine/\N y.er (ρ3.drop 1)):∀(xs:List α) (acc:List D) (ρ:yA),W xs acc ρ->compE (.nm 0) 1 e (xs.map g) acc ρ Q
 |[],acc,ρ,w=>h0 acc ρ w
 |x::xs,acc,ρ,w=>hs x xs acc ρ (fun d ρ'=>compE (.nm 0) 1 e (xs.map g) (acc++[d]) ρ' Q) w fun d ρ' w'=>compE_inv g W h0 hs xs (acc++[d]) ρ' w'
noncomputable def zI(n:Int):Int:=if n / 7 % 2=0 then 0 else 999999999
noncomputable def tmI(n:Int):Int:=if n % 4=0 then n / 7 % 5 else if n % 4=1 then n / 7 % 60 else if n % 4=2 then n / 7 % 10 ^ 9 else zI n
theorem zI_at(n:Int):uC [PyData.int 0,.int 999999999] (n / 7 % 2)=some (.int (zI n)):=by unfold zI;rcases(show n / 7 % 2=0∨n / 7 % 2=1 by omega) with e|e;rw[e,if_pos rfl];rfl;rw[e,if_neg (by decide)];rfl
theorem tmI_at(n:Int):uC [PyData.int (n / 7 % 5),.int (n / 7 % 60),.int (n / 7 % 10 ^ WN 9),.int (zI n)] (n % 4)=some (.int (tmI n)):=by unfold tmI;rcases(show n % 4=0∨n % 4=1∨n % 4=2∨n % 4=3 by omega) with e|e|e|e;rw[e,if_pos rfl];rfl;rw[e,if_neg (by decide),if_pos rfl];rfl;rw[e,if_neg (by decide),if_neg (by decide),if_pos rfl];rfl;rw[e,if_neg (by decide),if_neg (by decide),if_neg (by decide)];rfl
theorem tmI_r{n:Int}(h:0<=n):0<=tmI n/\tmI n<=999999999:=by
 unfold tmI zI;have e:(10:Int) ^ 9=1000000000:=by decide
 rw[e]
 repeat' split
 all_goals omega
noncomputable def kAt(i:Int):Str:=keys.getD i.toNat (sgn 0)
noncomputable def wdS(n:Int):Str:=if n / 20 % 6=0 then kAt (n / 10 ^ 6 % 19) else nmS (n / 10 ^ 6 % 10 ^ 12) 3
noncomputable def pAt(ps:List P4)(i:Int):P4:=ps.getD i.toNat (sgn 0,0,0,0)
theorem pAt_at{ps:List P4}{i:Int}(h0:0<=i)(h1:i<(ps.length:Int)):uC (ps.map pD) i=some (pD (pAt ps i)):=by obtain⟨v,e1,e2⟩:=atI_pos (xs:=ps) h0 h1;rw[atI_map,e1];unfold pAt;rw[Qp,e2];rfl
theorem pAt_mem{ps:List P4}{i:Int}(h0:0<=i)(h1:i<(ps.length:Int)):pAt ps i∈ps:=by obtain⟨v,e1,e2⟩:=atI_pos (xs:=ps) h0 h1;unfold pAt;rw[Qp,e2];exact qP e2
theorem mAt_at'{ms:List Str}{i:Int}(h0:0<=i)(h1:i<(ms.length:Int)):uC (ms.map PyData.str) i=some (.str (mAt ms i.toNat)):=by
 have:=mAt_at (ms:=ms) (i:=i.toNat) (by omega)
 rwa [show((i.toNat:Nat):Int)=i by omega]at this
theorem kAt_at{i:Int}(h0:0<=i)(h1:i<19):uC (keys.map PyData.str) i=some (.str (kAt i)):=by obtain⟨v,e1,e2⟩:=atI_pos (xs:=keys) (i:=i) h0 (by show i<19;exact h1);rw[atI_map,e1];unfold kAt;rw[Qp,e2];rfl
noncomputable def quI(n:Int):Nat:=[0,0,1,2,6,3].getD (n / 12 % 6).toNat 0
theorem quI_at(n:Int):uC [PyData.int 0,.int 0,.int 1,.int 2,.int 6,.int 3] (n / 12 % 6)=some (.int (quI n:Int)):=by unfold quI;rcases(show n / 12 % 6=0∨n / 12 % 6=1∨n / 12 % 6=2∨n / 12 % 6=3∨n / 12 % 6=4∨n / 12 % 6=5 by omega) with e|e|e|e|e|e<;>rw[e]<;>rfl
theorem quI_le(n:Int):quI n<=6:=by unfold quI;rcases(show n / 12 % 6=0∨n / 12 % 6=1∨n / 12 % 6=2∨n / 12 % 6=3∨n / 12 % 6=4∨n / 12 % 6=5 by omega) with e|e|e|e|e|e<;>rw[e]<;>decide
noncomputable def qI(n m:Int):Int:=(n / 100 % m+1+n / 10 ^ 4 % (m - 1)) % m
noncomputable def byS(ns:List Int)(a:Int)(ps:List P4)(k:Nat):List Str:=(Qc k).map fun(i:Nat)=>(pAt ps (bA ns (a+(i:Int)+1) % (ps.length:Int))).1
noncomputable def evS(ns:List Int)(a:Int)(ps:List P4)(ms:List Str):Ev×Int :=
 if ps.length=1∨bA ns (a+1) / 4 % 3=0 then(.see (tmI (bA ns (a+1))) (pAt ps (bA ns (a+1) / 100 % (ps.length:Int))).1 (mAt ms (bA ns (a+1) / 1000 % (ms.length:Int)).toNat) (wdS (bA ns (a+1))),a+1)
 else(.tell (tmI (bA ns (a+1))) (pAt ps (bA ns (a+1) / 100 % (ps.length:Int))).1 (pAt ps (qI (bA ns (a+1)) (ps.length:Int))).1 (mAt ms (bA ns (a+1) / 1000 % (ms.length:Int)).toNat) (wdS (bA ns (a+1))) (byS ns (a+1) ps (quI (bA ns (a+1)))),a+1+(quI (bA ns (a+1)):Int))
noncomputable abbrev psD(ps:List P4):D:=.list (ps.map pD)
noncomputable abbrev msD(ms:List Str):D:=.list (ms.map PyData.str)
noncomputable def oD:PSp where
 md:=[.nq,.chg]
 run:=fun ds Q _=>∃(ns:List Int) (a:Int) (ps:List P4) (ms:List Str),ds=[NB ns,atT a,.d (psD ps),.d (msD ms)]/\AA ns/\(0<=a/\a<=10000)/\0<ps.length/\ps.length<=10/\0<ms.length/\ms.length<=6/\Q (.d (eD (evS ns a ps ms).1)) [atT (evS ns a ps ms).2]
 mono:=fun h _ z=>by obtain⟨p,w,m,x,e,l,c,o,o1,o2,o3,q⟩:=z;exact⟨p,w,m,x,e,l,c,o,o1,o2,o3,h _ _ q⟩
theorem run_event{ns:List Int}{a:Int}{ps:List P4}{ms:List Str}{K:T->List T->Prop}{E:XE}(b:AA ns)(h0:0<=a)(h1:a<=10000)(p0:0<ps.length)(p1:ps.length<=10)(m0:0<ms.length)(m1:ms.length<=6)(q:K (.d (eD (evS ns a ps ms).1)) [atT (evS ns a ps ms).2]):mC oD [NB ns,atT a,.d (psD ps),.d (msD ms)] K E:=⟨ns,a,ps,ms,rfl,b,⟨h0,h1⟩,p0,p1,m0,m1,q⟩
noncomputable def zD(ns:List Int)(a:Int)(ps:List P4)(ms:List Str)(o4 o5 o6 o7 o8 o9 o10 o11 o12:Option Sl):yA:=[some (.nj (NB ns)),some (.own (atT a)),some (.nj (.d (psD ps))),some (.nj (.d (msD ms))),o4,o5,o6,o7,o8,o9,o10,o11,o12]
noncomputable abbrev sI(n:Int):Option Sl:=some (.nj (.d (.int n)))
noncomputable abbrev sS(z:Str):Option Sl:=some (.nj (.d (.str z)))
section
variable{Ψ:PEv}{Z:PEnds}{r:PT}{ns:List Int}{a n:Int}{ps:List P4}{ms:List Str}{o4 o5 o6 o7 o8 o9 o10 o11 o12:Option Sl}
theorem ev_0(h1:Ψ.sp "_law_next"=YB)(hb:AA ns)(a0:0<=a)(a1:a<=20000)(k:nA Ψ (fun _=>False) r Z (zD ns (a+1) ps ms (sI (bA ns (a+1))) o5 o6 o7 o8 o9 o10 o11 o12)):nA Ψ (fun _=>False) (.seq (.set 4 (.call "_law_next" (.ng (.var 0) (.ng (.var 1) .nh)))) r) Z (zD ns a ps ms o4 o5 o6 o7 o8 o9 o10 o11 o12):=by delta zD;simp?[↓E_call2 (md:=[]) h1 rfl rfl];refine run_next hb a0 (by omega) ⟨_,rfl,?_⟩;simp?[↓lA];exact k
theorem ev_1(k:nA Ψ (fun _=>False) r Z (zD ns a ps ms (sI n) (sI (tmI n)) o6 o7 o8 o9 o10 o11 o12)):nA Ψ (fun _=>False) (.seq (.set 5 (.idx (.lst (.ng (.bin .Mod (.bin .FloorDiv (.var 4) (.int 7)) (.int 5)) (.ng (.bin .Mod (.bin .FloorDiv (.var 4) (.int 7)) (.int 60)) (.ng (.bin .Mod (.bin .FloorDiv (.var 4) (.int 7)) (.bin .Pow (.int 10) (.int 9))) (.ng (.idx (.lst (.ng (.int 0) (.ng (.int 999999999) .nh))) (.bin .Mod (.bin .FloorDiv (.var 4) (.int 7)) (.int 2))) .nh))))) (.bin .Mod (.var 4) (.int 4)))) r) Z (zD ns a ps ms (sI n) o5 o6 o7 o8 o9 o10 o11 o12):=by have hz:sizeLine=16777216:=QZ;delta zD;simp?[zI_at,tmI_at];exact⟨⟨by decide,by decide,by decide⟩,by decide,by omega,by omega,k⟩
theorem ev_2(p0:0<ps.length)(m0:0<ms.length)(k:nA Ψ (fun _=>False) r Z (zD ns a ps ms (sI n) o5 (sI (ps.length:Int)) (sI (n / 100 % (ps.length:Int))) (sS (mAt ms (n / 1000 % (ms.length:Int)).toNat)) o9 o10 o11 o12)):nA Ψ (fun _=>False) (.seq (.set 6 (.bi .len (.ng (.var 2) .nh)))
  (.seq (.set 7 (.bin .Mod (.bin .FloorDiv (.var 4) (.int 100)) (.var 6)))
  (.seq (.set 8 (.idx (.var 3) (.bin .Mod (.bin .FloorDiv (.var 4) (.int 1000)) (.bi .len (.ng (.var 3) .nh))))) r))) Z (zD ns a ps ms (sI n) o5 o6 o7 o8 o9 o10 o11 o12):=by
 have e1:=mAt_at' (ms:=ms) (i:=n / 1000 % (ms.length:Int)) (Qx _ (by omega)) (Qq _ (by omega));delta zD;simp?[QG,e1];exact⟨by omega,by omega,k⟩
theorem ev_5(h1:Ψ.sp "_law_name"=aC)(h2:Ψ.sp "_law_keywords"=sB)(k:nA Ψ (fun _=>False) r Z (zD ns a ps ms (sI n) o5 o6 o7 o8 (sS (wdS n)) o10 o11 o12)):nA Ψ (fun _=>False) (.seq (.set 9 (.idx (.lst (.ng (.call "_law_name" (.ng (.bin .Mod (.bin .FloorDiv (.var 4) (.bin .Pow (.int 10) (.int 6))) (.bin .Pow (.int 10) (.int 12))) (.ng (.int 3) .nh))) (.ng (.idx (.call "_law_keywords" .nh) (.bin .Mod (.bin .FloorDiv (.var 4) (.bin .Pow (.int 10) (.int 6))) (.int 19))) .nh))) (.bi .int (.ng (.cmp .Eq (.bin .Mod (.bin .FloorDiv (.var 4) (.int 20)) (.int 6)) (.int 0)) .nh)))) r) Z (zD ns a ps ms (sI n) o5 o6 o7 o8 o9 o10 o11 o12):=by
 have hz:sizeLine=16777216:=QZ;delta zD;simp?[↓oA (md:=[]) h1 rfl rfl];refine⟨⟨by decide,by decide,by decide⟩,by decide,by decide,⟨by decide,by decide,by decide⟩,by decide,?_⟩;have e6:(10:Int) ^ WN 12=1000000000000:=by decide
 refine run_name (Qx _ (by decide)) (by rw[e6];omega) (by decide) (by decide) ?_;have ek:=kAt_at (i:=n / 10 ^ WN 6 % 19) (by omega) (by omega);have ew:uC [PyData.str (nmS (n / 10 ^ WN 6 % 10 ^ WN 12) 3),.str (kAt (n / 10 ^ WN 6 % 19))] (if decide (n / 20 % 6=0)=true then 1 else 0)=some (.str (wdS n)):=by unfold wdS;by_cases c:n / 20 % 6=0;rw[if_pos c,if_pos (dT c)];rfl;rw[if_neg c,if_neg (by simpa using c)];rfl
 simp?[↓oA (md:=[]) h2 rfl rfl,↓run_keywords,ek,ew];exact⟨⟨by decide,by decide,by decide⟩,by decide,by decide,by omega,k⟩
end
theorem range_drop{n j x:Nat}{xs:List Nat}(h:(Qc n).drop j=x::xs):x=j/\j<n/\xs=(Qc n).drop (j+1):=by
 have hl:((Qc n).drop j).length=xs.length+1:=by rw[h];rfl
 rw[qa,qG]at hl;have hj:j<n:=by omega
 have e:=W6 (l:=Qc n) (i:=j) (by simpa using hj);rw[e]at h;obtain⟨h1,h2⟩:=QAO h;rw[List.getElem_range]at h1;exact⟨h1.symm,hj,h2.symm⟩
theorem range_end{n j:Nat}(h:[]=(Qc n).drop j)(hj:j<=n):j=n:=by have:=congrArg w6 h;rw[wL,qa,qG]at this;omega
section
variable{Ψ:PEv}{r:PT}{ns:List Int}{a n t:Int}{ps:List P4}{ms:List Str}{f w:Str}{o10 o11 o12:Option Sl}{Q:T->List T->Prop}
theorem x_pD{p:P4}{n m:Bool}{R:T->Prop}:idxV (.d (pD p)) n (.d (.int 0)) m R=R (.d (.str p.1)):=by delta pD;rw[x_td,at0,optP_s]
theorem mk_5{a b c d e:D}:mkTup [.d a,.d b,.d c,.d d,.d e]=.d (.tuple [a,b,c,d,e]):=rfl
theorem mk_7{a b c d e f g:D}:mkTup [.d a,.d b,.d c,.d d,.d e,.d f,.d g]=.d (.tuple [a,b,c,d,e,f,g]):=rfl
theorem ev_6(p0:0<ps.length)(hs:ps.length=1∨n / 4 % 3=0->Q (.d (eD (.see t (pAt ps (n / 100 % (ps.length:Int))).1 f w))) [atT a])
  (k:¬ (ps.length=1∨n / 4 % 3=0)->nA Ψ (fun _=>False) r (eC Q) (zD ns a ps ms (sI n) (sI t) (sI (ps.length:Int)) (sI (n / 100 % (ps.length:Int))) (sS f) (sS w) o10 o11 o12)) :
  nA Ψ (fun _=>False) (.seq (.ife (.or (.cmp .Eq (.var 6) (.int 1)) (.cmp .Eq (.bin .Mod (.bin .FloorDiv (.var 4) (.int 4)) (.int 3)) (.int 0))) (.seq (.ret (.tup (.ng (.str "see") (.ng (.var 5) (.ng (.idx (.idx (.var 2) (.var 7)) (.int 0)) (.ng (.var 8) (.ng (.var 9) .nh))))))) .nil) .nil) r) (eC Q) (zD ns a ps ms (sI n) (sI t) (sI (ps.length:Int)) (sI (n / 100 % (ps.length:Int))) (sS f) (sS w) o10 o11 o12):=by
 have hz:sizeLine=16777216:=QZ;have ep:=pAt_at (ps:=ps) (i:=n / 100 % (ps.length:Int)) (Qx _ (by omega)) (Qq _ (by omega));delta zD at k ⊢;simp?[ep,↓x_pD,mk_5,↓eC_rt];refine ite2 (fun c=>⟨by omega,hs (.inl (by have:=of_decide_eq_true c;omega))⟩) fun c=>ite2 (fun d=>⟨by omega,hs (.inr (by simpa using d))⟩) fun d=>k fun e=>?_;rcases e with e|e;exact c (dT (by omega));exact d (dT e)
theorem ev_7(p1:2<=ps.length){o5 o8 o9:Option Sl}{Z:PEnds}(k:nA Ψ (fun _=>False) r Z (zD ns a ps ms (sI n) o5 (sI (ps.length:Int)) (sI (n / 100 % (ps.length:Int))) o8 o9 (sI (qI n (ps.length:Int))) (sI (quI n:Int)) o12)) :
  nA Ψ (fun _=>False) (.seq (.set 10 (.bin .Mod (.bin .Add (.bin .Add (.var 7) (.int 1)) (.bin .Mod (.bin .FloorDiv (.var 4) (.bin .Pow (.int 10) (.int 4))) (.bin .Sub (.var 6) (.int 1)))) (.var 6))) (.seq (.set 11 (.idx (.lst (.ng (.int 0) (.ng (.int 0) (.ng (.int 1) (.ng (.int 2) (.ng (.int 6) (.ng (.int 3) .nh))))))) (.bin .Mod (.bin .FloorDiv (.var 4) (.int 12)) (.int 6)))) r)) Z (zD ns a ps ms (sI n) o5 (sI (ps.length:Int)) (sI (n / 100 % (ps.length:Int))) o8 o9 o10 o11 o12):=by
 have hz:sizeLine=16777216:=QZ;delta zD;simp?[quI_at];exact⟨⟨by decide,by decide,by decide⟩,by decide,by decide,by omega,by omega,by omega,k⟩
theorem ev_9(h1:Ψ.sp "_law_next"=YB)(hb:AA ns)(a0:0<=a)(a1:a<=20000)(p0:0<ps.length){c:Nat}(hc:c<=6){o4 o5 o7 o8 o9:Option Sl}{Z:PEnds}
  (k:nA Ψ (fun _=>False) r Z (zD ns (a+(c:Int)) ps ms o4 o5 (sI (ps.length:Int)) o7 o8 o9 o10 (sI (c:Int)) (some (.nj (.d (.list ((byS ns a ps c).map PyData.str))))))) :
  nA Ψ (fun _=>False) (.seq (.set 12 (.eff (.comp [] ["_law_j"] (.nm 0) .rng1 (.ng (.var 11) .nh) .nop (.idx (.idx (.var 3) (.bin .Mod (.call "_law_next" (.ng (.var 1) (.ng (.var 2) .nh))) (.var 7))) (.int 0))))) r) Z (zD ns a ps ms o4 o5 (sI (ps.length:Int)) o7 o8 o9 o10 (sI (c:Int)) o12):=by
 have hz:sizeLine=16777216:=QZ;delta zD;simp?[E_eff];refine⟨rfl,rfl,rfl,by omega,by omega,?_⟩;rw[show((c:Int)).toNat=c by omega];refine compE_inv (fun(i:Nat)=>T.d (.int (i:Int))) (fun xs acc ρ=>∃i:Nat,i<=c/\xs=(Qc c).drop i/\acc=(byS ns a ps i).map PyData.str/\ρ=zD ns (a+(i:Int)) ps ms o4 o5 (sI (ps.length:Int)) o7 o8 o9 o10 (sI (c:Int)) o12) ?_ ?_ _ _ _ ⟨0,by omega,rfl,rfl,by rw[show a+((0:Nat):Int)=a by omega];rfl⟩;rintro acc ρ ⟨i,hi,e,rfl,rfl⟩;have:=range_end e hi;subst this;refine⟨?_,k⟩;unfold byS;rw[QG,QG,qG];omega;rintro x xs acc ρ N ⟨i,hi,e,rfl,rfl⟩ hN;obtain⟨rfl,hj,rfl⟩:=range_drop e.symm;have ep:=pAt_at (ps:=ps) (i:=bA ns (a+(x:Int)+1) % (ps.length:Int)) (Qx _ (by omega)) (Qq _ (by omega));show tB Ψ _ (fun _=>False) (some (.nj (.d (.int (x:Int))))::zD ns (a+(x:Int)) ps ms o4 o5 (sI (ps.length:Int)) o7 o8 o9 o10 (sI (c:Int)) o12) _;delta zD;simp?[↓E_call2 (md:=[]) h1 rfl rfl];refine run_next hb (by omega) (by omega) ⟨_,rfl,?_⟩;simp?[ep,↓x_pD];refine⟨by omega,?_,hN _ _ ⟨x+1,by omega,rfl,?_,?_⟩⟩;unfold byS;rw[QG,QG,qG];omega;unfold byS;rw[Wp,Q6,Q6];rfl;rw[show a+((x+1:Nat):Int)=a+(x:Int)+1 by omega];rfl
theorem ev_10(p0:0<ps.length){b:List Str}{i j:Int}(i0:0<=i)(i1:i<(ps.length:Int))(j0:0<=j)(j1:j<(ps.length:Int)){o4 o6 o11:Option Sl}(k:Q (.d (eD (.tell t (pAt ps i).1 (pAt ps j).1 f w b))) [atT a]) :
  nA Ψ (fun _=>False) (.seq (.ret (.tup (.ng (.str "tell") (.ng (.var 5) (.ng (.idx (.idx (.var 2) (.var 7)) (.int 0)) (.ng (.idx (.idx (.var 2) (.var 10)) (.int 0)) (.ng (.var 8) (.ng (.var 9) (.ng (.bi .tuple (.ng (.var 12) .nh)) .nh))))))))) .nil) (eC Q) (zD ns a ps ms o4 (sI t) o6 (sI i) (sS f) (sS w) (sI j) o11 (some (.nj (.d (.list (b.map PyData.str)))))):=by
 have hz:sizeLine=16777216:=QZ;have ei:=pAt_at i0 i1;have ej:=pAt_at j0 j1;delta zD;simp?[ei,ej,↓x_pD,mk_7,↓eC_rt];exact⟨by omega,k⟩
end
theorem ok_event{Ψ:PEv}(h1:Ψ.sp "_law_next"=YB)(h2:Ψ.sp "_law_keywords"=sB)(h3:Ψ.sp "_law_name"=aC)(ds Q E)(h:oD.run ds Q E):ds.length=ps_l_event.length/\nA Ψ (fun _=>False) b_l_event (DA oD ps_l_event.length Q) (uA N_l_event oD.md ds):=by
 obtain⟨ns,a,ps,ms,rfl,hb,⟨a0,a1⟩,p0,p1,m0,m1,q⟩:=h;refine begin_okc (zD ns a ps ms none none none none none none none none none) rfl rfl rfl ?_;unfold evS at q;refine ev_0 h1 hb a0 (by omega) (ev_1 (ev_2 p0 m0 (ev_5 h3 h2 (ev_6 p0 (fun c=>?_) fun c=>?_))));rw[if_pos c]at q;exact q;rw[if_neg c]at q;have p2:2<=ps.length:=by by_cases e:ps.length=1;exact absurd (.inl e) c;omega
 refine ev_7 p2 (ev_9 h1 hb (by omega) (by omega) p0 (quI_le _) (ev_10 p0 (Qx _ (by omega)) (Qq _ (by omega)) (Qx _ (by omega)) (Qq _ (by omega)) q))
noncomputable def rnI(m:Int):Int:=if m / 10 ^ 4 % 3=0 then 0 else if m / 10 ^ 4 % 3=1 then m / 100 % 100 else 99
theorem rnI_at(m:Int):uC [PyData.int 0,.int (m / 100 % 100),.int 99] (m / 10 ^ WN 4 % 3)=some (.int (rnI m)):=by unfold rnI;show uC _ (m / 10 ^ 4 % 3)=_;rcases(show m / 10 ^ 4 % 3=0∨m / 10 ^ 4 % 3=1∨m / 10 ^ 4 % 3=2 by omega) with e|e|e;rw[e,if_pos rfl];rfl;rw[e,if_neg (by decide),if_pos rfl];rfl;rw[e,if_neg (by decide),if_neg (by decide)];rfl
noncomputable def p4(s m:Int)(j:Nat):P4:=(nmS s (j:Int),m % 100,rnI m,1+m / 10 ^ 5 % 4)
noncomputable def psW(ns:List Int)(s:Int)(c:Nat):List P4:=(Qc c).map fun(j:Nat)=>p4 s (bA ns (1+(j:Int)+1)) j
noncomputable def mI(n:Int)(j:Nat):Int:=if(n / 60+(j:Int)) % 2=0 then(j:Int) else 50+(j:Int)
theorem mI_at(n:Int)(j:Nat):uC [PyData.int (j:Int),.int (50+(j:Int))] ((n / 60+(j:Int)) % 2)=some (.int (mI n j)):=by unfold mI;rcases(show(n / 60+(j:Int)) % 2=0∨(n / 60+(j:Int)) % 2=1 by omega) with e|e;rw[e,if_pos rfl];rfl;rw[e,if_neg (by decide)];rfl
noncomputable def msW(s n:Int):List Str:=(Qc (1+n / 10 % 6).toNat).map fun(j:Nat)=>nmS s (mI n j)
noncomputable def evL(ns:List Int)(a:Int)(ps:List P4)(ms:List Str):Nat->List Ev×Int
 |0=>([],a)
 |k+1=>((evL ns a ps ms k).1++[(evS ns (evL ns a ps ms k).2 ps ms).1],(evS ns (evL ns a ps ms k).2 ps ms).2)
noncomputable def seedW(ns:List Int):Int:=bA ns 0 % 10 ^ 12
noncomputable def nW(ns:List Int):Int:=bA ns (0+1)
noncomputable def cW(ns:List Int):Nat:=(1+nW ns % 10).toNat
noncomputable def kW(ns:List Int):Int:=if nW ns / 100 % 8=1 then 80 else nW ns / 1000 % 26
noncomputable def peopleW(ns:List Int):List P4:=psW ns (seedW ns) (cW ns)
noncomputable def KB(ns:List Int):List Str:=msW (seedW ns) (nW ns)
noncomputable def againstW(ns:List Int):PA:=agS ns (KB ns) (1+(cW ns:Int))
noncomputable def eventsW(ns:List Int):List Ev×Int:=evL ns (againstW ns).2 (peopleW ns) (KB ns) (kW ns).toNat
noncomputable def worldD(ns:List Int):D:=.tuple [psD (peopleW ns),msD (KB ns),.list ((againstW ns).1.map aD),.list ((eventsW ns).1.map eD)]
noncomputable def sp_world:PSp where
 md:=[.nq]
 run:=fun ds Q _=>∃(ns:List Int),ds=[NB ns]/\AA ns/\Q (.d (worldD ns)) []
 mono:=fun h _ z=>by obtain⟨p,e,l,q⟩:=z;exact⟨p,e,l,h _ _ q⟩
theorem run_world{ns:List Int}{K:T->List T->Prop}{E:XE}(b:AA ns)(q:K (.d (worldD ns)) []):mC sp_world [NB ns] K E:=⟨ns,rfl,b,q⟩
noncomputable def wS(ns:List Int)(o1 o2 o3 o4 o5 o6 o7 o8 o9 o10:Option Sl):yA:=[some (.nj (NB ns)),o1,o2,o3,o4,o5,o6,o7,o8,o9,o10]
noncomputable abbrev sA(a:Int):Option Sl:=some (.own (atT a))
theorem seedW_r(ns:List Int):0<=seedW ns/\seedW ns<1000000000000:=by
 unfold seedW;have e:(10:Int) ^ 12=1000000000000:=by decide
 rw[e];omega
theorem cW_r(ns:List Int):1<=cW ns/\cW ns<=10:=by unfold cW;omega
theorem psW_len(ns:List Int)(s:Int)(c:Nat):(psW ns s c).length=c:=by unfold psW;rw[QG,qG]
theorem msW_len(s n:Int):1<=(msW s n).length/\(msW s n).length<=6:=by unfold msW;rw[QG,qG];omega
section
variable{Ψ:PEv}{Z:PEnds}{r:PT}{ns:List Int}{a n s:Int}{o1 o2 o3 o4 o5 o6 o7 o8 o9 o10:Option Sl}
theorem w_0(k:nA Ψ (fun _=>False) r Z (wS ns (sA 0) o2 o3 o4 o5 o6 o7 o8 o9 o10)):nA Ψ (fun _=>False) (.seq (.own 1 (.lst (.ng (.int 0) .nh))) r) Z (wS ns o1 o2 o3 o4 o5 o6 o7 o8 o9 o10):=by have hz:sizeLine=16777216:=QZ;delta wS;simp?[↓lA];exact⟨by omega,k⟩
theorem w_1(h1:Ψ.sp "_law_draw"=HC)(hb:AA ns)(k:nA Ψ (fun _=>False) r Z (wS ns o1 (sI (seedW ns)) o3 o4 o5 o6 o7 o8 o9 o10)):nA Ψ (fun _=>False) (.seq (.set 2 (.bin .Mod (.call "_law_draw" (.ng (.var 0) (.ng (.int 0) .nh))) (.bin .Pow (.int 10) (.int 12)))) r) Z (wS ns o1 o2 o3 o4 o5 o6 o7 o8 o9 o10):=by delta wS;simp?[↓oA (md:=[.nq]) h1 rfl rfl];refine run_draw hb (by decide) (by decide) ?_;simp?[↓lA];exact⟨⟨by decide,by decide,by decide⟩,by decide,k⟩
theorem w_2(h1:Ψ.sp "_law_next"=YB)(hb:AA ns)(k:nA Ψ (fun _=>False) r Z (wS ns (sA 1) o2 (sI (nW ns)) (some (.own (.lst []))) o5 o6 o7 o8 o9 o10)):nA Ψ (fun _=>False) (.seq (.set 3 (.call "_law_next" (.ng (.var 0) (.ng (.var 1) .nh)))) (.seq (.own 4 (.lst .nh)) r)) Z (wS ns (sA 0) o2 o3 o4 o5 o6 o7 o8 o9 o10):=by have hz:sizeLine=16777216:=QZ;delta wS;simp?[↓E_call2 (md:=[]) h1 rfl rfl];refine run_next hb (by decide) (by decide) ⟨_,rfl,?_⟩;simp?[↓lA];exact⟨by omega,k⟩
noncomputable abbrev pT(ps:List P4):T:=.lst ((ps.map pD).map T.d)
theorem w_3a(h1:Ψ.sp "_law_next"=YB)(h2:Ψ.sp "_law_name"=aC)(hb:AA ns){ps:List P4}{j:Nat}(s0:0<=s)(s1:s<1000000000000)(a0:0<=a)(a1:a<=1000)(hj:j<=600)(hp:ps.length<=600)(k:∀o6,Z.nx (wS ns (sA (a+1)) (sI s) o3 (some (.own (pT (ps++[p4 s (bA ns (a+1)) j])))) (sI (j:Int)) o6 o7 o8 o9 o10)):nA Ψ (fun _=>False) YD Z (wS ns (sA a) (sI s) o3 (some (.own (pT ps))) (sI (j:Int)) o6 o7 o8 o9 o10):=by
 have hz:sizeLine=16777216:=QZ;have em:=rnI_at (bA ns (a+1));delta wS at k ⊢;delta YD;simp?[↓E_call2 (md:=[]) h1 rfl rfl];refine run_next hb a0 (by omega) ⟨_,rfl,?_⟩;simp?[↓oA (md:=[]) h2 rfl rfl];refine run_name s0 (by omega) (by omega) (by omega) ?_;simp?[em];have k:=k (sI (bA ns (a+1)));have ep:pT (ps++[p4 s (bA ns (a+1)) j])=.lst ((ps.map pD).map T.d++[.d (pD (p4 s (bA ns (a+1)) j))]):=by simp
 rw[ep]at k;exact⟨by omega,⟨by decide,by decide,by decide⟩,by decide,by decide,⟨by decide,by decide,by decide⟩,by decide,by decide,by omega,by simp only[QG];omega,k⟩
theorem w_3(h1:Ψ.sp "_law_next"=YB)(h2:Ψ.sp "_law_name"=aC)(hb:AA ns)(s0:0<=s)(s1:s<1000000000000)(k:∀o5 o6,nA Ψ (fun _=>False) r Z (wS ns (sA (1+((1+n % 10).toNat:Int))) (sI s) (sI n) (some (.own (pT (psW ns s (1+n % 10).toNat)))) o5 o6 o7 o8 o9 o10)):nA Ψ (fun _=>False) (.seq (.for_ (.nm 5) .rng1 (.ng (.bin .Add (.int 1) (.bin .Mod (.var 3) (.int 10))) .nh) YD) r) Z (wS ns (sA 1) (sI s) (sI n) (some (.own (.lst []))) o5 o6 o7 o8 o9 o10):=by delta wS;simp?[↓lA];refine⟨by omega,by omega,?_⟩;refine for_inv (fun(i:Nat)=>T.d (.int (i:Int))) (fun l ρ=>∃(i:Nat) (o5 o6:Option Sl),i<=(1+n % 10).toNat/\l=(Qc (1+n % 10).toNat).drop i/\ρ=wS ns (sA (1+(i:Int))) (sI s) (sI n) (some (.own (pT (psW ns s i)))) o5 o6 o7 o8 o9 o10) ?_ ?_ _ _ ⟨0,o5,o6,by omega,rfl,rfl⟩;rintro ρ ⟨i,o5,o6,hi,e,rfl⟩;have:=range_end e hi;subst this;exact k _ _;rintro x xs ρ N hN ⟨i,o5,o6,hi,e,rfl⟩;obtain⟨rfl,hj,rfl⟩:=range_drop e.symm;show nA Ψ (fun _=>False) YD _ (wS ns (sA (1+(x:Int))) (sI s) (sI n) (some (.own (pT (psW ns s x)))) (sI (x:Int)) o6 o7 o8 o9 o10);refine w_3a h1 h2 hb s0 s1 (by omega) (by omega) (by omega) (by rw[psW_len];omega) fun o6=>hN _ ⟨x+1,sI (x:Int),o6,by omega,rfl,?_⟩;rw[show 1+((x+1:Nat):Int)=1+(x:Int)+1 by omega];unfold psW;rw[Wp,Q6];rfl
theorem w_4(h2:Ψ.sp "_law_name"=aC){ps:List P4}(s0:0<=s)(s1:s<1000000000000)(k:nA Ψ (fun _=>False) r Z (wS ns o1 (sI s) (sI n) (some (.nj (.d (psD ps)))) o5 o6 (some (.nj (.d (msD (msW s n))))) o8 o9 o10)):nA Ψ (fun _=>False) (.seq (.frz [4] (.set 7 (.comp [false,false,false,false,false,true] ["_law_j"] (.nm 0) .rng1 (.ng (.bin .Add (.int 1) (.bin .Mod (.bin .FloorDiv (.var 3) (.int 10)) (.int 6))) .nh) .nop (.call "_law_name" (.ng (.var 3) (.ng (.idx (.lst (.ng (.var 0) (.ng (.bin .Add (.int 50) (.var 0)) .nh))) (.bin .Mod (.bin .Add (.bin .FloorDiv (.var 4) (.int 60)) (.var 0)) (.int 2))) .nh)))))) r) Z (wS ns o1 (sI s) (sI n) (some (.own (pT ps))) o5 o6 o7 o8 o9 o10):=by
 have hz:sizeLine=16777216:=QZ;delta wS;rw[S_frz];have ef:frzAt [4] [some (.nj (NB ns)),o1,sI s,sI n,some (.own (pT ps)),o5,o6,o7,o8,o9,o10]=[some (.nj (NB ns)),o1,sI s,sI n,some (.nj (.d (psD ps))),o5,o6,o7,o8,o9,o10]:=by
  have:(pT ps).er=psD ps:=by simp only[T.er,oC]
  rw[<- this];rfl
 rw[ef];simp?[↓lA];refine⟨by omega,by omega,?_⟩;refine kD (fun(j:Nat)=>T.d (.int (j:Int))) (fun(j:Nat)=>T.d (.str (nmS s (mI n j)))) (Qc (1+n / 10 % 6).toNat) [] _ (fun j hj R hR=>?_) (by simp;omega) ?_;have hj:=qQ.mp hj;have em:=mI_at n j;have r0:0<=mI n j/\mI n j<676:=by unfold mI;split<;>omega
 simp?[em,↓oA (md:=[]) h2 rfl rfl];exact⟨by omega,run_name s0 (by omega) r0.1 r0.2 ⟨rfl,hR⟩⟩;have e:(Qc (1+n / 10 % 6).toNat).map (fun(j:Nat)=>T.d (PyData.str (nmS s (mI n j))))=((msW s n).map PyData.str).map T.d:=by simp[msW]
 rw[Q3,e,K_l];exact k
theorem w_5(h1:Ψ.sp "_law_against"=vC)(hb:AA ns){ms:List Str}(a0:0<=a)(a1:a<=100)(hm:ms.length<=6)(k:nA Ψ (fun _=>False) r Z (wS ns (sA (agS ns ms a).2) o2 o3 o4 o5 o6 (some (.nj (.d (msD ms)))) (some (.nj (.d (.list ((agS ns ms a).1.map aD))))) o9 o10)):nA Ψ (fun _=>False) (.seq (.set 8 (.call "_law_against" (.ng (.var 0) (.ng (.var 1) (.ng (.var 7) .nh))))) r) Z (wS ns (sA a) o2 o3 o4 o5 o6 (some (.nj (.d (msD ms)))) o8 o9 o10):=by delta wS;simp?[↓E_call2 (md:=[.nq]) h1 rfl rfl,↓P_sd];refine run_against hb a0 a1 hm ⟨_,rfl,?_⟩;simp?[↓lA];exact k
theorem w_6(k:nA Ψ (fun _=>False) r Z (wS ns o1 o2 (sI n) o4 o5 o6 o7 o8 (sI (if n / 100 % 8=1 then 80 else n / 1000 % 26)) o10)):nA Ψ (fun _=>False) (.seq (.set 9 (.bin .Mod (.bin .FloorDiv (.var 3) (.int 1000)) (.int 26))) (.seq (.ife (.cmp .Eq (.bin .Mod (.bin .FloorDiv (.var 3) (.int 100)) (.int 8)) (.int 1)) (.seq (.set 9 (.int 80)) .nil) .nil) r)) Z (wS ns o1 o2 (sI n) o4 o5 o6 o7 o8 o9 o10):=by delta wS at k ⊢;simp?[↓lA];by_cases c:n / 100 % 8=1;rw[if_pos c]at k;rw[if_pos (dT c)];exact k;rw[if_neg c]at k;rw[if_neg (by simpa using c)];exact k
theorem evS_a{a:Int}{ps:List P4}{ms:List Str}:a+1<=(evS ns a ps ms).2/\(evS ns a ps ms).2<=a+7:=by
 have:=quI_le (bA ns (a+1));unfold evS;split;exact⟨by show a+1<=a+1;omega,by show a+1<=a+7;omega⟩;refine⟨?_,?_⟩
 ·show a+1<=a+1+(quI (bA ns (a+1)):Int)
  omega
 show a+1+(quI (bA ns (a+1)):Int)<=a+7;omega
theorem evL_a{a:Int}{ps:List P4}{ms:List Str}:∀k:Nat,a<=(evL ns a ps ms k).2/\(evL ns a ps ms k).2<=a+7 * (k:Int)
 |0=>⟨Int.le_refl _,by show a<=_;omega⟩
 |k+1=>by have h:=evL_a (a:=a) (ps:=ps) (ms:=ms) k;have h2:=evS_a (ns:=ns) (a:=(evL ns a ps ms k).2) (ps:=ps) (ms:=ms);refine⟨?_,?_⟩;show a<=(evS ns (evL ns a ps ms k).2 ps ms).2;omega;show(evS ns (evL ns a ps ms k).2 ps ms).2<=_;omega
theorem evL_len{a:Int}{ps:List P4}{ms:List Str}:∀k:Nat,(evL ns a ps ms k).1.length=k
 |0=>rfl
 |k+1=>by show((evL ns a ps ms k).1++_).length=_;rw[QK,evL_len k];rfl
theorem w_7(h1:Ψ.sp "_law_event"=oD)(hb:AA ns){ps:List P4}{ms:List Str}{c:Int}(c0:0<=c)(c1:c<=80)(a0:0<=a)(a1:a<=200)(p0:0<ps.length)(p1:ps.length<=10)(m0:0<ms.length)(m1:ms.length<=6)(k:nA Ψ (fun _=>False) r Z (wS ns (sA (evL ns a ps ms c.toNat).2) o2 o3 (some (.nj (.d (psD ps)))) o5 o6 (some (.nj (.d (msD ms)))) o8 (sI c) (some (.nj (.d (.list ((evL ns a ps ms c.toNat).1.map eD))))))):nA Ψ (fun _=>False) (.seq (.set 10 (.eff (.comp [] ["_law_k"] (.nm 0) .rng1 (.ng (.var 9) .nh) .nop (.call "_law_event" (.ng (.var 1) (.ng (.var 2) (.ng (.var 5) (.ng (.var 8) .nh)))))))) r) Z (wS ns (sA a) o2 o3 (some (.nj (.d (psD ps)))) o5 o6 (some (.nj (.d (msD ms)))) o8 (sI c) o10):=by have hz:sizeLine=16777216:=QZ;delta wS;simp?[E_eff];refine⟨rfl,rfl,rfl,by omega,by omega,?_⟩;refine compE_inv (fun(i:Nat)=>T.d (.int (i:Int))) (fun xs acc ρ=>∃i:Nat,i<=c.toNat/\xs=(Qc c.toNat).drop i/\acc=(evL ns a ps ms i).1.map eD/\ρ=wS ns (sA (evL ns a ps ms i).2) o2 o3 (some (.nj (.d (psD ps)))) o5 o6 (some (.nj (.d (msD ms)))) o8 (sI c) o10) ?_ ?_ _ _ _ ⟨0,by omega,rfl,rfl,rfl⟩;rintro acc ρ ⟨i,hi,e,rfl,rfl⟩;have:=range_end e hi;subst this;refine⟨?_,k⟩;rw[QG,evL_len];omega;rintro x xs acc ρ N ⟨i,hi,e,rfl,rfl⟩ hN;obtain⟨rfl,hj,rfl⟩:=range_drop e.symm;have hl:=evL_a (ns:=ns) (a:=a) (ps:=ps) (ms:=ms) x;show tB Ψ _ (fun _=>False) (some (.nj (.d (.int (x:Int))))::wS ns (sA (evL ns a ps ms x).2) o2 o3 (some (.nj (.d (psD ps)))) o5 o6 (some (.nj (.d (msD ms)))) o8 (sI c) o10) _;delta wS;simp?[↓E_call2 (md:=[]) h1 rfl rfl];refine run_event hb (by omega) (by omega) p0 p1 m0 m1 ⟨_,rfl,?_,hN _ _ ⟨x+1,by omega,rfl,?_,rfl⟩⟩;rw[QG,evL_len];omega;show _=((evL ns a ps ms x).1++_).map eD;rw[Q6];rfl
theorem mk_4{a b c d:D}:mkTup [.d a,.d b,.d c,.d d]=.d (.tuple [a,b,c,d]):=rfl
theorem w_8{Q:T->List T->Prop}{d4 d7 d8 d10:D}(k:Q (.d (.tuple [d4,d7,d8,d10])) []):nA Ψ (fun _=>False) (.seq (.ret (.tup (.ng (.var 4) (.ng (.var 7) (.ng (.var 8) (.ng (.var 10) .nh)))))) .nil) (eZ Q) (wS ns o1 o2 o3 (some (.nj (.d d4))) o5 o6 (some (.nj (.d d7))) (some (.nj (.d d8))) o9 (some (.nj (.d d10)))):=by have hz:sizeLine=16777216:=QZ;delta wS;simp?[mk_4];exact⟨by omega,k⟩
end
theorem ag2_a(ns:List Int)(ms:List Str):∀(st:PA) (j:Nat),(ag2 ns ms st j).2=st.2+(j:Int):=by
 intro st j;unfold ag2;have:∀(l:List Nat) (st:PA),(l.foldl (ag1 ns ms j) st).2=st.2+(l.length:Int):=by
  intro l;induction l with
  |nil=>intro st;show st.2=_;simp
  |cons x l ih=>intro st;rw[wk,ih,ag1_a,QL];omega
 rw[this,qG]
theorem agS_a(ns:List Int)(ms:List Str)(a:Int)(hm:ms.length<=6):a<=(agS ns ms a).2/\(agS ns ms a).2<=a+36:=by
 have:∀(l:List Nat) (st:PA),(∀j∈l,j<=6)->st.2<=(l.foldl (ag2 ns ms) st).2/\(l.foldl (ag2 ns ms) st).2<=st.2+6 * (l.length:Int):=by
  intro l;induction l with
  |nil=>intro st _;exact⟨Int.le_refl _,by show st.2<=_;simp⟩
  |cons x l ih=>intro st h;have h1:=ih (ag2 ns ms st x) fun j hj=>h j (QJ _ hj);have h2:=h x QM;rw[ag2_a]at h1;rw[wk,QL];omega
 have h:=this (Qc ms.length) ([],a) fun j hj=>by have:=qQ.mp hj;omega
 rw[qG]at h;unfold agS;have e:(([],a):PA).2=a:=rfl;rw[e]at h;omega
theorem ok_world{Ψ:PEv}(h1:Ψ.sp "_law_draw"=HC)(h2:Ψ.sp "_law_next"=YB)(h3:Ψ.sp "_law_name"=aC)(h4:Ψ.sp "_law_against"=vC)(h5:Ψ.sp "_law_event"=oD)(ds Q E)(h:sp_world.run ds Q E):ds.length=ps_l_world.length/\nA Ψ (fun _=>False) b_l_world (DA sp_world ps_l_world.length Q) (uA N_l_world sp_world.md ds):=by obtain⟨ns,rfl,hb,q⟩:=h;obtain⟨s0,s1⟩:=seedW_r ns;obtain⟨c0,c1⟩:=cW_r ns;obtain⟨m0,m1⟩:=msW_len (seedW ns) (nW ns);have lp:(peopleW ns).length=cW ns:=psW_len ns (seedW ns) (cW ns);obtain⟨g0,g1⟩:=agS_a ns (KB ns) (1+(cW ns:Int)) m1;refine kA (wS ns none none none none none none none none none none) rfl rfl rfl ?_;refine w_0 (w_1 h1 hb (w_2 h2 hb (w_3 h2 h3 hb s0 s1 fun o5 o6=>w_4 h3 s0 s1 (w_5 h4 hb (by omega) (by unfold cW at c1;omega) m1 (w_6 (w_7 h5 hb ?_ ?_ (by unfold cW at g0;unfold KB at g0;omega) ?_ ?_ ?_ m0 m1 (w_8 q)))))));split<;>omega;split<;>omega;unfold cW KB at g1;unfold cW at c1;omega;rw[psW_len];unfold cW at c0;omega;rw[psW_len];unfold cW at c1;omega
theorem keys_words:∀w∈keys,gB w=true:=by decide +kernel
theorem FitsL.app{f1 f2:List Str}{v1 v2:List D}(h1:FitsL f1 v1)(h2:FitsL f2 v2):FitsL (f1++f2) (v1++v2):=by
 induction h1 with
 |nil=>exact h2
 |cons a _ ih=>exact .cons a ih
theorem good_person{x:Str}{r f k:Int}(hx:VA x=true)(r0:0<=r)(r1:r<=99)(f0:0<=f)(f1:f<=99)(k0:1<=k)(k1:k<=4):Good "person" [.str x,.int r,.int f,.int k] :=
 ⟨word_ok (by decide +kernel),⟨["name","rank","floor","needs"],(show formS (QD "person") 5=_ by decide +kernel),.cons (AB hx) (.cons (fits_rank r0 r1) (.cons (fits_floor f0 f1) (.cons (fits_needs k0 k1) .nil)))⟩,.inl (by kernel_rfl)⟩
theorem good_matter{x:Str}(hx:VA x=true):Good "matter" [.str x] :=
 ⟨word_ok (by decide +kernel),⟨["name"],(show formS (QD "matter") 2=_ by decide +kernel),.cons (AB hx) .nil⟩,.inl (by kernel_rfl)⟩
theorem good_against{x y:Str}(hx:VA x=true)(hy:VA y=true)(n:x≠y):Good "against" [.str x,.str y] :=
 ⟨word_ok (by decide +kernel),⟨["name","name"],(show formS (QD "against") 3=_ by decide +kernel),.cons (AB hx) (.cons (AB hy) .nil)⟩,.inr ⟨1,2,x,y,by kernel_rfl,rfl,rfl,n⟩⟩
theorem good_see{t:Int}{x y w:Str}(t0:0<=t)(t1:t<=999999999)(hx:VA x=true)(hy:VA y=true)(hw:gB w=true):Good "see" [.int t,.str x,.str y,.str w] :=
 ⟨word_ok (by decide +kernel),⟨["time","name","name","word"],(show formS (QD "see") 5=_ by decide +kernel),.cons (fits_time t0 t1) (.cons (AB hx) (.cons (AB hy) (.cons (fits_word hw) .nil)))⟩,.inl (by kernel_rfl)⟩
theorem fits_tell{t:Int}{x y z w:Str}(t0:0<=t)(t1:t<=999999999)(hx:VA x=true)(hy:VA y=true)(hz:VA z=true)(hw:gB w=true):FitsL gC [.int t,.str x,.str y,.str z,.str w] :=
 .cons (fits_time t0 t1) (.cons (AB hx) (.cons (AB hy) (.cons (AB hz) (.cons (fits_word hw) .nil))))
theorem good_tell{t:Int}{x y z w:Str}(t0:0<=t)(t1:t<=999999999)(hx:VA x=true)(hy:VA y=true)(hz:VA z=true)(hw:gB w=true)(n:x≠y):Good "tell" [.int t,.str x,.str y,.str z,.str w] :=
 ⟨word_ok (by decide +kernel),⟨gC,(show formS (QD "tell") 6=_ by decide +kernel),fits_tell t0 t1 hx hy hz hw⟩,.inr ⟨2,3,x,y,by kernel_rfl,rfl,rfl,n⟩⟩
theorem fits_names:∀(qs:List Str),(∀q∈qs,VA q=true)->FitsL (QH qs.length (QD "name")) (qs.map PyData.str)
 |[],_=>.nil
 |q::qs,h=>.cons (AB (h q QM)) (fits_names qs fun r hr=>h r (QJ _ hr))
theorem good_tell_by{t:Int}{x y z w:Str}{qs:List Str}(t0:0<=t)(t1:t<=999999999)(hx:VA x=true)(hy:VA y=true)(hz:VA z=true)(hw:gB w=true)(n:x≠y)(hq:∀q∈qs,VA q=true)(l1:1<=qs.length)(l2:qs.length<=6) :
  Good "tell" ([.int t,.str x,.str y,.str z,.str w]++.str "by"::qs.map PyData.str):=by
 refine⟨word_ok (by decide +kernel),⟨gC++byF qs.length,?_,FitsL.app (fits_tell t0 t1 hx hy hz hw) (.cons fits_by (fits_names qs hq))⟩,.inr ⟨2,3,x,y,by kernel_rfl,ZB (j:=2) rfl,ZB (j:=3) rfl,n⟩⟩;have e:([PyData.int t,.str x,.str y,.str z,.str w]++.str "by"::qs.map PyData.str).length+1=qs.length+7:=by simp
 rw[e];unfold formS;rw[if_pos (by decide),if_pos ⟨by omega,by omega⟩];rfl
theorem Good.txts{h:Str}{vs:List D}(g:Good h vs):∀d∈(PyData.str h::vs),PB (txt d)/\((∃z,d=.str z)∨∃n:Int,d=.int n/\0<=n/\n<=999999999):=by obtain⟨f,_,fl⟩:=g.fm;intro d hd;rcases QI.mp hd with rfl|hd;exact⟨g.hd,.inl ⟨h,rfl⟩⟩;exact fl.all d hd
noncomputable def wR(ps:List P4)(ms:List Str)(ag:LSS)(es:List Ev):List Rw:=ps.map .per++(ms.map .mat++(ag.map (fun p=>.aga p.1 p.2)++es.map .ev))
section
variable(ps:List P4)(ms:List Str)(ag:LSS)(es:List Ev)(l m:List Rw)
theorem pers_a:JB (l++m)=JB l++JB m:=by unfold JB;rw[qL]
theorem mats_a:bB (l++m)=bB l++bB m:=by unfold bB;rw[qL]
theorem agas_a:cB (l++m)=cB l++cB m:=by unfold cB;rw[qL]
theorem evs_a:evs (l++m)=evs l++evs m:=by unfold evs;rw[qL]
theorem pers_p:JB (ps.map .per)=ps:=by unfold JB;rw[Qh];exact w9
theorem pers_m:JB (ms.map .mat)=[]:=by unfold JB;rw[Qh];exact Qf.mpr fun _ _=>rfl
theorem pers_g:JB (ag.map fun p=>.aga p.1 p.2)=[]:=by unfold JB;rw[Qh];exact Qf.mpr fun _ _=>rfl
theorem pers_e:JB (es.map .ev)=[]:=by unfold JB;rw[Qh];exact Qf.mpr fun _ _=>rfl
theorem mats_p:bB (ps.map .per)=[]:=by unfold bB;rw[Qh];exact Qf.mpr fun _ _=>rfl
theorem mats_m:bB (ms.map .mat)=ms:=by unfold bB;rw[Qh];exact w9
theorem mats_g:bB (ag.map fun p=>.aga p.1 p.2)=[]:=by unfold bB;rw[Qh];exact Qf.mpr fun _ _=>rfl
theorem mats_e:bB (es.map .ev)=[]:=by unfold bB;rw[Qh];exact Qf.mpr fun _ _=>rfl
theorem agas_p:cB (ps.map .per)=[]:=by unfold cB;rw[Qh];exact Qf.mpr fun _ _=>rfl
theorem agas_m:cB (ms.map .mat)=[]:=by unfold cB;rw[Qh];exact Qf.mpr fun _ _=>rfl
theorem agas_g:cB (ag.map fun p=>.aga p.1 p.2)=ag:=by unfold cB;rw[Qh];exact w9
theorem agas_e:cB (es.map .ev)=[]:=by unfold cB;rw[Qh];exact Qf.mpr fun _ _=>rfl
theorem evs_p:evs (ps.map .per)=[]:=by unfold evs;rw[Qh];exact Qf.mpr fun _ _=>rfl
theorem evs_m:evs (ms.map .mat)=[]:=by unfold evs;rw[Qh];exact Qf.mpr fun _ _=>rfl
theorem evs_g:evs (ag.map fun p=>.aga p.1 p.2)=[]:=by unfold evs;rw[Qh];exact Qf.mpr fun _ _=>rfl
theorem evs_e:evs (es.map .ev)=es:=by unfold evs;rw[Qh];exact w9
theorem wR_p:JB (wR ps ms ag es)=ps:=by unfold wR;simp only[pers_a,pers_p,pers_m,pers_g,pers_e,Qi]
theorem wR_m:bB (wR ps ms ag es)=ms:=by unfold wR;simp only[mats_a,mats_p,mats_m,mats_g,mats_e,Qi,Q3]
theorem wR_g:cB (wR ps ms ag es)=ag:=by unfold wR;simp only[agas_a,agas_p,agas_m,agas_g,agas_e,Qi,Q3]
theorem wR_e:evs (wR ps ms ag es)=es:=by unfold wR;simp only[evs_a,evs_p,evs_m,evs_g,evs_e,Q3]
theorem wR_srt:srt (wR ps ms ag es)=wR ps ms ag es:=by unfold srt;rw[wR_p,wR_m,wR_g,wR_e];rfl
theorem wR_W4:W4 (wR ps ms ag es)=.tuple [psD ps,msD ms,.list (ag.map aD),.list (es.map eD)]:=by unfold W4;rw[wR_p,wR_m,wR_g,wR_e]
end
theorem told_app{l m:List Rw}(h:Told l)(k:∀a r b,m=a++r::b->RowOk (l++a) r):Told (l++m):=by
 intro a r b e;rcases List.append_eq_append_iff.mp e with⟨as,e1,e2⟩| ⟨bs,e1,e2⟩
 rw[e1];exact k as r b e2;cases bs with
 |nil =>
  rw[Qi]at e1;rw[<- e1];have:=k [] r b e2.symm
  rwa [Qi]at this
 |cons y bs=>obtain⟨rfl,_⟩:=QAO e2;exact h a r bs e1
theorem map_split{α β:Type}{f:α->β}{l:List α}{a b:List β}{r:β}(h:l.map f=a++r::b):∃x y z,l=x++y::z/\a=x.map f/\r=f y:=by obtain⟨x,w,e1,e2,e3⟩:=List.map_eq_append_iff.mp h;obtain⟨y,z,e4,e5,e6⟩:=List.map_eq_cons_iff.mp e3;exact⟨x,y,z,by rw[e1,e4],e2.symm,e5.symm⟩
structure PerOk(p:P4):Prop where
 n:VA p.1=true
 r0:0<=p.2.1
 r1:p.2.1<=99
 f0:0<=p.2.2.1
 f1:p.2.2.1<=99
 k0:1<=p.2.2.2
 k1:p.2.2.2<=4
noncomputable def EvOk(ps:List P4)(ms:List Str):Ev->Prop
 | .see t p m w=>(0<=t/\t<=999999999)/\p∈ps.map wj/\m∈ms/\gB w=true
 | .tell t p q m w b=>(0<=t/\t<=999999999)/\p∈ps.map wj/\q∈ps.map wj/\m∈ms/\gB w=true/\p≠q/\(∀x∈b,x∈ps.map wj)/\b.length<=6
theorem told_wR{ps:List P4}{ms:List Str}{ag:LSS}{es:List Ev}(hp:∀p∈ps,PerOk p)(np:(ps.map wj).Nodup)(lp:ps.length<=10)(hm:∀m∈ms,VA m=true)(nm:ms.Nodup)(lm:ms.length<=6)
  (ha:∀p∈ag,p.1∈ms/\p.2∈ms/\p.1≠p.2) (na:ag.Pairwise fun p q=>p≠q/\p≠(q.2,q.1)) (la:ag.length<=15) (he:∀e∈es,EvOk ps ms e) (le:es.length<=80):Told (wR ps ms ag es):=by
 have pn:∀x∈ps.map wj,VA x=true:=fun x hx=>by obtain⟨p,hp',rfl⟩:=Q8.mp hx;exact(hp p hp').n
 unfold wR;rw[<- qN,<- qN];refine told_app (told_app (told_app (fun a r b e=>?_) fun a r b e=>?_) fun a r b e=>?_) fun a r b e=>?_;obtain⟨x,p,z,rfl,rfl,rfl⟩:=map_split e;have o:=hp p (by simp);refine⟨good_person o.n o.r0 o.r1 o.f0 o.f1 o.k0 o.k1,by show 4<=12;decide,mats_p _,agas_p _,evs_p _,?_,?_⟩;unfold nams;rw[pers_p];rw[Q6,QS,QAD]at np;intro hx;exact np.2.2 _ hx _ QM rfl;rw[pers_p];rw[QK,QL]at lp;omega;obtain⟨x,p,z,rfl,rfl,rfl⟩:=map_split e;have o:=hm p (by simp);refine⟨good_matter o,by show 1<=12;decide,by rw[agas_a,agas_p,agas_m];rfl,by rw[evs_a,evs_p,evs_m];rfl,?_,?_⟩;rw[mats_a,mats_p,mats_m,Q3];rw[QAD]at nm;intro hx;exact nm.2.2 _ hx _ QM rfl;rw[mats_a,mats_p,mats_m,Q3];rw[QK,QL]at lm;omega;obtain⟨x,⟨p,q⟩,z,rfl,rfl,rfl⟩:=map_split e;obtain⟨o1,o2,o3⟩:=ha (p,q) (by simp);have ga:cB (ps.map Rw.per++ms.map Rw.mat++x.map fun p=>.aga p.1 p.2)=x:=by rw[agas_a,agas_a,agas_p,agas_m,agas_g];rfl
 have gm:bB (ps.map Rw.per++ms.map Rw.mat++x.map fun p=>.aga p.1 p.2)=ms:=by rw[mats_a,mats_a,mats_p,mats_m,mats_g,Q3,Qi]
 have ge:evs (ps.map Rw.per++ms.map Rw.mat++x.map fun p=>.aga p.1 p.2)=[]:=by rw[evs_a,evs_a,evs_p,evs_m,evs_g];rfl
 refine⟨good_against (hm _ o1) (hm _ o2) o3,by show 2<=12;decide,ge,?_,?_,by rw[gm];exact o1,by rw[gm];exact o2,?_⟩;rw[ga];intro hx;exact((QAu.mp na).2.2 _ hx _ QM).1 rfl;rw[ga];intro hx;exact((QAu.mp na).2.2 _ hx _ QM).2 rfl;rw[ga];rw[QK,QL]at la;omega;obtain⟨x,v,z,rfl,rfl,rfl⟩:=map_split e;have o:=he v (by simp);have gn:nams (ps.map Rw.per++ms.map Rw.mat++(ag.map fun p=>.aga p.1 p.2)++x.map Rw.ev)=ps.map wj:=by unfold nams;rw[pers_a,pers_a,pers_a,pers_p,pers_m,pers_g,pers_e];simp
 have gm:bB (ps.map Rw.per++ms.map Rw.mat++(ag.map fun p=>.aga p.1 p.2)++x.map Rw.ev)=ms:=by rw[mats_a,mats_a,mats_a,mats_p,mats_m,mats_g,mats_e];simp
 have ge:evs (ps.map Rw.per++ms.map Rw.mat++(ag.map fun p=>.aga p.1 p.2)++x.map Rw.ev)=x:=by rw[evs_a,evs_a,evs_a,evs_p,evs_m,evs_g,evs_e];simp
 have gl:x.length<80:=by rw[QK,QL]at le;omega
 cases v with
 |see t p m w=>obtain⟨⟨t0,t1⟩,o1,o2,o3⟩:=o;exact⟨good_see t0 t1 (pn _ o1) (hm _ o2) o3,by show 4<=12;decide,by rw[gn];exact o1,by rw[gm];exact o2,by rw[ge];exact gl⟩
 |tell t p q m w b =>
  obtain⟨⟨t0,t1⟩,o1,o2,o3,o4,o5,o6,o7⟩:=o;refine⟨?_,?_,by rw[gn];exact o1,by rw[gn];exact o2,by rw[gm];exact o3,by rw[gn];exact o6,by rw[ge];exact gl⟩;cases b with
  |nil=>exact good_tell t0 t1 (pn _ o1) (pn _ o2) (hm _ o3) o4 o5
  |cons y b=>exact good_tell_by t0 t1 (pn _ o1) (pn _ o2) (hm _ o3) o4 o5 (fun q hq=>pn _ (o6 q hq)) (by simp) o7
  cases b with
  |nil=>show 5<=12;decide
  |cons y b=>simp only[Rw.vs,byD,QK,QL,wL,QG]at o7 ⊢;omega
theorem rnI_r(m:Int):0<=rnI m/\rnI m<=99:=by unfold rnI;split;omega;split<;>omega
theorem psW_ok{ns:List Int}{s:Int}{c:Nat}(s0:0<=s):∀p∈psW ns s c,PerOk p:=by
 intro p hp;obtain⟨j,_,rfl⟩:=Q8.mp hp;obtain⟨r0,r1⟩:=rnI_r (bA ns (1+(j:Int)+1));have e:(10:Int) ^ 5=100000:=by decide
 refine⟨nmS_name s0,?_,?_,r0,r1,?_,?_⟩<;>simp only[p4,e]<;>omega
theorem nodup_of{α:Type}{f:Nat->α}(c:Nat)(h:∀i j,i<c->j<c->f i=f j->i=j):((Qc c).map f).Nodup:=by rw[List.Nodup,List.pairwise_map];refine List.Pairwise.imp_of_mem (R:=fun a b=>a≠b) (fun {a b} ha hb hab e=>hab (h a b (qQ.mp ha) (qQ.mp hb) e)) ?_;exact List.nodup_range
theorem psW_nod{ns:List Int}{s:Int}{c:Nat}(s0:0<=s)(hc:c<=600):((psW ns s c).map wj).Nodup:=by unfold psW;rw[wW];refine nodup_of c fun i j hi hj e=>?_;have e:nmS s (i:Int)=nmS s (j:Int):=e;have:=nmS_inj s0 (by omega) (by omega) (by omega) (by omega) e;omega
theorem psW_at{ns:List Int}{s:Int}{c:Nat}{i:Int}(h0:0<=i)(h1:i<(c:Int)):(pAt (psW ns s c) i).1=nmS s i:=by unfold pAt psW;rw[Qp,Qd,wX (by omega)];show nmS s ((i.toNat:Nat):Int)=_;rw[show((i.toNat:Nat):Int)=i by omega]
theorem mI_inj{n:Int}{i j:Nat}(hi:i<6)(hj:j<6)(h:mI n i=mI n j):i=j:=by unfold mI at h;split at h<;>split at h<;>omega
theorem mI_r{n:Int}{j:Nat}(hj:j<6):0<=mI n j/\mI n j<676:=by unfold mI;split<;>omega
theorem msW_name{s n:Int}(s0:0<=s):∀m∈msW s n,VA m=true:=by intro m hm;obtain⟨j,_,rfl⟩:=Q8.mp hm;exact nmS_name s0
theorem msW_nod{s n:Int}(s0:0<=s):(msW s n).Nodup:=by unfold msW;refine nodup_of _ fun i j hi hj e=>?_;have a:=mI_r (n:=n) (j:=i) (by omega);have b:=mI_r (n:=n) (j:=j) (by omega);exact mI_inj (n:=n) (by omega) (by omega) (nmS_inj s0 a.1 a.2 b.1 b.2 e)
theorem msW_at{s n:Int}{i:Nat}(h:i<(msW s n).length):mAt (msW s n) i=nmS s (mI n i):=by unfold msW at h ⊢;rw[QG,qG]at h;unfold mAt;rw[Qp,Qd,wX h];rfl
theorem msW_inj{s n:Int}(s0:0<=s){i j:Nat}(hi:i<(msW s n).length)(hj:j<(msW s n).length)(e:mAt (msW s n) i=mAt (msW s n) j):i=j:=by rw[msW_at hi,msW_at hj]at e;have l:=(msW_len s n).2;have a:=mI_r (n:=n) (j:=i) (by omega);have b:=mI_r (n:=n) (j:=j) (by omega);exact mI_inj (n:=n) (by omega) (by omega) (nmS_inj s0 a.1 a.2 b.1 b.2 e)
theorem mAt_mem{ms:List Str}{i:Nat}(h:i<ms.length):mAt ms i∈ms:=by unfold mAt;rw[Qp,qT h];exact QAS h
def AgI(ms:List Str)(J K:Nat)(L:LSS):Prop :=
 (L.Pairwise fun p q=>p≠q/\p≠(q.2,q.1))/\∀p∈L,∃j k:Nat,k<j/\j<ms.length/\(j<J∨(j=J/\k<K))/\(p=(mAt ms j,mAt ms k)∨p=(mAt ms k,mAt ms j))
theorem insAt_perm{α:Type}(l:List α)(k:Nat)(y:α):(insAt l k y).Perm (y::l):=by
 unfold insAt;have:=List.perm_middle (a:=y) (l₁:=l.take k) (l₂:=l.drop k)
 rwa [QAm]at this
theorem agP_or(ns:List Int)(ms:List Str)(j k:Nat)(n:Int):agP ns ms j k n=(mAt ms j,mAt ms k)∨agP ns ms j k n=(mAt ms k,mAt ms j):=by unfold agP;split;exact .inl rfl;exact .inr rfl
theorem AgI.weak{ms:List Str}{J K J' K':Nat}{L:LSS}(h:AgI ms J K L)(w:∀j k,k<j->(j<J∨(j=J/\k<K))->(j<J'∨(j=J'/\k<K'))):AgI ms J' K' L :=
 ⟨h.1,fun p hp=>by obtain⟨j,k,a,b,c,d⟩:=h.2 p hp;exact⟨j,k,a,b,w j k a c,d⟩⟩
theorem AgI.step{ns:List Int}{ms:List Str}(inj:∀i j,i<ms.length->j<ms.length->mAt ms i=mAt ms j->i=j){J K:Nat}{st:PA}(h:AgI ms J K st.1)(hK:K<J)(hJ:J<ms.length):AgI ms J (K+1) (ag1 ns ms J st K).1:=by
 unfold ag1;split;refine⟨(List.Perm.pairwise_iff (R:=fun p q:Str×Str=>p≠q/\p≠(q.2,q.1)) (fun {x y} z=>⟨fun e=>z.1 e.symm,fun e=>z.2 (by rw[e])⟩) (insAt_perm _ _ _)).mpr (List.pairwise_cons.mpr ⟨fun q hq=>?_,h.1⟩),fun p hp=>?_⟩
 ·obtain⟨j,k,a,b,c,d⟩:=h.2 q hq
  have key:∀x y:Nat,(x=j/\y=k)∨(x=k/\y=j)->(mAt ms J,mAt ms K)≠(mAt ms x,mAt ms y):=by intro x y hxy e;rw[QAQ]at e;have e1:=inj J x hJ (by omega) e.1;have e2:=inj K y (by omega) (by omega) e.2;omega
  have key2:∀x y:Nat,(x=j/\y=k)∨(x=k/\y=j)->(mAt ms K,mAt ms J)≠(mAt ms x,mAt ms y):=by intro x y hxy e;rw[QAQ]at e;have e1:=inj K x (by omega) (by omega) e.1;have e2:=inj J y hJ (by omega) e.2;omega
  rcases agP_or ns ms J K (bA ns (st.2+1)) with g|g<;>rcases d with rfl|rfl<;>rw[g];exact⟨key j k (.inl ⟨rfl,rfl⟩),key k j (.inr ⟨rfl,rfl⟩)⟩;exact⟨key k j (.inr ⟨rfl,rfl⟩),key j k (.inl ⟨rfl,rfl⟩)⟩;exact⟨key2 j k (.inl ⟨rfl,rfl⟩),key2 k j (.inr ⟨rfl,rfl⟩)⟩;exact⟨key2 k j (.inr ⟨rfl,rfl⟩),key2 j k (.inl ⟨rfl,rfl⟩)⟩
 rcases insAt_mem.mp hp with rfl|hp
 ·exact⟨J,K,hK,hJ,.inr ⟨rfl,by omega⟩,agP_or ns ms J K _⟩
 obtain⟨j,k,a,b,c,d⟩:=h.2 p hp;exact⟨j,k,a,b,by omega,d⟩;exact h.weak fun j k _ c=>by omega
theorem AgI.row{ns:List Int}{ms:List Str}(inj:∀i j,i<ms.length->j<ms.length->mAt ms i=mAt ms j->i=j){J:Nat}{st:PA}(h:AgI ms J 0 st.1)(hJ:J<ms.length):∀K:Nat,K<=J->AgI ms J K ((Qc K).foldl (ag1 ns ms J) st).1
 |0,_=>h
 |K+1,hK=>by rw[Wp,QBk];exact AgI.step inj (AgI.row inj h hJ K (by omega)) (by omega) hJ
theorem agS_ok(ns:List Int){ms:List Str}(inj:∀i j,i<ms.length->j<ms.length->mAt ms i=mAt ms j->i=j)(a:Int):AgI ms ms.length 0 (agS ns ms a).1:=by
 have:∀J:Nat,J<=ms.length->AgI ms J 0 ((Qc J).foldl (ag2 ns ms) ([],a)).1:=by
  intro J;induction J with
  |zero=>intro _;exact⟨.nil,fun p hp=>by cases hp⟩
  |succ J ih=>intro hJ;rw[Wp,QBk];exact(AgI.row inj (ih (by omega)) (by omega) J (by omega)).weak fun j k a c=>by omega
 exact this _ (QX _)
theorem ag1_l(ns:List Int)(ms:List Str)(j:Nat)(st:PA)(k:Nat):(ag1 ns ms j st k).1.length<=st.1.length+1:=by unfold ag1;split;rw[insAt_len];exact QX _;show st.1.length<=_;omega
theorem ag2_l(ns:List Int)(ms:List Str)(j:Nat):∀(l:List Nat) (st:PA),(l.foldl (ag1 ns ms j) st).1.length<=st.1.length+l.length
 |[],st=>QX _
 |x::l,st=>by have h1:=ag2_l ns ms j l (ag1 ns ms j st x);have h2:=ag1_l ns ms j st x;rw[wk,QL];omega
theorem agS_l(ns:List Int){ms:List Str}(a:Int)(hm:ms.length<=6):(agS ns ms a).1.length<=15:=by
 have:∀(l:List Nat) (st:PA),(l.foldl (ag2 ns ms) st).1.length<=st.1.length+l.sum:=by
  intro l;induction l with
  |nil=>intro st;exact QX _
  |cons x l ih=>intro st;have h1:=ih (ag2 ns ms st x);have h2:=ag2_l ns ms x (Qc x) st;rw[qG]at h2;have h2:(ag2 ns ms st x).1.length<=st.1.length+x:=h2;rw[wk,List.sum_cons];omega
 have h:=this (Qc ms.length) ([],a);have e:∀m:Fin 7,(Qc m.val).sum<=15:=by decide
 have e:=e ⟨ms.length,by omega⟩;have e:(Qc ms.length).sum<=15:=e;unfold agS;have z:(([],a):PA).1.length=0:=rfl;omega
theorem wdS_word{n:Int}(h:0<=n):gB (wdS n)=true:=by
 unfold wdS;split;have:=kAt_at (i:=n / 10 ^ 6 % 19) (by omega) (by omega);rw[atI_map]at this;obtain⟨v,e1,e2⟩:=atI_pos (xs:=keys) (i:=n / 10 ^ 6 % 19) (by omega) (by show n / 10 ^ 6 % 19<19;omega);unfold kAt;rw[Qp,e2];exact keys_words v (qP e2);have e:(10:Int) ^ 12=1000000000000:=by decide
 exact name_word (nmS_name (by rw[e];omega))
theorem qI_ne{n m:Int}(h:2<=m):(0<=qI n m/\qI n m<m)/\n / 100 % m≠qI n m:=by
 unfold qI;have a0:=Qx (n / 100) (show m≠0 by omega);have a1:=Qq (n / 100) (show 0<m by omega);have b0:=Qx (n / 10 ^ 4) (show m - 1≠0 by omega);have b1:=Qq (n / 10 ^ 4) (show 0<m - 1 by omega);generalize n / 100 % m=x at *;generalize n / 10 ^ 4 % (m - 1)=y at *;refine⟨⟨Qx _ (by omega),Qq _ (by omega)⟩,fun e=>?_⟩;by_cases c:x+1+y<m;rw[QBl (by omega) c]at e;omega;have:(x+1+y) % m=x+1+y - m:=by rw[show x+1+y=(x+1+y - m)+m by omega,Int.add_emod_right,QBl (by omega) (by omega)];omega
 omega
theorem evS_ok{ns:List Int}{s n0:Int}{c:Nat}(s0:0<=s)(c0:1<=c)(c1:c<=10)(a:Int):EvOk (psW ns s c) (msW s n0) (evS ns a (psW ns s c) (msW s n0)).1:=by
 have lp:=psW_len ns s c;have lm:=msW_len s n0;have d0:=drawI_0 ns (a+1);obtain⟨t0,t1⟩:=tmI_r d0;have pm:∀i:Int,0<=i->i<(c:Int)->(pAt (psW ns s c) i).1∈(psW ns s c).map wj:=fun i h0 h1=>Q8.mpr ⟨_,pAt_mem h0 (by rw[lp];exact h1),rfl⟩;have mm:mAt (msW s n0) (bA ns (a+1) / 1000 % ((msW s n0).length:Int)).toNat∈msW s n0:=mAt_mem (by have:=Qx (bA ns (a+1) / 1000) (show((msW s n0).length:Int)≠0 by omega);have:=Qq (bA ns (a+1) / 1000) (show 0<((msW s n0).length:Int) by omega);omega);have q0:=Qx (bA ns (a+1) / 100) (show((psW ns s c).length:Int)≠0 by omega);have q1:=Qq (bA ns (a+1) / 100) (show 0<((psW ns s c).length:Int) by omega);unfold evS;split;exact⟨⟨t0,t1⟩,pm _ q0 (by omega),mm,wdS_word d0⟩;rename_i hc;have p2:2<=((psW ns s c).length:Int):=by by_cases e:(psW ns s c).length=1;exact absurd (.inl e) hc;omega
 obtain⟨⟨r0,r1⟩,rn⟩:=qI_ne (n:=bA ns (a+1)) p2;refine⟨⟨t0,t1⟩,pm _ q0 (by omega),pm _ r0 (by omega),mm,wdS_word d0,fun e=>?_,fun x hx=>?_,?_⟩;rw[psW_at q0 (by omega),psW_at r0 (by omega)]at e;exact rn (nmS_inj s0 q0 (by omega) r0 (by omega) e);obtain⟨i,_,rfl⟩:=Q8.mp hx;exact pm _ (Qx _ (by omega)) (by have:=Qq (bA ns (a+1+(i:Int)+1)) (show 0<((psW ns s c).length:Int) by omega);omega);unfold byS;rw[QG,qG];exact quI_le _
theorem evL_ok{ns:List Int}{s n0:Int}{c:Nat}(s0:0<=s)(c0:1<=c)(c1:c<=10)(a:Int):∀k:Nat,∀e∈(evL ns a (psW ns s c) (msW s n0) k).1,EvOk (psW ns s c) (msW s n0) e
 |0,e,h=>by cases h
 |k+1,e,h=>by have h:e∈(evL ns a (psW ns s c) (msW s n0) k).1++[(evS ns (evL ns a (psW ns s c) (msW s n0) k).2 (psW ns s c) (msW s n0)).1]:=h;rcases qH.mp h with h|h;exact evL_ok s0 c0 c1 a k e h;rw[Qz.mp h];exact evS_ok s0 c0 c1 _
noncomputable def rD(ns:List Int):List Rw:=wR (peopleW ns) (KB ns) (againstW ns).1 (eventsW ns).1
theorem kW_r(ns:List Int):0<=kW ns/\kW ns<=80:=by unfold kW;split<;>omega
theorem rowsW_W4(ns:List Int):W4 (rD ns)=worldD ns:=wR_W4 _ _ _ _
theorem told_rowsW(ns:List Int):Told (rD ns):=by
 obtain⟨s0,s1⟩:=seedW_r ns;obtain⟨c0,c1⟩:=cW_r ns;have lm:=msW_len (seedW ns) (nW ns);have ag:=agS_ok ns (ms:=KB ns) (fun i j hi hj e=>msW_inj s0 hi hj e) (1+(cW ns:Int));refine told_wR (psW_ok s0) (psW_nod s0 (by omega)) (by unfold peopleW;rw[psW_len];exact c1) (msW_name s0) (msW_nod s0) lm.2 (fun p hp=>?_) ag.1 (agS_l ns _ lm.2) (evL_ok s0 c0 c1 _ _) ?_;obtain⟨j,k,h1,h2,h3,h4⟩:=ag.2 p hp;have ne:mAt (KB ns) j≠mAt (KB ns) k:=fun e=>by have:=msW_inj s0 h2 (show k<(KB ns).length by omega) e;omega
 rcases h4 with rfl|rfl;exact⟨mAt_mem h2,mAt_mem (by omega),ne⟩;exact⟨mAt_mem (by omega),mAt_mem h2,fun e=>ne e.symm⟩;unfold eventsW;rw[evL_len];have:=kW_r ns;omega
def efs(x:T)(n:Bool)(i:Int)(C:T->Prop):Prop:=esc x n=true/\∃ds,x.er=.tuple ds/\C (.d (.tuple (cutD ds none (some i))))
theorem E_efs{Ψ:PEv}{E:XE}{ρ:yA}{K:TK}{a:PX}{i:Int}:tB Ψ (.eff (.slc a .nop (.int i))) E ρ K=tB Ψ a E ρ fun x n ρ1=>efs x n i fun z=>K z false ρ1:=rfl
theorem efs_d{ds:List D}{n:Bool}{i:Int}{C:T->Prop}:efs (.d (.tuple ds)) n i C=C (.d (.tuple (cutD ds none (some i)))) :=
 propext ⟨fun⟨_,_,e,q⟩=>by cases e;exact q,fun q=>⟨by cases n<;>rfl,_,rfl,q⟩⟩
noncomputable def lnS(x:Rw):List Str:=(PyData.str x.hd::x.vs).map txt
noncomputable def lnT(x:Rw):T:=match x with
 | .ev e=>.d (.list ((lnS (.ev e)).map PyData.str))
 |x=>.lst (((lnS x).map PyData.str).map T.d)
noncomputable def sp_lines:PSp where
 md:=[]
 run:=fun ds Q _=>∃l,ds=[.d (W4 l)]/\(srt l).length<=200/\(∀x∈srt l,x.vs.length<=12/\∀d∈x.vs,Shw d)/\Q (.lst ((srt l).map lnT)) []
 mono:=fun h _ z=>by obtain⟨l,e,c,o,q⟩:=z;exact⟨l,e,c,o,h _ _ q⟩
theorem run_lines{l:List Rw}{K:T->List T->Prop}{E:XE}(h:(srt l).length<=200)(o:∀x∈srt l,x.vs.length<=12/\∀d∈x.vs,Shw d)(q:K (.lst ((srt l).map lnT)) []):mC sp_lines [.d (W4 l)] K E:=⟨l,rfl,h,o,q⟩
theorem strs_of{Ψ:PEv}{ρ:yA}{t:Str}(ds:List D)(h:∀d∈ds,Shw d)(hl:ds.length<=sizeLine){Q:List T->Prop}(q:Q (((ds.map txt).map PyData.str).map T.d)):JD (compX Ψ (fun _=>False) [] [t] (.nm 0) .nop (.bi .str (.ng (.var 0) .nh)) ρ) (ds.map T.d) [] Q:=by
 refine kD T.d (fun d=>T.d (.str (txt d))) ds [] _ (fun d hd R hR=>?_) (by simp;omega) ?_;simp?[↓lA];refine str_part (h d hd) ?_;simp?[↓lA];exact hR;have e:ds.map (fun d=>T.d (PyData.str (txt d)))=((ds.map txt).map PyData.str).map T.d:=by simp
 rw[Q3,e];exact q
theorem lines_1{Ψ:PEv}{Z:PEnds}{w:D}{ls:List T}{e:Ev}{o3:Option Sl}(h12:(Rw.vs (.ev e)).length<=12)(hs:∀d∈Rw.vs (.ev e),Shw d)(hl:ls.length<=300)(k:∀o3,Z.nx [some (.nj (.d w)),some (.own (.lst (ls++[lnT (.ev e)]))),some (.nj (.d (eD e))),o3]) :
  nA Ψ (fun _=>False) ZD Z [some (.nj (.d w)),some (.own (.lst ls)),some (.nj (.d (eD e))),o3]:=by
 have hz:sizeLine=16777216:=QZ;have n1:decide (QD "see"=QD "tell")=false:=by decide +kernel
 cases e with
 |see t p m w' =>
  have e2:cutD [PyData.str "see",.int t,.str p,.str m,.str w'] none (some 6)=[PyData.str "see",.int t,.str p,.str m,.str w']:=rfl;delta eD at k ⊢;delta ZD;simp?[↓E_efs,↓efs_d,e2];refine strs_of [PyData.str "see",.int t,.str p,.str m,.str w'] (fun d hd=>?_) (by simp;omega) ?_;rcases QI.mp hd with rfl|hd
  ·exact hd_shw (.ev (.see t p m w'))
  exact hs d hd;delta b_l_lines_r1;simp?[↓at0,n1];exact⟨by omega,k _⟩
 |tell t p q m w' b =>
  have e2:∀x:D,cutD [PyData.str "tell",.int t,.str p,.str q,.str m,.str w',x] none (some 6)=[PyData.str "tell",.int t,.str p,.str q,.str m,.str w']:=fun _=>rfl;delta eD at k ⊢;delta ZD;simp?[↓E_efs,↓efs_d,e2];refine strs_of [PyData.str "tell",.int t,.str p,.str q,.str m,.str w'] (fun d hd=>?_) (by simp;omega) ?_;rcases QI.mp hd with rfl|hd
  ·exact hd_shw (.ev (.tell t p q m w' b))
  exact hs d (qZ _ hd);have vb:∀x∈b,txt (PyData.str x)=x:=fun _ _=>rfl;cases b with
  |nil =>
   have e0:decide ((0:Int)<((([]:List Str).length:Nat):Int))=false:=by decide
   delta b_l_lines_r1;simp?[↓at0,↓at6,QG,e0];exact⟨by omega,k _⟩
  |cons y b =>
   have lb:b.length<=12:=by simp only[Rw.vs,byD,QK,QL,QG]at h12;omega
   have e3:decide ((0:Int)<((b.length+1:Nat):Int))=true:=dT (by omega);delta b_l_lines_r1;simp?[↓at0,↓at6,QG,QL,e3,↓V_dl];refine⟨by omega,by first|omega | (simp;omega),by first|omega | (simp;omega),by omega,?_⟩;have el:(lnS (.ev (.tell t p q m w' (y::b)))).map PyData.str=(([PyData.str "tell",.int t,.str p,.str q,.str m,.str w'].map txt).map PyData.str)++[PyData.str "by"]++(y::b).map PyData.str:=by
    have ec:((y::b).map PyData.str).map txt=y::b:=by rw[wW];exact List.map_id _
    show(([PyData.str "tell",.int t,.str p,.str q,.str m,.str w']++[PyData.str "by"]++(y::b).map PyData.str).map txt).map PyData.str=_;rw[Q6,ec,Q6,Q6,Q6];rfl
   have k:=k (some (.nj (.d (.list ((lnS (.ev (.tell t p q m w' (y::b)))).map PyData.str)))));have et:lnT (.ev (.tell t p q m w' (y::b)))=.d (.list ((lnS (.ev (.tell t p q m w' (y::b)))).map PyData.str)):=rfl;rw[et,el]at k;exact k
noncomputable def linS(l:List Rw)(ls:List T)(o2 o3:Option Sl):yA:=[some (.nj (.d (W4 l))),some (.own (.lst ls)),o2,o3]
theorem ok_lines{Ψ:PEv}(ds Q E)(h:sp_lines.run ds Q E):ds.length=ps_l_lines.length/\nA Ψ (fun _=>False) b_l_lines (DA sp_lines ps_l_lines.length Q) (uA N_l_lines sp_lines.md ds):=by
 obtain⟨l,rfl,hl,ho,q⟩:=h;refine kA [some (.nj (.d (W4 l))),none,none,none] rfl rfl rfl ?_;have hz:sizeLine=16777216:=QZ;have hl':(JB l).length+((bB l).length+((cB l).length+(evs l).length))<=200:=by simpa[srt]using hl
 delta W4;delta b_l_lines;simp?[↓at0,↓at1,↓at2,↓at3];refine iD pD (fun p=>lnT (.per p)) (JB l) _ (fun p hp R hR=>?_) (by omega) ?_;have hs:=(ho (.per p) (by simp[srt,hp])).2;delta pD;simp?[↓lA];refine⟨by omega,?_⟩;refine strs_of [PyData.str p.1,.int p.2.1,.int p.2.2.1,.int p.2.2.2] hs (by simp;omega) ?_;simp?[↓lA];exact⟨by simp;omega,hR⟩;refine iD PyData.str (fun m=>lnT (.mat m)) (bB l) _ (fun m _ R hR=>?_) (by omega) ?_;simp?[↓lA];exact⟨by omega,hR⟩;refine⟨by simp only[QG];omega,?_⟩;refine iD aD (fun p=>lnT (.aga p.1 p.2)) (cB l) _ (fun p _ R hR=>?_) (by omega) ?_;delta aD;simp?[↓at0,↓at1];exact⟨by omega,hR⟩;refine⟨by simp only[QK,QG];omega,?_⟩;rw[<- map_dd];refine for_inv (fun e=>T.d (eD e)) (fun es ρ=>∃(done:List Ev) (o2 o3:Option Sl),evs l=done++es/\ρ=linS l ((JB l).map (fun p=>lnT (.per p))++(bB l).map (fun m=>lnT (.mat m))++(cB l).map (fun p=>lnT (.aga p.1 p.2))++done.map fun e=>lnT (.ev e)) o2 o3) ?_ ?_ _ _ ⟨[],none,none,rfl,by rw[WA,Qi];rfl⟩
 ·rintro ρ ⟨done,o2,o3,e,rfl⟩
  rw[Qi]at e;subst e;have es:(JB l).map (fun p=>lnT (.per p))++(bB l).map (fun m=>lnT (.mat m))++(cB l).map (fun p=>lnT (.aga p.1 p.2))++(evs l).map (fun e=>lnT (.ev e))=(srt l).map lnT:=by simp[srt,QBi]
  rw[es];change nA _ _ _ _ [some (.nj (.d (W4 l))),some (.own (.lst ((srt l).map lnT))),killS o2,o3];generalize killS o2=o2;simp?[↓lA];exact q
 ·rintro x xs ρ N hN ⟨done,o2,o3,e,rfl⟩
  have hx:x∈evs l:=by rw[e];simp
  obtain⟨h12,hs⟩:=ho (.ev x) (by simp[srt,hx]);have le:done.length<=(evs l).length:=by have:=congrArg w6 e;rw[QK]at this;omega
  show nA Ψ (fun _=>False) ZD _ [some (.nj (.d (W4 l))),some (.own (.lst _)),some (.nj (.d (eD x))),o3];refine lines_1 h12 hs (by simp only[QK,QG];omega) fun o3=>hN _ ⟨done++[x],some (.nj (.d (eD x))),o3,by rw[e];simp,?_⟩;rw[Q6,<- qN];rfl
theorem no_space:∀c:Nat,33<=c->c<=126->wV c=false:=by
 intro c h1 h2;have key:∀i:Fin 127,33<=i.val->wV i.val=false:=by decide +kernel
 exact key ⟨c,by omega⟩ h1
theorem app_codes(a b:Str):(a++b).cps.toList=a.cps.toList++b.cps.toList:=by show(a.cps++b.cps).toList=_;rw[wa]
theorem blank_len:(QD " ").length=1:=by decide +kernel
theorem FC(k:Int):(repS (QD " ") k).cps.toList=QH k.toNat 32:=by
 rw[repS_codes,show(QD " ").cps.toList=[32] by decide +kernel];induction k.toNat with
 |zero=>rfl
 |succ n ih=>rw[Qe,qF,ih,Qe];rfl
structure RowS(ws:List Str)(r:Str):Prop where
 w:Lib.wordsOf r=ws
 l:r.length<=900
 n:10∉r.cps.toList
noncomputable def UC:PSp where
 md:=[]
 run:=fun ds Q _=>∃(ws:List Str) (n:Int),ds=[.d (.list (ws.map PyData.str)),.d (.int n)]/\ws.length<=13/\(∀w∈ws,PB w)/\∀r,RowS ws r->Q (.d (.str r)) []
 mono:=fun h _ z=>by obtain⟨ws,n,e,l,o,q⟩:=z;exact⟨ws,n,e,l,o,fun r h1=>h _ _ (q r h1)⟩
theorem run_spaced{ws:List Str}{n:Int}{K:T->List T->Prop}{E:XE}(hl:ws.length<=13)(ho:∀w∈ws,PB w)(q:∀r,RowS ws r->K (.d (.str r)) []):mC UC [.d (.list (ws.map PyData.str)),.d (.int n)] K E:=⟨ws,n,rfl,hl,ho,q⟩
noncomputable def spS(ws:List Str)(n:Int)(row:Str)(o3:Option Sl):yA:=[some (.nj (.d (.list (ws.map PyData.str)))),sI n,sS row,o3]
def SpW(ws:List Str)(rest:List Str)(ρ:yA):Prop :=
 ∃(done:List Str) (n':Int) (row:Str) (o3:Option Sl),ws=done++rest/\ρ=spS ws n' row o3/\row.length<=3+15 * done.length/\(∀c∈row.cps.toList,c=32∨33<=c/\c<=126)/\∀k,wc (row.cps.toList++k) []=done.map (fun w=>w.cps.toList)++wc k []
theorem sp_end{Ψ:PEv}{ws:List Str}{row:Str}{Q:T->List T->Prop}(q:∀r,RowS ws r->Q (.d (.str r)) [])(hr:row.length<=900)(hc:∀c∈row.cps.toList,c=32∨33<=c/\c<=126)(hw0:wc row.cps.toList []=ws.map fun w=>w.cps.toList){n':Int}{s0 s3:Option Sl}:nA Ψ (fun _=>False) (.seq (.ife (.cmp .Eq (.bin .Mod (.bin .FloorDiv (.var 1) (.int 3)) (.int 2)) (.int 0)) (.seq (.set 2 (.mt .rstrip (.var 2) .nh)) .nil) .nil) b_l_spaced_r1) (eZ Q) [s0,sI n',sS row,s3]:=by
 have hz:sizeLine=16777216:=QZ;delta b_l_spaced_r1;simp?[↓lA];have hb:∀c∈row.cps.toList,wV c=true->c=32:=fun c h1 h2=>by rcases hc c h1 with h|h;exact h;rw[no_space c h.1 h.2]at h2;cases h2
 have nn:10∉row.cps.toList:=fun z=>by rcases hc 10 z with h|h<;>omega
 refine ite2 (fun _=>⟨by omega,q _ ⟨wordsOf_of ?_,?_,?_⟩⟩) fun _=>q _ ⟨wordsOf_of hw0,hr,nn⟩;rw[wc_rstrip,hw0];exact hb;obtain⟨m,e⟩:=rstrip_codes row hb;have e:=congrArg w6 e;rw[QK,Qg,Qg]at e;have:(WB row).length<=row.length:=by show(WB row).cps.size<=row.cps.size;omega
 omega;obtain⟨m,e⟩:=rstrip_codes row hb;intro z;exact nn (by rw[e];exact qZ _ z)
theorem sp_step{Ψ:PEv}{Z:PEnds}{ws:List Str}{n':Int}{done rest:List Str}{w row:Str}(hl:ws.length<=13)(ho:∀w∈ws,PB w)(hN:∀ρ',SpW ws rest ρ'->Z.nx ρ')(e:ws=done++w::rest)(hr:row.length<=3+15 * done.length)(hc:∀c∈row.cps.toList,c=32∨33<=c/\c<=126)(hw:∀k,wc (row.cps.toList++k) []=done.map (fun w=>w.cps.toList)++wc k []) :
  nA Ψ (fun _=>False) b_l_spaced_1 Z (spS ws n' row (sS w)):=by
 have hz:sizeLine=16777216:=QZ;have hwm:w∈ws:=by rw[e];simp
 have hdl:done.length+1<=ws.length:=by rw[e];simp
 obtain⟨t1,t2,t3⟩:=ho w hwm;have tf:=(ho w hwm).free;delta spS b_l_spaced_1;simp?[↓lA];have rl:=repS_len (QD " ") (1+n' / 3 % 3);rw[blank_len]at rl;refine⟨by omega,by omega,by omega,by rw[blank_len];omega,?_,?_⟩;rw[Q2];omega
 ·refine hN _ ⟨done++[w],_,_,_,by rw[e];simp,rfl,?_,?_,?_⟩
  ·rw[Q2,Q2,QK,QAh]
   omega
  intro c h;rw[app_codes,app_codes,FC]at h;rcases qH.mp h with h|h;rcases qH.mp h with h|h
  ·exact hc c h
  exact .inr (t3 c h);exact .inl (WC h);intro k;obtain⟨m,hm⟩:∃m,(1+n' / 3 % 3).toNat=m+1:=⟨(1+n' / 3 % 3).toNat - 1,by omega⟩
  rw[app_codes,app_codes,FC,hm,qN,qN,hw,wc_word _ _ _ tf t1];simp
theorem ok_spaced{Ψ:PEv}(ds Q E)(h:UC.run ds Q E):ds.length=ps_l_spaced.length/\nA Ψ (fun _=>False) b_l_spaced (DA UC ps_l_spaced.length Q) (uA N_l_spaced UC.md ds):=by
 obtain⟨ws,n,rfl,hl,ho,q⟩:=h;refine kA [some (.nj (.d (.list (ws.map PyData.str)))),sI n,none,none] rfl rfl rfl ?_;have hz:sizeLine=16777216:=QZ;delta b_l_spaced;simp?[↓lA];refine⟨by omega,by omega,by rw[blank_len];omega,?_⟩;rw[<- map_dd];refine for_inv (fun w:Str=>T.d (.str w)) (SpW ws) ?_ ?_ _ _ ⟨[],n,_,none,rfl,rfl,?_,?_,?_⟩
 ·rintro ρ ⟨done,n',row,o3,e,rfl,hr,hc,hw⟩
  rw[Qi]at e;subst e;have hw0:=hw [];rw[Qi]at hw0;have hw0:wc row.cps.toList []=ws.map fun w=>w.cps.toList:=by rw[hw0];simp[wc]
  exact sp_end q (by omega) hc hw0
 ·rintro w rest ρ N hN ⟨done,n',row,o3,e,rfl,hr,hc,hw⟩
  exact sp_step hl ho hN e hr hc hw
 rw[repS_len,blank_len,wL];omega;intro c h;rw[FC]at h;exact .inl (WC h);intro k;rw[FC];exact wc_blanks _ _
theorem V_lm{ds:List D}{n m:Bool}{k:Int}{Q:T->Bool->Prop}:fC .Mult (.lst (ds.map T.d)) n (.d (.int k)) m Q=((-(2 ^ 31)<=k/\k<2 ^ 31/\ds.length * k.toNat<=sizeLine)/\Q (.lst ((QH k.toNat ds).flatten.map T.d)) true):=by
 unfold fC;rw[BD,zA];refine propext ⟨fun h=>?_,fun h=>.inr (.inr ⟨_,k,ds,rfl,rfl,dA _,h⟩)⟩;rcases h with⟨_,_,e,_⟩| ⟨_,_,e,_⟩| ⟨_,_,_,e1,e2,e3,h⟩
 cases e;cases e;cases e1;cases e2;rw[dA]at e3;cases e3;exact h
theorem V_l1m{d:D}{n m:Bool}{t:T}{Q:T->Bool->Prop}:fC .Mult (.lst [.d d]) n t m Q=fC .Mult (.lst ([d].map T.d)) n t m Q:=rfl
theorem w_enl{ds:List D}{n:Bool}{W:List T->Prop}:itV .enum [(.lst (ds.map T.d),n)] W=W (ds.zipIdx.map fun p=>.d (.tuple [.int (p.2:Int),p.1])):=by unfold itV iB;rw[BD];exact propext ⟨fun⟨_,_,_,e1,e2,e3,q⟩=>by cases e1;cases e2;rw[dA]at e3;cases e3;exact q,fun q=>⟨_,_,_,rfl,rfl,dA _,q⟩⟩
theorem unlock_0{J:List Nat}{ρ0 ρ:yA}{N:yA->Prop}(h:N ρ):unlock J [] ρ0 N ρ:=⟨fun _ z=>(by cases z),h⟩
theorem Reads.app{a b:List Str}{l m:List Rw}(h:Reads a l)(k:Reads b m):Reads (a++b) (l++m):=by
 induction h with
 |nil=>exact k
 |blank w n _ ih=>exact .blank w n ih
 |row w n _ ih=>exact .row w n ih
structure Wrt(rs:List Str)(l:List Rw):Prop where
 r:Reads rs l
 n:∀r∈rs,10∉r.cps.toList
 l:∀r∈rs,r.length<=900
theorem Wrt.app{a b:List Str}{l m:List Rw}(h:Wrt a l)(k:Wrt b m):Wrt (a++b) (l++m) :=
 ⟨h.r.app k.r,fun r hr=>(qH.mp hr).elim (h.n r) (k.n r),fun r hr=>(qH.mp hr).elim (h.l r) (k.l r)⟩
theorem wrt_blank(k:Int)(h:k<=900):Wrt [repS (QD " ") k] []:=by
 have e:Lib.wordsOf (repS (QD " ") k)=[]:=wordsOf_of (by rw[FC];have:=wc_blanks k.toNat [];rw[Qi]at this;rw[this];rfl);have l9:(repS (QD " ") k).length<=900:=by rw[repS_len,blank_len];omega
 refine⟨.blank e l9 .nil,fun r hr=>?_,fun r hr=>?_⟩<;>rw[Qz.mp hr];rw[FC];intro z;have:=WC z;omega;exact l9
theorem wrt_row{x:Rw}{r:Str}(h:RowS (lnS x) r):Wrt [r] [x] :=
 ⟨.row (x:=x) h.w h.l .nil,fun r' hr=>by rw[Qz.mp hr];exact h.n,fun r' hr=>by rw[Qz.mp hr];exact h.l⟩
theorem wrt_ends:∀m:Nat,Wrt (QH m (QD "")) []
 |0=>⟨.nil,fun _ h=>by simp at h,fun _ h=>by simp at h⟩
 |m+1=>by
  have e:QD ""=repS (QD " ") 0:=by decide +kernel
  have:=(wrt_blank 0 (by decide)).app (wrt_ends m);rw[<- e]at this;exact this
noncomputable abbrev lnD(x:Rw):D:=.list ((lnS x).map PyData.str)
noncomputable abbrev lnsT(l:List Rw):T:=.lst ((l.map lnD).map T.d)
noncomputable abbrev rsT(rs:List Str):T:=.lst ((rs.map PyData.str).map T.d)
noncomputable def sp_text:PSp where
 md:=[.nq,.nq]
 run:=fun ds Q _=>∃(l:List Rw) (ns:List Int),ds=[lnsT l,NB ns]/\AA ns/\l≠[]/\l.length<=200/\(∀x∈l,∃a,RowOk a x)/\∀t:Str,t.length<=1000000->Reads (qJ t "\n") l->Q (.d (.str t)) []
 mono:=fun h _ z=>by obtain⟨l,ns,e,b,n,c,o,q⟩:=z;exact⟨l,ns,e,b,n,c,o,fun t h1 h2=>h _ _ (q t h1 h2)⟩
noncomputable def txS(l:List Rw)(ns:List Int)(rs:List Str)(o3 o4 o5:Option Sl):yA:=[some (.nj (lnsT l)),some (.nj (NB ns)),some (.own (rsT rs)),o3,o4,o5]
theorem tx_1{Ψ:PEv}(h1:Ψ.sp "_law_draw"=HC)(h2:Ψ.sp "_law_spaced"=UC){Z:PEnds}{l:List Rw}{ns:List Int}{rs:List Str}{j:Nat}{x:Rw}{o5:Option Sl}(hb:AA ns)(hj:j<=300)(hr:rs.length<=1000){a:List Rw}(o:RowOk a x)
  (k:∀rs',Wrt rs' [x]->rs'.length<=2->∀o3 o4 o5,Z.nx (txS l ns (rs++rs') o3 o4 o5)):nA Ψ (fun _=>False) gD Z (txS l ns rs (sI (j:Int)) (some (.nj (.d (lnD x)))) o5):=by
 have hz:sizeLine=16777216:=QZ;have lx:(lnS x).length<=13:=by have:=o.few;show((PyData.str x.hd::x.vs).map txt).length<=13;rw[QG,QL];omega
 have lo:∀w∈lnS x,PB w:=fun w hw=>by obtain⟨d,hd,rfl⟩:=Q8.mp hw;exact(Good.txts o.good d hd).1
 delta txS at k ⊢;delta gD;simp?[↓oA (md:=[.nq]) h1 rfl rfl];refine run_draw hb (by omega) (by omega) ?_;delta b_l_text_by_r1;simp?[↓oA (md:=[]) h2 rfl rfl];refine ite2 (fun _=>⟨by omega,by omega,by rw[blank_len];omega,by simp;omega,run_spaced lx lo fun r hr'=>⟨rfl,by simp;omega,?_⟩⟩) fun _=>run_spaced lx lo fun r hr'=>⟨rfl,by simp;omega,?_⟩
 have k:=k [repS (QD " ") (bA ns (500+(j:Int)) / 6 % 4),r] ((wrt_blank _ (by omega)).app (wrt_row hr')) (by simp) (sI (j:Int)) (some (.nj (.d (lnD x)))) (some (.nj (.d (.int (bA ns (500+(j:Int)))))));have e:rsT (rs++[repS (QD " ") (bA ns (500+(j:Int)) / 6 % 4),r])=.lst ((rs.map PyData.str).map T.d++[T.d (.str (repS (QD " ") (bA ns (500+(j:Int)) / 6 % 4)))]++[T.d (.str r)]):=by simp
 rw[e]at k;exact k;have k:=k [r] (wrt_row hr') (by simp) (sI (j:Int)) (some (.nj (.d (lnD x)))) (some (.nj (.d (.int (bA ns (500+(j:Int)))))));have e:rsT (rs++[r])=.lst ((rs.map PyData.str).map T.d++[T.d (.str r)]):=by simp
 rw[e]at k;exact k
theorem run_text{l:List Rw}{ns:List Int}{K:T->List T->Prop}{E:XE}(b:AA ns)(n:l≠[])(c:l.length<=200)(o:∀x∈l,∃a,RowOk a x)(q:∀t:Str,t.length<=1000000->Reads (qJ t "\n") l->K (.d (.str t)) []):mC sp_text [lnsT l,NB ns] K E:=⟨l,ns,rfl,b,n,c,o,q⟩
theorem reps_1(z:Str)(m:Nat):(QH m [PyData.str z]).flatten=(QH m z).map PyData.str:=by
 induction m with
 |zero=>rfl
 |succ m ih=>rw[Qe,qF,ih,Qe];rfl
theorem ok_text{Ψ:PEv}(h1:Ψ.sp "_law_draw"=HC)(h2:Ψ.sp "_law_spaced"=UC)(ds Q E)(h:sp_text.run ds Q E):ds.length=ps_l_text_by.length/\nA Ψ (fun _=>False) b_l_text_by (DA sp_text ps_l_text_by.length Q) (uA N_l_text_by sp_text.md ds):=by
 obtain⟨l,ns,rfl,hb,ne,hl,ho,q⟩:=h;refine kA [some (.nj (lnsT l)),some (.nj (NB ns)),none,none,none,none] rfl rfl rfl ?_;have hz:sizeLine=16777216:=QZ;delta b_l_text_by;simp?[↓w_enl];refine⟨by omega,?_⟩;refine for_inv (fun(p:D×Nat)=>T.d (.tuple [.int (p.2:Int),p.1])) (fun xs ρ=>∃(done rest:List Rw) (rs:List Str) (o3 o4 o5:Option Sl),l=done++rest/\xs=(rest.map lnD).zipIdx done.length/\Wrt rs done/\rs.length<=2 * done.length/\ρ=txS l ns rs o3 o4 o5) ?_ ?_ _ _ ⟨[],l,[],none,none,none,rfl,rfl,⟨.nil,fun _ h=>(by cases h),fun _ h=>(by cases h)⟩,by simp,rfl⟩
 ·rintro ρ ⟨done,rest,rs,o3,o4,o5,e,ex,wr,hr,rfl⟩
  have:rest=[]:=by
   cases rest with
   |nil=>rfl
   |cons _ _=>simp at ex
  subst this;rw[Qi]at e;subst e;have rne:rs≠[]:=fun z=>by have:=wr.r;rw[z]at this;cases this;exact ne rfl
  refine unlock_0 ?_;change nA _ _ _ _ [some (.nj (lnsT l)),some (.nj (NB ns)),some (.own (rsT rs)),killS o3,killS o4,o5];generalize killS o3=o3;generalize killS o4=o4;simp?[↓oA (md:=[.nq]) h1 rfl rfl,↓V_l1m,↓V_lm];refine⟨by omega,?_⟩;refine run_draw hb (by omega) (by omega) ?_;simp?[↓V_l1m,↓V_lm,reps_1,<- Q6];have m3:(bA ns 890 % 3).toNat<=2:=by omega
  generalize (bA ns 890 % 3).toNat=m at m3 ⊢;have W:Wrt (rs++QH m (QD "")) l:=by
   have:=wr.app (wrt_ends m)
   rwa [Qi]at this
  have sm:=sum_le (fun z:Str=>z.length) 900 _ W.l;have ll:(rs++QH m (QD "")).length<=402:=by rw[QK,Q7];omega
  have en:QD "\n"=⟨#[10]⟩:=by decide +kernel
  have sp:qJ (WL (QD "\n") (rs++QH m (QD ""))) (QD "\n")=rs++QH m (QD ""):=by rw[en];exact split_join (fun z=>rne (QAc.mp z).1) W.n
  refine⟨by omega,by omega,by omega,by simp only[QG,Q7];omega,by rw[nl_len];omega,q _ ?_ (by rw[sp];exact W.r)⟩;rw[len_join,nl_len];omega
 ·rintro⟨y,i⟩ xs ρ N hN ⟨done,rest,rs,o3,o4,o5,e,ex,wr,hr,rfl⟩
  cases rest with
  |nil=>simp at ex
  |cons x rest =>
   rw[QS,wy,qj,QAQ]at ex;obtain⟨⟨rfl,rfl⟩,rfl⟩:=ex;obtain⟨a,o⟩:=ho x (by rw[e];simp);have dl:done.length<=200:=by have:=congrArg w6 e;rw[QK]at this;omega
   delta txS;simp only[↓bv_k,↓B_tp2,Wt,WF];change nA Ψ (fun _=>False) gD _ (txS l ns rs (sI (done.length:Int)) (some (.nj (.d (lnD x)))) o5);refine tx_1 h1 h2 hb (by omega) (by omega) o fun rs' w' l' o3 o4 o5=>hN _ ⟨done++[x],rest,rs++rs',o3,o4,o5,by rw[e];simp,by simp,wr.app w',by rw[QK,QK];simp;omega,rfl⟩
theorem row_good{l:List Rw}(t:Told l):∀x∈l,∃a,RowOk a x:=fun x hx=>by obtain⟨a,b,e⟩:=List.append_of_mem hx;exact⟨a,t a x b e⟩
theorem shw_rows{l:List Rw}(t:Told l):∀x∈l,x.vs.length<=12/\∀d∈x.vs,Shw d:=fun x hx=>by obtain⟨a,o⟩:=row_good t x hx;refine⟨o.few,fun d hd=>?_⟩;obtain⟨h1,h2⟩:=Good.txts o.good d (QJ _ hd);rcases h2 with⟨z,rfl⟩| h2;exact .inl ⟨z,rfl,by have:=h1.2.1;show(txt (.str z)).length<=100;omega⟩;exact .inr h2
theorem okN_rows{l:List Rw}(t:Told l):okN 4 (W4 l)=true:=by
 have hp:∀p∈JB l,okN 2 (pD p)=true:=fun p _=>rfl;have hm:∀m∈bB l,okN 2 (.str m)=true:=fun _ _=>rfl;have ha:∀p∈cB l,okN 2 (aD p)=true:=fun _ _=>rfl;have he:∀e∈evs l,okN 2 (eD e)=true:=fun e _=>by
  cases e with
  |see t p m w=>rfl
  |tell t p q m w b =>
   show(true&&(true&&(true&&(true&&(true&&(true&&((b.map PyData.str).all (fun x=>okN 0 x)&&true)))))))=true;have:(b.map PyData.str).all (fun x=>okN 0 x)=true:=by rw[QAl];exact Qn.mpr fun _ _=>rfl
   rw[this];rfl
 show(((JB l).map pD).all (fun x=>okN 2 x)&&(((bB l).map PyData.str).all (fun x=>okN 2 x)&&(((cB l).map aD).all (fun x=>okN 2 x)&&(((evs l).map eD).all (fun x=>okN 2 x)&&true))))=true;have all:∀{α:Type}(f:α->D) (k:List α),(∀x∈k,okN 2 (f x)=true)->(k.map f).all (fun x=>okN 2 x)=true:=fun f k h=>by rw[QAl];exact Qn.mpr h
 rw[all pD _ hp,all PyData.str _ hm,all aD _ ha,all eD _ he];rfl
theorem wR_len(ns:List Int):(rD ns).length<=200:=by have c1:=(cW_r ns).2;have m1:=(msW_len (seedW ns) (nW ns)).2;have g1:=agS_l ns (ms:=KB ns) (1+(cW ns:Int)) m1;have k1:=kW_r ns;have e1:(peopleW ns).length=cW ns:=psW_len ns (seedW ns) (cW ns);have e2:(eventsW ns).1.length=(kW ns).toNat:=evL_len _;have g1:(againstW ns).1.length<=15:=g1;have m1:(KB ns).length<=6:=m1;unfold rD wR;rw[QK,QK,QK,QG,QG,QG,QG];omega
theorem lines_er(l:List Rw):(T.lst (l.map lnT)).er=.list (l.map fun x=>.list ((lnS x).map PyData.str)):=by
 have e:∀x:Rw,(lnT x).er=.list ((lnS x).map PyData.str):=fun x=>by cases x<;>simp only[lnT,T.er,oC]
 have g:∀l:List Rw,ersT (l.map lnT)=l.map fun x=>.list ((lnS x).map PyData.str):=by
  intro l;induction l with
  |nil=>rfl
  |cons x l ih=>rw[QS,QS,ersT,ih,e]
 rw[T.er,g]
theorem run_sameT{n:Nat}{t:T}{x:D}{K:T->List T->Prop}{E:XE}(e:t.er=x)(o:okN n x=true)(q:K (.d (.bool true)) []):mC (tmpP (eA n) [.nj]) [t,.d x] K E:=⟨x,by rw[<- e];rfl,o,rfl,q⟩
theorem P_bt{t:T}{md:List Md}{xs:List (T×Bool)}{C:List T->Prop}:nC (.nj::md) ((t,true)::xs) C=nC md xs fun ts=>C (.d t.er::ts):=by
 unfold nC;show optP ((GA md xs []).map (T.d t.er::·)) C=_;cases GA md xs []with
 |none=>exact propext ⟨fun⟨_,e,_⟩=>(by cases e),fun⟨_,e,_⟩=>(by cases e)⟩
 |some ts=>exact propext ⟨fun⟨_,e,k⟩=>by cases e;exact⟨_,rfl,k⟩,fun⟨_,e,k⟩=>by cases e;exact⟨_,rfl,k⟩⟩
theorem S_hs{Ψ:PEv}{E:XE}{s r:PT}{Z:PEnds}{o:Option Sl}{σ:yA}:nA Ψ E (.seq (.hs s) r) Z (o::σ)=hsP s (fun ρ'=>nA Ψ E r Z ρ') (o::σ):=rfl
theorem ok_law{Ψ:PEv}(h1:Ψ.sp "_law_world"=sp_world)(h2:Ψ.sp "_law_text_by"=sp_text)(h3:Ψ.sp "_law_lines"=sp_lines)(h4:Ψ.sp "_law_same"=tmpP (eA 4) [.nj])(h5:Ψ.sp "read_world"=TB)(ds Q E)(h:pLaw.run ds Q E):ds.length=ps_law.length/\nA Ψ (fun _=>False) b_law (DA pLaw ps_law.length Q) (uA N_law pLaw.md ds):=by
 obtain⟨ns,hl,hb,rfl,q⟩:=h;have B:AA ns:=⟨hl,hb⟩
 have told:=told_rowsW ns;have es:srt (rD ns)=rD ns:=wR_srt _ _ _ _;have l2:=wR_len ns;have shw:=shw_rows told;have hp:JB (rD ns)≠[]:=by unfold rD;rw[wR_p];intro z;have e1:(peopleW ns).length=cW ns:=psW_len ns (seedW ns) (cW ns);have:=(cW_r ns).1;rw[z]at e1;simp at e1;omega
 have hm:bB (rD ns)≠[]:=by unfold rD;rw[wR_m];intro z;have:=(msW_len (seedW ns) (nW ns)).1;have z:msW (seedW ns) (nW ns)=[]:=z;rw[z]at this;simp at this
 have ne:rD ns≠[]:=fun z=>by rw[z]at hp;exact hp rfl
 have e5:AC (vA (T.lst ((rD ns).map lnT)) true)=some (lnsT (rD ns)):=by show AC (.d (T.lst ((rD ns).map lnT)).er)=_;rw[lines_er];exact shal_d _
 refine kA [some (.nj (NB ns)),none,none,none,none] rfl rfl rfl ?_;have hz:sizeLine=16777216:=QZ;delta b_law;simp?[↓oA (md:=[.nq]) h1 rfl rfl];refine run_world B ?_;rw[<- rowsW_W4];simp?[↓oA (md:=[.nq,.nq]) h2 rfl rfl,↓oA (md:=[]) h3 rfl rfl];refine run_lines (by rw[es];exact l2) (by rw[es];exact shw) ⟨rfl,?_⟩;rw[es];simp?[↓P_s e5];refine run_text B ne l2 (row_good told) fun t tl tr=>?_;simp?[↓oA (md:=[]) h5 rfl rfl];refine⟨t,rD ns,rfl,tl,tr,told,hp,hm,rfl,?_⟩;simp?[↓oA (md:=[.nj]) h4 rfl rfl,↓J_4];refine run_sameT (T4_er _) (okN_rows told) ⟨rfl,?_⟩;simp?[↓lA];rw[S_hs];refine⟨3,4,(secs (rD ns)).map lT,rfl,by decide,by show 4<5;decide,rfl,fun u hu=>?_,?_⟩;obtain⟨y,_,rfl⟩:=Q8.mp hu;exact⟨_,rfl⟩;simp?[↓oA (md:=[.nj]) h4 rfl rfl,↓oA (md:=[]) h5 rfl rfl];refine⟨t,rD ns,rfl,tl,tr,told,hp,hm,rfl,?_⟩;simp?[↓P_bt];refine run_sameT (T4_er _) (okN_rows told) ?_;simp?[↓lA];exact q
end L2.L3.K3
namespace L2.L3
open PySem PySem.Spec PyProof.Rows L2.L3.Q
theorem opt_cross{α β γ δ:Type}{o:Option α}{f:α->β×γ}{g:α->δ}{a:β×γ}{b:δ}(h1:o.map (fun s=>((f s).1,g s))=some (a.1,b))(h2:o.map (fun s=>(f s).2)=some a.2):o.map (fun s=>(f s,g s))=some (a,b):=by
 cases o with
 |none=>cases h1
 |some s=>obtain⟨e1,e2⟩:=QAR (Qw h1);have e3:(f s).2=a.2:=Qw h2;show some (f s,g s)=some (a,b);rw[e2,<- Prod.eta (f s),e1,e3]
theorem frA_in{h:Heap}:∀(as:List Addr),(frA as h).In h
 |[],a,o,e=>nomatch e
 |b::as,a,o,e=>by
  unfold frA at e;rw[w4]at e;cases c:h.get? b with
  |none=>rw[c]at e;exact frA_in as a o e
  |some o' =>
   rw[c]at e;have e:QAK a ((b,o')::frA as h)=some o:=e;rw[qM]at e;cases d:a==b with
   |true=>rw[d]at e;cases e;rw[beq_iff_eq.mp d];exact c
   |false=>rw[d]at e;exact frA_in as a o e
theorem seen_def{K:QA}{x:Str}{st:Stmt}(h:XA K x=EA x st)(hn:(EA x st).isSome=true):OA K x st:=by
 have hd:EA x st=some (fnV (qh x x (defArgs st) (RC st) (IA st) .none .none .none .none none .none .none) true):=by cases st<;>first|rfl|cases hn
 unfold XA at h;split at h;rename_i f hf;split at h;rename_i oc od fd osl hl;rw[hd]at h;injection h with h;obtain⟨a1,a2,a3,a4,a5,a6,a7,a8,a9,a10,a11,a12,a13,a14,a15⟩:=fd;unfold fnV at h;injection h with h1 h2;injection h2 with h2 h3;injection h1 with b1 h1;injection h1 with b2 h1;injection h1 with b3 h1;injection h1 with b4 b5;injection h2 with c1 h2;injection h2 with c2 h2;injection h2 with c3 c4;obtain⟨d1,d2⟩:=Wg.mp h3;simp only at b1 b2 b3 b4 b5 c1 c2 c3 c4 d1;subst b1 b2 b3 b4 b5 c1 c2 c3 c4;exact⟨f,_,hf,fun_mk hl d1 d2⟩;rw[hd]at h;cases h;rw[hd]at h;cases h
theorem seen_no{K:QA}{x:Str}(h:NC K x=true):Qt K mainGlobals x=some none:=by unfold NC at h;split at h;assumption;cases h
theorem scQ_d(u:Value):scQ u=(scD u).map QB9:=by cases u<;>rfl
theorem scQ_at{K:QA}{x:Str}{d:D}(h:valQ K x=some d):KD K x d:=by
 unfold valQ at h;split at h;rename_i u hu;rw[scQ_d]at h;cases e:scD u with
 |none=>rw[e]at h;cases h
 |some p=>obtain⟨v,d'⟩:=p;rw[e]at h;cases h;have ok:=(scD_ok (K:=K) e).2;refine⟨u,v,hu,?_,ok⟩;unfold scD at e;split at e<;>cases e<;>rfl
 cases h
theorem seen_int{K:QA}{x:Str}{i:Int}(h:valQ K x=some (.int i)):KD K x (.int i):=scQ_at h
theorem seen_str{K:QA}{x z:Str}(h:valQ K x=some (.str z)):KD K x (.str z):=scQ_at h
theorem scQ_map(its:List Value):its.map scQ=(its.map scD).map fun o=>o.map QB9:=by rw[wW];exact QBB fun u _=>scQ_d u
theorem tupD_at{K:QA}{f:Addr}{ds:List D}(h:tupD K f=some (ds.map some))(hz:ds.length<=sizeLine):∀F,Rep K F (.ref f) (.tuple ds):=by unfold tupD at h;split at h;rename_i t od its n sl hl;split at h;rename_i et;subst et;injection h with h;exact rep_at (its:=its.toList) (by simpa using hl) ((scQ_map _).symm.trans h) hz;cases h;cases h
noncomputable def smallD:D->Bool
 | .tuple ds=>decide (ds.length<=1000)
 |_=>true
theorem ent_of{K:QA}{w:World}:∀(es:List DictEntry) (kds:List (Str×D)),es.map (seeE K)=kds.map (dueE w)->(kds.all fun p=>smallD p.2)=true->Ent K w es kds
 |[],[],_,_=>.nil
 |[],_::_,h,_=>by cases h
 |_::_,[],h,_=>by cases h
 |⟨hs,ky,u⟩::es,(x,d)::kds,h,z=>by
  have hz:sizeLine=16777216:=QZ;rw[QS,QS]at h;obtain⟨h1,h2⟩:=QAO h;rw[Q5,QU]at z;have r:=ent_of es kds h2 z.2;unfold seeE dueE at h1;injection h1 with a1 h1;injection h1 with a2 a3;have a1:hs=WV w.params x:=a1;have a2:keyS ky=some x:=a2;have a3:seeV K u=dueV d:=a3;subst a1;obtain⟨t,rfl⟩:∃t,ky=.str x t:=by
   cases ky with
   |str y t=>cases a2;exact⟨t,rfl⟩
   |_=>cases a2
  unfold seeV at a3;cases e:refV u with
  |some f =>
   obtain rfl:u=.ref f:=by
    cases u with
    |ref g=>cases e;rfl
    |_=>cases e
   rw[e]at a3;cases d with
   |tuple ds=>have a3:(none,tupD K f)=((none,some (ds.map some)):Option D×Option (List (Option D))):=a3;have zz:ds.length<=1000:=of_decide_eq_true z.1;exact .cons rfl (tupD_at (QAR a3).2 (by omega)) r
   |_=>cases(QAR a3).1
  |none =>
   rw[e]at a3;cases d with
   |tuple ds=>cases(QAR a3).2
   |_=>exact .sc ((scQ_d u).symm.trans (QAR a3).1) r
theorem seen_dict{K:QA}{w:World}{x:Str}{kds:List (Str×D)}(h:tD K x=some (kds.map (dueE w)))(hn:nodupB (kds.map wj)=true)(hz:(kds.all fun p=>smallD p.2)=true):DictAt w K x kds:=by unfold tD at h;split at h;rename_i a ha;split at h;rename_i hs;split at h;rename_i t es ep sl hl;split at h;rename_i et;obtain⟨rfl,es0⟩:=et;injection h with h;have:sl=#[]:=Array.eq_empty_of_size_eq_zero es0;subst this;exact⟨a,es,ep,ha,hs,hl,ent_of _ _ h hz,nodupB_ok hn⟩;cases h;cases h;cases h;cases h
theorem seen_tup{K:QA}{x:Str}{ds:List D}(h:tupX K x=some (ds.map some))(hz:ds.length<=sizeLine):KD K x (.tuple ds):=by unfold tupX at h;split at h;rename_i f hf;exact⟨_,_,hf,rfl,tupD_at h hz⟩;cases h
theorem walk_seenW{l:PySem.W.OpenLaw}{k:Nat}{q:Program}{loose:List Str}{XP:(Str->Option Value)->Heap->Prop}{YP:World->Heap->Prop}{d:DefRec}{x:Str}{Fs:World->QA->Prop}
  (hn:l.most=some 63) (hdf:d.params.defaults=[]) (hr:Room k callerA) (hY:∀(w:World) (h:Heap),YP w h->∃K:QA,K.In h/\Fs w K)
  (F:∀(w:World) (mg:Str->Option Value) (fa:Addr) (h:Heap) (K:QA),K.In h->Fs w K->h.Ns mainGlobals mg->mg d.name=some (.ref fa) ->
   ∃fd:FuncData,(∀(s:Shared) (u:Value),BindsTo s fd ⟨[u],[]⟩ [(x,u)]) /\
    ∀base:Heap,K.In base->base.Ns mainGlobals mg->FnOk l.prog w K mg base CX0 k fa fd [x] (lift K pLaw)) :
  PySem.W.WalkO q loose XP YP l.row.toRowW d [] (fun f vs=>PySem.call f vs):=by
 intro w s₀ s₁ mg mb G Y fa o pm cd doc dV kV ho hd hcd hD hmg hg args vals as hpre hlay hrd hwl hlo;obtain rfl:dV=.none:=PySem.W.Dflts.none hD hdf;obtain rfl:kV=.none:=PySem.W.Dflts.noKw hD;obtain⟨a,vs,ns,rfl,rfl,hobj,hints,hlen⟩:=Att.script_of hn hpre hwl;obtain⟨K,KX,fs⟩:=hY w _ Y;obtain⟨fd,hb,hF⟩:=F w mg fa _ K KX fs G.T.g hmg;refine PySem.W.enter_call (Wu (law_call KX G.T.g G.T.b G.T.builtins G.T.nolimit hg hobj hints (wF hlen (by decide)) hr hF hb (fun H hO hS=>law_sp _ H a ns hlen (bits_of hlay) hS) fun H e s'=>fun z=>z) fun r s' hq=>?_);obtain⟨rfl,h2,h3,h4⟩:=hq;exact⟨.inl ⟨.bool true,.bool true,[],rfl,fun _=>rfl,.bool true,Att.post_true l _,fun _=>⟨List.Pairwise.nil,fun _ hm=>(nomatch hm)⟩⟩,h2,h3,h4⟩
end L2.L3
namespace L2.L3.K3
open PySem PySem.Spec PyProof.Rows L2 L2.L3 L2.L3.Lib
noncomputable def spT:List (Str×PSp):=[("_law_draw",HC),("_law_next",YB),("_law_keywords",sB),("_law_name",aC),("_law_against",vC),("_law_event",oD),("_law_world",sp_world),("_law_spaced",UC),("_law_text_by",sp_text),("_law_lines",sp_lines),("words_in",yC),("is_made_of",zB),("is_word",HB),("is_name",kC),("number_in",GB),("number_within",BA),("value_of",zC),("values_by",oB),("form_for",XB),("are_unlike",LA),("row_of",BC),("names_of",rB),("is_told",ZC),("quote_in",pB),("has_stranger",RA),("check_row",tmpP jB [.nj]),("entry_of",UB),("read_world",TB),("_law_same",tmpP (eA 4) [.nj]),("law",pLaw)]
noncomputable def vaT:List (Str×D):=[("KEYWORDS",.tuple (keys.map PyData.str)),("LETTERS",.str JC),("FIGURES",.str dD),("MOST_LETTERS",.int 8),("MOST_FIGURES",.int 9),("MOST_QUOTED",.int 6),("NAMED",.tuple (named.map PyData.str)),("WORDING_ENDS",.int 6),("MOST",mostD)]
noncomputable def dcT:List (Str×List (Str×D)):=[("FORMS",formsL),("RANGES",iC),("UNLIKE",sC),("SECTIONS",mB),("PEOPLE_AT",CA),("MATTERS_AT",iA)]
noncomputable def Ψ:PEv:=tblEv spT vaT dcT
noncomputable def lB(p:PSp):PEv:=tblEv (("_law_same",p)::spT) vaT dcT
theorem OB(p:PSp):(lB p).sp "_law_same"=p:=by kernel_rfl
noncomputable def Ψ_check_row(p:PSp):PEv:=tblEv (("check_row",p)::spT) vaT dcT
theorem f_check_row(p:PSp):(Ψ_check_row p).sp "check_row"=p:=by kernel_rfl
theorem e_l_draw:Ψ.sp "_law_draw"=HC:=by kernel_rfl
theorem e_l_next:Ψ.sp "_law_next"=YB:=by kernel_rfl
theorem e_l_keywords:Ψ.sp "_law_keywords"=sB:=by kernel_rfl
theorem e_l_name:Ψ.sp "_law_name"=aC:=by kernel_rfl
theorem e_l_against:Ψ.sp "_law_against"=vC:=by kernel_rfl
theorem e_l_event:Ψ.sp "_law_event"=oD:=by kernel_rfl
theorem e_l_world:Ψ.sp "_law_world"=sp_world:=by kernel_rfl
theorem e_l_spaced:Ψ.sp "_law_spaced"=UC:=by kernel_rfl
theorem e_l_text_by:Ψ.sp "_law_text_by"=sp_text:=by kernel_rfl
theorem e_l_lines:Ψ.sp "_law_lines"=sp_lines:=by kernel_rfl
theorem e_words_in:Ψ.sp "words_in"=yC:=by kernel_rfl
theorem e_is_made_of:Ψ.sp "is_made_of"=zB:=by kernel_rfl
theorem e_is_word:Ψ.sp "is_word"=HB:=by kernel_rfl
theorem e_is_name:Ψ.sp "is_name"=kC:=by kernel_rfl
theorem e_number_in:Ψ.sp "number_in"=GB:=by kernel_rfl
theorem e_number_within:Ψ.sp "number_within"=BA:=by kernel_rfl
theorem e_value_of:Ψ.sp "value_of"=zC:=by kernel_rfl
theorem e_values_by:Ψ.sp "values_by"=oB:=by kernel_rfl
theorem e_form_for:Ψ.sp "form_for"=XB:=by kernel_rfl
theorem e_are_unlike:Ψ.sp "are_unlike"=LA:=by kernel_rfl
theorem e_row_of:Ψ.sp "row_of"=BC:=by kernel_rfl
theorem e_names_of:Ψ.sp "names_of"=rB:=by kernel_rfl
theorem e_is_told:Ψ.sp "is_told"=ZC:=by kernel_rfl
theorem e_quote_in:Ψ.sp "quote_in"=pB:=by kernel_rfl
theorem e_has_stranger:Ψ.sp "has_stranger"=RA:=by kernel_rfl
theorem e_check_row:Ψ.sp "check_row"=tmpP jB [.nj]:=by kernel_rfl
theorem e_entry_of:Ψ.sp "entry_of"=UB:=by kernel_rfl
theorem e_read_world:Ψ.sp "read_world"=TB:=by kernel_rfl
theorem e_l_same:Ψ.sp "_law_same"=tmpP (eA 4) [.nj]:=by kernel_rfl
theorem e_law:Ψ.sp "law"=pLaw:=by kernel_rfl
theorem v_KEYWORDS:Ψ.va "KEYWORDS"=some (.tuple (keys.map PyData.str)):=by kernel_rfl
theorem v_LETTERS:Ψ.va "LETTERS"=some (.str JC):=by kernel_rfl
theorem v_FIGURES:Ψ.va "FIGURES"=some (.str dD):=by kernel_rfl
theorem v_MOST_LETTERS:Ψ.va "MOST_LETTERS"=some (.int 8):=by kernel_rfl
theorem v_MOST_FIGURES:Ψ.va "MOST_FIGURES"=some (.int 9):=by kernel_rfl
theorem v_MOST_QUOTED:Ψ.va "MOST_QUOTED"=some (.int 6):=by kernel_rfl
theorem v_NAMED:Ψ.va "NAMED"=some (.tuple (named.map PyData.str)):=by kernel_rfl
theorem v_WORDING_ENDS:Ψ.va "WORDING_ENDS"=some (.int 6):=by kernel_rfl
theorem v_MOST:Ψ.va "MOST"=some (mostD):=by kernel_rfl
theorem v_FORMS:Ψ.dc "FORMS"=some formsL:=by kernel_rfl
theorem v_RANGES:Ψ.dc "RANGES"=some iC:=by kernel_rfl
theorem v_UNLIKE:Ψ.dc "UNLIKE"=some sC:=by kernel_rfl
theorem v_SECTIONS:Ψ.dc "SECTIONS"=some mB:=by kernel_rfl
theorem v_PEOPLE_AT:Ψ.dc "PEOPLE_AT"=some CA:=by kernel_rfl
theorem v_MATTERS_AT:Ψ.dc "MATTERS_AT"=some iA:=by kernel_rfl
theorem len0{α:Type}{us:List α}(h:us.length=0):us=[]:=WM.mp h
theorem len1{α:Type}{us:List α}(h:us.length=1):∃a0,us=[a0]:=by
 cases us with
 |nil=>cases h
 |cons x r=>obtain rfl:=len0 (QAn h);exact⟨x,rfl⟩
theorem len2{α:Type}{us:List α}(h:us.length=2):∃a0 a1,us=[a0,a1]:=by
 cases us with
 |nil=>cases h
 |cons x r=>obtain⟨b0,rfl⟩:=len1 (QAn h);exact⟨x,b0,rfl⟩
theorem len3{α:Type}{us:List α}(h:us.length=3):∃a0 a1 a2,us=[a0,a1,a2]:=by
 cases us with
 |nil=>cases h
 |cons x r=>obtain⟨b0,b1,rfl⟩:=len2 (QAn h);exact⟨x,b0,b1,rfl⟩
theorem len4{α:Type}{us:List α}(h:us.length=4):∃a0 a1 a2 a3,us=[a0,a1,a2,a3]:=by
 cases us with
 |nil=>cases h
 |cons x r=>obtain⟨b0,b1,b2,rfl⟩:=len3 (QAn h);exact⟨x,b0,b1,b2,rfl⟩
theorem all{P:Program}{w:World}{K:QA}{h:Heap}{mg:Str->Option Value}{fa:Addr}(X:K.In h)(G:h.Ns mainGlobals mg)(hfa:mg "law"=some (.ref fa))(d_l_draw:OA K "_law_draw" (top 46))(d_l_next:OA K "_law_next" (top 47))(d_l_keywords:OA K "_law_keywords" (top 45))(d_l_name:OA K "_law_name" (top 48))(d_l_against:OA K "_law_against" (top 49))(d_l_event:OA K "_law_event" (top 50))(d_l_world:OA K "_law_world" (top 51))(d_l_spaced:OA K "_law_spaced" (top 53))(d_l_text_by:OA K "_law_text_by" (top 55))(d_l_lines:OA K "_law_lines" (top 52))(d_words_in:OA K "words_in" (top 14))(d_is_made_of:OA K "is_made_of" (top 15))(d_is_word:OA K "is_word" (top 16))(d_is_name:OA K "is_name" (top 17))(d_number_in:OA K "number_in" (top 18))(d_number_within:OA K "number_within" (top 29))(d_value_of:OA K "value_of" (top 28))(d_values_by:OA K "values_by" (top 26))(d_form_for:OA K "form_for" (top 27))(d_are_unlike:OA K "are_unlike" (top 30))(d_row_of:OA K "row_of" (top 25))(d_names_of:OA K "names_of" (top 41))(d_is_told:OA K "is_told" (top 39))(d_quote_in:OA K "quote_in" (top 42))(d_has_stranger:OA K "has_stranger" (top 40))(d_check_row:OA K "check_row" (top 38))(d_entry_of:OA K "entry_of" (top 43))(d_read_world:OA K "read_world" (top 37))(d_l_same:OA K "_law_same" (top 54))(d_law:OA K "law" (top 56))(w_KEYWORDS:KD K "KEYWORDS" (.tuple (keys.map PyData.str)))(w_LETTERS:KD K "LETTERS" (.str JC))(w_FIGURES:KD K "FIGURES" (.str dD))(w_MOST_LETTERS:KD K "MOST_LETTERS" (.int 8))(w_MOST_FIGURES:KD K "MOST_FIGURES" (.int 9))(w_MOST_QUOTED:KD K "MOST_QUOTED" (.int 6))(w_NAMED:KD K "NAMED" (.tuple (named.map PyData.str)))(w_WORDING_ENDS:KD K "WORDING_ENDS" (.int 6))(w_MOST:KD K "MOST" (mostD))(w_FORMS:DictAt w K "FORMS" formsL)(w_RANGES:DictAt w K "RANGES" iC)(w_UNLIKE:DictAt w K "UNLIKE" sC)(w_SECTIONS:DictAt w K "SECTIONS" mB)(w_PEOPLE_AT:DictAt w K "PEOPLE_AT" CA)(w_MATTERS_AT:DictAt w K "MATTERS_AT" iA)(z_all:Qt K mainGlobals "all"=some none)(z_any:Qt K mainGlobals "any"=some none)(z_bool:Qt K mainGlobals "bool"=some none)(z_enumerate:Qt K mainGlobals "enumerate"=some none)(z_int:Qt K mainGlobals "int"=some none)(z_isinstance:Qt K mainGlobals "isinstance"=some none)(z_len:Qt K mainGlobals "len"=some none)(z_list:Qt K mainGlobals "list"=some none)(z_range:Qt K mainGlobals "range"=some none)(z_str:Qt K mainGlobals "str"=some none)(z_tuple:Qt K mainGlobals "tuple"=some none)(z_zip:Qt K mainGlobals "zip"=some none) :
  ∃fd:FuncData,(∀(s:Shared) (u:Value),BindsTo s fd ⟨[u],[]⟩ [("_law_script",u)])/\∀base:Heap,K.In base->base.Ns mainGlobals mg->FnOk P w K mg base CX0 35 fa fd ["_law_script"] (lift K pLaw):=by
 have VT:∀p∈vaT,KD K p.1 p.2:=by intro p hp;simp only[vaT,QI,QR,or_false]at hp;rcases hp with rfl|rfl|rfl|rfl|rfl|rfl|rfl|rfl|rfl;exact w_KEYWORDS;exact w_LETTERS;exact w_FIGURES;exact w_MOST_LETTERS;exact w_MOST_FIGURES;exact w_MOST_QUOTED;exact w_NAMED;exact w_WORDING_ENDS;exact w_MOST
 have DT:∀p∈dcT,DictAt w K p.1 p.2:=by intro p hp;simp only[dcT,QI,QR,or_false]at hp;rcases hp with rfl|rfl|rfl|rfl|rfl|rfl;exact w_FORMS;exact w_RANGES;exact w_UNLIKE;exact w_SECTIONS;exact w_PEOPLE_AT;exact w_MATTERS_AT
 have NT:∀y∈(["all","any","bool","enumerate","int","isinstance","len","list","range","str","tuple","zip"]:List Str),Qt K mainGlobals y=some none:=by intro y hy;simp only[QI,QR,or_false]at hy;rcases hy with rfl|rfl|rfl|rfl|rfl|rfl|rfl|rfl|rfl|rfl|rfl|rfl;exact z_all;exact z_any;exact z_bool;exact z_enumerate;exact z_int;exact z_isinstance;exact z_len;exact z_list;exact z_range;exact z_str;exact z_tuple;exact z_zip
 refine law_at X G d_law rfl hfa e_law (fun _ _ _ _ _ _ us hl=>by obtain⟨_,rfl⟩:=len1 hl;rfl) fun base kb nb f fd F hm=>?_;have H_l_draw:NA P w K mg base Ψ 1 "_law_draw":=YA X G d_l_draw cb_l_draw (by kernel_rfl) (fun _ _ _ _ _ _ us hl=>by obtain⟨_,_,rfl⟩:=len2 hl;rfl) (fun g hg=>by cases hg) (gA X G VT DT (by kernel_rfl) (by kernel_rfl)) (fun y hy=>NT y (JA (by kernel_rfl) y hy)) (by rw[e_l_draw];exact ok_draw );have H_l_next:NA P w K mg base Ψ 2 "_law_next":=YA X G d_l_next cb_l_next (by kernel_rfl) (fun _ _ _ _ _ _ us hl=>by obtain⟨_,_,rfl⟩:=len2 hl;rfl) (fun g hg=>by simp only[n_l_next,QI,QR,or_false]at hg;rcases hg with rfl<;>first|exact H_l_draw.mono (by decide)) (gA X G VT DT (by kernel_rfl) (by kernel_rfl)) (fun y hy=>NT y (JA (by kernel_rfl) y hy)) (by rw[e_l_next];exact ok_next e_l_draw);have H_l_keywords:NA P w K mg base Ψ 3 "_law_keywords":=YA X G d_l_keywords cb_l_keywords (by kernel_rfl) (fun _ _ _ _ _ _ us hl=>by obtain rfl:=len0 hl;rfl) (fun g hg=>by cases hg) (gA X G VT DT (by kernel_rfl) (by kernel_rfl)) (fun y hy=>NT y (JA (by kernel_rfl) y hy)) (by rw[e_l_keywords];exact ok_keywords );have H_l_name:NA P w K mg base Ψ 4 "_law_name":=YA X G d_l_name cb_l_name (by kernel_rfl) (fun _ _ _ _ _ _ us hl=>by obtain⟨_,_,rfl⟩:=len2 hl;rfl) (fun g hg=>by simp only[n_l_name,QI,QR,or_false]at hg;rcases hg with rfl<;>first|exact H_l_keywords.mono (by decide)) (gA X G VT DT (by kernel_rfl) (by kernel_rfl)) (fun y hy=>NT y (JA (by kernel_rfl) y hy)) (by rw[e_l_name];exact ok_name e_l_keywords);have H_l_against:NA P w K mg base Ψ 5 "_law_against":=YA X G d_l_against cb_l_against (by kernel_rfl) (fun _ _ _ _ _ _ us hl=>by obtain⟨_,_,_,rfl⟩:=len3 hl;rfl) (fun g hg=>by simp only[n_l_against,QI,QR,or_false]at hg;rcases hg with rfl<;>first|exact H_l_next.mono (by decide)) (gA X G VT DT (by kernel_rfl) (by kernel_rfl)) (fun y hy=>NT y (JA (by kernel_rfl) y hy)) (by rw[e_l_against];exact ok_against e_l_next);have H_l_event:NA P w K mg base Ψ 6 "_law_event":=YA X G d_l_event cb_l_event (by kernel_rfl) (fun _ _ _ _ _ _ us hl=>by obtain⟨_,_,_,_,rfl⟩:=len4 hl;rfl) (fun g hg=>by simp only[n_l_event,QI,QR,or_false]at hg;rcases hg with rfl|rfl|rfl<;>first|exact H_l_next.mono (by decide)|exact H_l_keywords.mono (by decide)|exact H_l_name.mono (by decide)) (gA X G VT DT (by kernel_rfl) (by kernel_rfl)) (fun y hy=>NT y (JA (by kernel_rfl) y hy)) (by rw[e_l_event];exact ok_event e_l_next e_l_keywords e_l_name);have H_l_world:NA P w K mg base Ψ 7 "_law_world":=YA X G d_l_world cb_l_world (by kernel_rfl) (fun _ _ _ _ _ _ us hl=>by obtain⟨_,rfl⟩:=len1 hl;rfl) (fun g hg=>by simp only[n_l_world,QI,QR,or_false]at hg;rcases hg with rfl|rfl|rfl|rfl|rfl<;>first|exact H_l_draw.mono (by decide)|exact H_l_next.mono (by decide)|exact H_l_name.mono (by decide)|exact H_l_against.mono (by decide)|exact H_l_event.mono (by decide)) (gA X G VT DT (by kernel_rfl) (by kernel_rfl)) (fun y hy=>NT y (JA (by kernel_rfl) y hy)) (by rw[e_l_world];exact ok_world e_l_draw e_l_next e_l_name e_l_against e_l_event);have H_l_spaced:NA P w K mg base Ψ 8 "_law_spaced":=YA X G d_l_spaced cb_l_spaced (by kernel_rfl) (fun _ _ _ _ _ _ us hl=>by obtain⟨_,_,rfl⟩:=len2 hl;rfl) (fun g hg=>by cases hg) (gA X G VT DT (by kernel_rfl) (by kernel_rfl)) (fun y hy=>NT y (JA (by kernel_rfl) y hy)) (by rw[e_l_spaced];exact ok_spaced );have H_l_text_by:NA P w K mg base Ψ 9 "_law_text_by":=YA X G d_l_text_by cb_l_text_by (by kernel_rfl) (fun _ _ _ _ _ _ us hl=>by obtain⟨_,_,rfl⟩:=len2 hl;rfl) (fun g hg=>by simp only[n_l_text_by,QI,QR,or_false]at hg;rcases hg with rfl|rfl<;>first|exact H_l_draw.mono (by decide)|exact H_l_spaced.mono (by decide)) (gA X G VT DT (by kernel_rfl) (by kernel_rfl)) (fun y hy=>NT y (JA (by kernel_rfl) y hy)) (by rw[e_l_text_by];exact ok_text e_l_draw e_l_spaced);have H_l_lines:NA P w K mg base Ψ 10 "_law_lines":=YA X G d_l_lines cb_l_lines (by kernel_rfl) (fun _ _ _ _ _ _ us hl=>by obtain⟨_,rfl⟩:=len1 hl;rfl) (fun g hg=>by cases hg) (gA X G VT DT (by kernel_rfl) (by kernel_rfl)) (fun y hy=>NT y (JA (by kernel_rfl) y hy)) (by rw[e_l_lines];exact ok_lines );have H_words_in:NA P w K mg base Ψ 11 "words_in":=YA X G d_words_in cb_words_in (by kernel_rfl) (fun _ _ _ _ _ _ us hl=>by obtain⟨_,rfl⟩:=len1 hl;rfl) (fun g hg=>by cases hg) (gA X G VT DT (by kernel_rfl) (by kernel_rfl)) (fun y hy=>NT y (JA (by kernel_rfl) y hy)) (by rw[e_words_in];exact ok_words_in );have H_is_made_of:NA P w K mg base Ψ 12 "is_made_of":=YA X G d_is_made_of cb_is_made_of (by kernel_rfl) (fun _ _ _ _ _ _ us hl=>by obtain⟨_,_,rfl⟩:=len2 hl;rfl) (fun g hg=>by cases hg) (gA X G VT DT (by kernel_rfl) (by kernel_rfl)) (fun y hy=>NT y (JA (by kernel_rfl) y hy)) (by rw[e_is_made_of];exact ok_is_made_of );have H_is_word:NA P w K mg base Ψ 13 "is_word":=YA X G d_is_word cb_is_word (by kernel_rfl) (fun _ _ _ _ _ _ us hl=>by obtain⟨_,rfl⟩:=len1 hl;rfl) (fun g hg=>by simp only[n_is_word,QI,QR,or_false]at hg;rcases hg with rfl<;>first|exact H_is_made_of.mono (by decide)) (gA X G VT DT (by kernel_rfl) (by kernel_rfl)) (fun y hy=>NT y (JA (by kernel_rfl) y hy)) (by rw[e_is_word];exact ok_is_word e_is_made_of v_LETTERS v_MOST_LETTERS);have H_is_name:NA P w K mg base Ψ 14 "is_name":=YA X G d_is_name cb_is_name (by kernel_rfl) (fun _ _ _ _ _ _ us hl=>by obtain⟨_,rfl⟩:=len1 hl;rfl) (fun g hg=>by simp only[n_is_name,QI,QR,or_false]at hg;rcases hg with rfl<;>first|exact H_is_word.mono (by decide)) (gA X G VT DT (by kernel_rfl) (by kernel_rfl)) (fun y hy=>NT y (JA (by kernel_rfl) y hy)) (by rw[e_is_name];exact ok_is_name e_is_word v_KEYWORDS);have H_number_in:NA P w K mg base Ψ 15 "number_in":=YA X G d_number_in cb_number_in (by kernel_rfl) (fun _ _ _ _ _ _ us hl=>by obtain⟨_,rfl⟩:=len1 hl;rfl) (fun g hg=>by simp only[n_number_in,QI,QR,or_false]at hg;rcases hg with rfl<;>first|exact H_is_made_of.mono (by decide)) (gA X G VT DT (by kernel_rfl) (by kernel_rfl)) (fun y hy=>NT y (JA (by kernel_rfl) y hy)) (by rw[e_number_in];exact ok_number_in e_is_made_of v_FIGURES v_MOST_FIGURES);have H_number_within:NA P w K mg base Ψ 16 "number_within":=YA X G d_number_within cb_number_within (by kernel_rfl) (fun _ _ _ _ _ _ us hl=>by obtain⟨_,_,rfl⟩:=len2 hl;rfl) (fun g hg=>by simp only[n_number_within,QI,QR,or_false]at hg;rcases hg with rfl<;>first|exact H_number_in.mono (by decide)) (gA X G VT DT (by kernel_rfl) (by kernel_rfl)) (fun y hy=>NT y (JA (by kernel_rfl) y hy)) (by rw[e_number_within];exact ok_number_within e_number_in);have H_value_of:NA P w K mg base Ψ 17 "value_of":=YA X G d_value_of cb_value_of (by kernel_rfl) (fun _ _ _ _ _ _ us hl=>by obtain⟨_,_,rfl⟩:=len2 hl;rfl) (fun g hg=>by simp only[n_value_of,QI,QR,or_false]at hg;rcases hg with rfl|rfl|rfl<;>first|exact H_is_name.mono (by decide)|exact H_is_word.mono (by decide)|exact H_number_within.mono (by decide)) (gA X G VT DT (by kernel_rfl) (by kernel_rfl)) (fun y hy=>NT y (JA (by kernel_rfl) y hy)) (by rw[e_value_of];exact ok_value_of e_is_name e_is_word e_number_within v_NAMED v_RANGES);have H_values_by:NA P w K mg base Ψ 18 "values_by":=YA X G d_values_by cb_values_by (by kernel_rfl) (fun _ _ _ _ _ _ us hl=>by obtain⟨_,_,rfl⟩:=len2 hl;rfl) (fun g hg=>by simp only[n_values_by,QI,QR,or_false]at hg;rcases hg with rfl<;>first|exact H_value_of.mono (by decide)) (gA X G VT DT (by kernel_rfl) (by kernel_rfl)) (fun y hy=>NT y (JA (by kernel_rfl) y hy)) (by rw[e_values_by];exact ok_values_by e_value_of);have H_form_for:NA P w K mg base Ψ 19 "form_for":=YA X G d_form_for cb_form_for (by kernel_rfl) (fun _ _ _ _ _ _ us hl=>by obtain⟨_,rfl⟩:=len1 hl;rfl) (fun g hg=>by cases hg) (gA X G VT DT (by kernel_rfl) (by kernel_rfl)) (fun y hy=>NT y (JA (by kernel_rfl) y hy)) (by rw[e_form_for];exact ok_form_for v_FORMS v_MOST_QUOTED);have H_are_unlike:NA P w K mg base Ψ 20 "are_unlike":=YA X G d_are_unlike cb_are_unlike (by kernel_rfl) (fun _ _ _ _ _ _ us hl=>by obtain⟨_,rfl⟩:=len1 hl;rfl) (fun g hg=>by cases hg) (gA X G VT DT (by kernel_rfl) (by kernel_rfl)) (fun y hy=>NT y (JA (by kernel_rfl) y hy)) (by rw[e_are_unlike];exact ok_are_unlike v_UNLIKE);have H_row_of:NA P w K mg base Ψ 21 "row_of":=YA X G d_row_of cb_row_of (by kernel_rfl) (fun _ _ _ _ _ _ us hl=>by obtain⟨_,_,rfl⟩:=len2 hl;rfl) (fun g hg=>by simp only[n_row_of,QI,QR,or_false]at hg;rcases hg with rfl|rfl|rfl|rfl<;>first|exact H_words_in.mono (by decide)|exact H_values_by.mono (by decide)|exact H_form_for.mono (by decide)|exact H_are_unlike.mono (by decide)) (gA X G VT DT (by kernel_rfl) (by kernel_rfl)) (fun y hy=>NT y (JA (by kernel_rfl) y hy)) (by rw[e_row_of];exact ok_row_of e_words_in e_values_by e_form_for e_are_unlike);have H_names_of:NA P w K mg base Ψ 22 "names_of":=YA X G d_names_of cb_names_of (by kernel_rfl) (fun _ _ _ _ _ _ us hl=>by obtain⟨_,rfl⟩:=len1 hl;rfl) (fun g hg=>by cases hg) (gA X G VT DT (by kernel_rfl) (by kernel_rfl)) (fun y hy=>NT y (JA (by kernel_rfl) y hy)) (by rw[e_names_of];exact ok_names_of );have H_is_told:NA P w K mg base Ψ 23 "is_told":=YA X G d_is_told cb_is_told (by kernel_rfl) (fun _ _ _ _ _ _ us hl=>by obtain⟨_,_,rfl⟩:=len2 hl;rfl) (fun g hg=>by simp only[n_is_told,QI,QR,or_false]at hg;rcases hg with rfl<;>first|exact H_names_of.mono (by decide)) (gA X G VT DT (by kernel_rfl) (by kernel_rfl)) (fun y hy=>NT y (JA (by kernel_rfl) y hy)) (by rw[e_is_told];exact ok_is_told e_names_of);have H_quote_in:NA P w K mg base Ψ 24 "quote_in":=YA X G d_quote_in cb_quote_in (by kernel_rfl) (fun _ _ _ _ _ _ us hl=>by obtain⟨_,rfl⟩:=len1 hl;rfl) (fun g hg=>by cases hg) (gA X G VT DT (by kernel_rfl) (by kernel_rfl)) (fun y hy=>NT y (JA (by kernel_rfl) y hy)) (by rw[e_quote_in];exact ok_quote_in v_WORDING_ENDS);have H_has_stranger:NA P w K mg base Ψ 25 "has_stranger":=YA X G d_has_stranger cb_has_stranger (by kernel_rfl) (fun _ _ _ _ _ _ us hl=>by obtain⟨_,_,rfl⟩:=len2 hl;rfl) (fun g hg=>by simp only[n_has_stranger,QI,QR,or_false]at hg;rcases hg with rfl|rfl<;>first|exact H_names_of.mono (by decide)|exact H_quote_in.mono (by decide)) (gA X G VT DT (by kernel_rfl) (by kernel_rfl)) (fun y hy=>NT y (JA (by kernel_rfl) y hy)) (by rw[e_has_stranger];exact ok_has_stranger e_names_of e_quote_in v_PEOPLE_AT v_MATTERS_AT);have Y_check_row:NA P w K mg base (Ψ_check_row jB) 26 "check_row":=have_atR (R:=jB) (Ψ:=Ψ) X G d_check_row cb_check_row (by kernel_rfl) (fun _ _ _ _ _ _ us hl=>by obtain⟨_,_,_,rfl⟩:=len3 hl;rfl) (fun g hg=>by simp only[n_check_row,QI,QR,or_false]at hg;rcases hg with rfl|rfl<;>first|exact H_is_told.mono (by decide)|exact H_has_stranger.mono (by decide)) (gA X G VT DT (by kernel_rfl) (by kernel_rfl)) (fun y hy=>NT y (JA (by kernel_rfl) y hy)) (ok_check_row e_is_told e_has_stranger v_SECTIONS v_MOST) (f_check_row _);have H_check_row:NA P w K mg base Ψ 26 "check_row":=NA.tmp Y_check_row (by rw[f_check_row];rfl) rfl (by rw[f_check_row];exact e_check_row);have H_entry_of:NA P w K mg base Ψ 27 "entry_of":=YA X G d_entry_of cb_entry_of (by kernel_rfl) (fun _ _ _ _ _ _ us hl=>by obtain⟨_,rfl⟩:=len1 hl;rfl) (fun g hg=>by simp only[n_entry_of,QI,QR,or_false]at hg;rcases hg with rfl<;>first|exact H_quote_in.mono (by decide)) (gA X G VT DT (by kernel_rfl) (by kernel_rfl)) (fun y hy=>NT y (JA (by kernel_rfl) y hy)) (by rw[e_entry_of];exact ok_entry_of e_quote_in v_WORDING_ENDS);have H_read_world:NA P w K mg base Ψ 28 "read_world":=YA X G d_read_world cb_read_world (by kernel_rfl) (fun _ _ _ _ _ _ us hl=>by obtain⟨_,rfl⟩:=len1 hl;rfl) (fun g hg=>by simp only[n_read_world,QI,QR,or_false]at hg;rcases hg with rfl|rfl|rfl<;>first|exact H_row_of.mono (by decide)|exact H_check_row.mono (by decide)|exact H_entry_of.mono (by decide)) (gA X G VT DT (by kernel_rfl) (by kernel_rfl)) (fun y hy=>NT y (JA (by kernel_rfl) y hy)) (by rw[e_read_world];exact ok_read_world e_row_of e_check_row e_entry_of v_SECTIONS);have X_l_same:NA P w K mg base (lB pNo) 29 "_law_same":=have_noAt X G d_l_same cb_l_same (fun _ _ _ _ _ _ us hl=>by obtain⟨_,_,rfl⟩:=len2 hl;rfl) (by rw[OB];exact fun _ _ _ z=>z.elim);have Y0_l_same:NA P w K mg base (lB (eA 0)) 30 "_law_same":=have_atR (R:=eA 0) (Ψ:=lB pNo) X G d_l_same cb_l_same (by kernel_rfl) (fun _ _ _ _ _ _ us hl=>by obtain⟨_,_,rfl⟩:=len2 hl;rfl) (fun g hg=>by simp only[n_l_same,QI,QR,or_false]at hg;rcases hg with rfl<;>first|exact X_l_same.mono (by decide)) (gA X G VT DT (by kernel_rfl) (by kernel_rfl)) (fun y hy=>NT y (JA (by kernel_rfl) y hy)) (ok_same0) (OB _);have Y1_l_same:NA P w K mg base (lB (eA 1)) 31 "_law_same":=have_atR (R:=eA 1) (Ψ:=lB (eA 0)) X G d_l_same cb_l_same (by kernel_rfl) (fun _ _ _ _ _ _ us hl=>by obtain⟨_,_,rfl⟩:=len2 hl;rfl) (fun g hg=>by simp only[n_l_same,QI,QR,or_false]at hg;rcases hg with rfl<;>first|exact Y0_l_same.mono (by decide)) (gA X G VT DT (by kernel_rfl) (by kernel_rfl)) (fun y hy=>NT y (JA (by kernel_rfl) y hy)) (ok_same (OB _)) (OB _);have Y2_l_same:NA P w K mg base (lB (eA 2)) 32 "_law_same":=have_atR (R:=eA 2) (Ψ:=lB (eA 1)) X G d_l_same cb_l_same (by kernel_rfl) (fun _ _ _ _ _ _ us hl=>by obtain⟨_,_,rfl⟩:=len2 hl;rfl) (fun g hg=>by simp only[n_l_same,QI,QR,or_false]at hg;rcases hg with rfl<;>first|exact Y1_l_same.mono (by decide)) (gA X G VT DT (by kernel_rfl) (by kernel_rfl)) (fun y hy=>NT y (JA (by kernel_rfl) y hy)) (ok_same (OB _)) (OB _);have Y3_l_same:NA P w K mg base (lB (eA 3)) 33 "_law_same":=have_atR (R:=eA 3) (Ψ:=lB (eA 2)) X G d_l_same cb_l_same (by kernel_rfl) (fun _ _ _ _ _ _ us hl=>by obtain⟨_,_,rfl⟩:=len2 hl;rfl) (fun g hg=>by simp only[n_l_same,QI,QR,or_false]at hg;rcases hg with rfl<;>first|exact Y2_l_same.mono (by decide)) (gA X G VT DT (by kernel_rfl) (by kernel_rfl)) (fun y hy=>NT y (JA (by kernel_rfl) y hy)) (ok_same (OB _)) (OB _);have Y4_l_same:NA P w K mg base (lB (eA 4)) 34 "_law_same":=have_atR (R:=eA 4) (Ψ:=lB (eA 3)) X G d_l_same cb_l_same (by kernel_rfl) (fun _ _ _ _ _ _ us hl=>by obtain⟨_,_,rfl⟩:=len2 hl;rfl) (fun g hg=>by simp only[n_l_same,QI,QR,or_false]at hg;rcases hg with rfl<;>first|exact Y3_l_same.mono (by decide)) (gA X G VT DT (by kernel_rfl) (by kernel_rfl)) (fun y hy=>NT y (JA (by kernel_rfl) y hy)) (ok_same (OB _)) (OB _);have H_l_same:NA P w K mg base Ψ 34 "_law_same":=NA.tmp Y4_l_same (by rw[OB];rfl) rfl (by rw[OB];exact e_l_same);exact fn_def (R:=Ψ.sp "law") F cb_law (by kernel_rfl) (fun g hg=>by simp only[n_law,QI,QR,or_false]at hg;rcases hg with rfl|rfl|rfl|rfl|rfl<;>first|exact H_l_world.mono (by decide)|exact H_l_text_by.mono (by decide)|exact H_l_lines.mono (by decide)|exact H_read_world.mono (by decide)|exact H_l_same.mono (by decide)) (gA X G VT DT (by kernel_rfl) (by kernel_rfl)) (fun y hy=>QBR X G (NT y (JA (by kernel_rfl) y hy))) (by rw[e_law];exact ok_law e_l_world e_l_text_by e_l_lines e_l_same e_read_world)
noncomputable def hk:PySem.W.Hook:=⟨L2.L3.Q.SeenT,L2.L3.Q.obs,L2.L3.Q.due,fun w h=>∃K:QA,K.In h/\L2.L3.Q.seen K=L2.L3.Q.due w,fun _ _ e=>⟨_,frA_in _,e⟩,fun _ _ _ ⟨K,X,e⟩ k=>⟨K,X.keeps k,e⟩⟩
end L2.L3.K3
open PySem PySem.W PyProof.Rows
theorem L2.L3.K3.left:LeftO QN L2.L3.Q.qv ["FORMS","RANGES","UNLIKE","SECTIONS","PEOPLE_AT","MATTERS_AT"] (fun s=>xlAt L2.L3.Q.qv [] s&&recOk (RowW.records Qa.row.toRowW) s) (Hook.obs L2.L3.K3.hk) (Hook.val L2.L3.K3.hk) 6080:=fun w=>by
 have e:=World.withFollow_self w "special-get-raises";cases hb:w.params.followText "special-get-raises"<;>rw[hb]at e
 ·have h1:=L2.L3.Q.a_false w;have h2:=L2.L3.Q.b_false w;rw[e]at h1 h2;exact L2.L3.opt_cross h1 h2
 ·have h1:=L2.L3.Q.a_true w;have h2:=L2.L3.Q.b_true w;rw[e]at h1 h2;exact L2.L3.opt_cross h1 h2
set_option maxRecDepth 100000 in
set_option maxHeartbeats 0 in
theorem PySem.Challenge.cw_quoteweave_k05_worlds_read_holds : PySem.Challenge.rw_quoteweave_k05_worlds_read.Holds := by
 refine holds_law (by kernel_rfl) fun said=>?_;refine holds_open (q:=L2.L3.Q.qv) (loose:=["FORMS","RANGES","UNLIKE","SECTIONS","PEOPLE_AT","MATTERS_AT"]) (Xt:=(fun s=>xlAt L2.L3.Q.qv [] s&&recOk (RowW.records Qa.row.toRowW) s)) (XP:=XL L2.L3.Q.qv []) (Yf:=Hook.obs L2.L3.K3.hk) (Ya:=Hook.val L2.L3.K3.hk) (YP:=Hook.says L2.L3.K3.hk) (N:=6080) L2.L3.K3.left (Hook.of L2.L3.K3.hk) (Hook.keeps L2.L3.K3.hk) (fun s e=>xl_of s (Wg.mp e).1) XL.keeps (by rfl) (by rfl) (by rfl) (fun s e=>recFacts_of (Wg.mp e).2) (by rfl) (by first|assumption|decide +kernel) (by decide +kernel) ⟨rfl,rfl,rfl,rfl,rfl,by decide +kernel⟩ ?hw ?hc
 case hw=>w_witness2
 case hc =>
  refine L2.L3.walk_seenW (l:=Qa) (k:=35) (x:="_law_script") (Fs:=fun w K=>L2.L3.Q.seen K=L2.L3.Q.due w) rfl rfl ⟨rfl,by decide,by decide⟩ (fun w h Y=>Y) ?F
  case F =>
  intro w mg fa h K KX fs G hmg;injection fs with f1 fs;injection fs with f2 fs;injection fs with f3 fs;injection fs with f4 f5
  injection f1 with d0 f1
  injection f1 with d1 f1
  injection f1 with d2 f1
  injection f1 with d3 f1
  injection f1 with d4 f1
  injection f1 with d5 f1
  injection f1 with d6 f1
  injection f1 with d7 f1
  injection f1 with d8 f1
  injection f1 with d9 f1
  injection f1 with d10 f1
  injection f1 with d11 f1
  injection f1 with d12 f1
  injection f1 with d13 f1
  injection f1 with d14 f1
  injection f1 with d15 f1
  injection f1 with d16 f1
  injection f1 with d17 f1
  injection f1 with d18 f1
  injection f1 with d19 f1
  injection f1 with d20 f1
  injection f1 with d21 f1
  injection f1 with d22 f1
  injection f1 with d23 f1
  injection f1 with d24 f1
  injection f1 with d25 f1
  injection f1 with d26 f1
  injection f1 with d27 f1
  injection f1 with d28 f1
  injection f1 with d29 f1
  injection f2 with t0 f2
  injection f2 with t1 f2
  injection f2 with t2 f2
  injection f3 with i0 f3
  injection f3 with i1 f3
  injection f3 with i2 f3
  injection f3 with i3 f3
  injection f3 with i4 f3
  injection f3 with i5 f3
  injection f4 with z0 f4
  injection f4 with z1 f4
  injection f4 with z2 f4
  injection f4 with z3 f4
  injection f4 with z4 f4
  injection f4 with z5 f4
  injection f4 with z6 f4
  injection f4 with z7 f4
  injection f4 with z8 f4
  injection f4 with z9 f4
  injection f4 with z10 f4
  injection f4 with z11 f4
  injection f5 with q0 f5
  injection f5 with q1 f5
  injection f5 with q2 f5
  injection f5 with q3 f5
  injection f5 with q4 f5
  injection f5 with q5 f5
  exact L2.L3.K3.all KX G hmg (L2.L3.seen_def d0 (by kernel_rfl)) (L2.L3.seen_def d1 (by kernel_rfl)) (L2.L3.seen_def d2 (by kernel_rfl)) (L2.L3.seen_def d3 (by kernel_rfl)) (L2.L3.seen_def d4 (by kernel_rfl)) (L2.L3.seen_def d5 (by kernel_rfl)) (L2.L3.seen_def d6 (by kernel_rfl)) (L2.L3.seen_def d7 (by kernel_rfl)) (L2.L3.seen_def d8 (by kernel_rfl)) (L2.L3.seen_def d9 (by kernel_rfl)) (L2.L3.seen_def d10 (by kernel_rfl)) (L2.L3.seen_def d11 (by kernel_rfl)) (L2.L3.seen_def d12 (by kernel_rfl)) (L2.L3.seen_def d13 (by kernel_rfl)) (L2.L3.seen_def d14 (by kernel_rfl)) (L2.L3.seen_def d15 (by kernel_rfl)) (L2.L3.seen_def d16 (by kernel_rfl)) (L2.L3.seen_def d17 (by kernel_rfl)) (L2.L3.seen_def d18 (by kernel_rfl)) (L2.L3.seen_def d19 (by kernel_rfl)) (L2.L3.seen_def d20 (by kernel_rfl)) (L2.L3.seen_def d21 (by kernel_rfl)) (L2.L3.seen_def d22 (by kernel_rfl)) (L2.L3.seen_def d23 (by kernel_rfl)) (L2.L3.seen_def d24 (by kernel_rfl)) (L2.L3.seen_def d25 (by kernel_rfl)) (L2.L3.seen_def d26 (by kernel_rfl)) (L2.L3.seen_def d27 (by kernel_rfl)) (L2.L3.seen_def d28 (by kernel_rfl)) (L2.L3.seen_def d29 (by kernel_rfl)) (L2.L3.seen_tup t0 (by decide)) (L2.L3.seen_str i0) (L2.L3.seen_str i1) (L2.L3.seen_int i2) (L2.L3.seen_int i3) (L2.L3.seen_int i4) (L2.L3.seen_tup t1 (by decide)) (L2.L3.seen_int i5) (L2.L3.seen_tup t2 (by decide)) (L2.L3.seen_dict q0 (by kernel_rfl) (by kernel_rfl)) (L2.L3.seen_dict q1 (by kernel_rfl) (by kernel_rfl)) (L2.L3.seen_dict q2 (by kernel_rfl) (by kernel_rfl)) (L2.L3.seen_dict q3 (by kernel_rfl) (by kernel_rfl)) (L2.L3.seen_dict q4 (by kernel_rfl) (by kernel_rfl)) (L2.L3.seen_dict q5 (by kernel_rfl) (by kernel_rfl)) (L2.L3.seen_no z0) (L2.L3.seen_no z1) (L2.L3.seen_no z2) (L2.L3.seen_no z3) (L2.L3.seen_no z4) (L2.L3.seen_no z5) (L2.L3.seen_no z6) (L2.L3.seen_no z7) (L2.L3.seen_no z8) (L2.L3.seen_no z9) (L2.L3.seen_no z10) (L2.L3.seen_no z11)
